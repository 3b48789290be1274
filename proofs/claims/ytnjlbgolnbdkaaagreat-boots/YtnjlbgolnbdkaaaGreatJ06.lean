/- Texts of the proof of Boots, one behind the other. -/
import Derived.Test.YtnjlbgolnbdkaaaGreatJ05
import Derived.Deep.RegionWith
import Derived.Deep.CutRange
import Derived.OpenShut
import Derived.Test.YtnjlbgolnbdkaaaGreatJ04
/- The statement Slots: sorted. -/
namespace Go.Proofs.YtnjlbgolnbdkaaaGreat
open Go.RowKit

theorem held_row {w : World} {ao : Option Addr} {n cap : Nat} {zs : List Int} (h : Held w ao n cap zs) (hn : 0 < n) : ∃ b off, ao = some ⟨b, off, none⟩ ∧ Row w b off zs := by
  cases ao with
  | none => have := h.none rfl; have := h.cap1; omega
  | some ad =>
    obtain ⟨b, off, rfl, hr⟩ := ints_at (w := w) (a := ad) (k := .u8) (zs := zs) (fun i hi => h.cells ad rfl i _ (by simp [vals, List.getD_eq_getElem?_getD, List.getElem?_eq_getElem hi])) (by rw [h.len]; exact hn)
    exact ⟨b, off, rfl, hr⟩
theorem held_own {w : World} {base g cap : Nat} {zs : List Int} (h : w.ownsRow base 5 1 (.slice (some ⟨g, 0, none⟩) 16 cap) 16 (vals zs)) (hb : Bytes zs) (hc : cap ≤ 9223372036854775807) : Held w (some ⟨g, 0, none⟩) 16 cap zs := by
  have hl : zs.length = 16 := by have := h.1; rw [vals_length] at this; omega
  have hcap : 16 ≤ cap := by
    rcases h.2 with ⟨h1, _⟩ | ⟨g', cap', cur, hv, _, _, h1, h2, _⟩
    · simp at h1
    · simp at hv; obtain ⟨_, rfl⟩ := hv; omega
  refine ⟨hl, hcap, hc, hb, fun e => by simp at e, ?_, ?_⟩
  · intro ad e j u hu
    obtain rfl : ad = ⟨g, 0, none⟩ := by simpa using e.symm
    exact h.cells rfl j u hu
  · intro ad e _
    obtain rfl : ad = ⟨g, 0, none⟩ := by simpa using e.symm
    exact (h.lt g rfl).2
theorem conv_own {w : World} {base g cap : Nat} {zs : List Int} (h : w.ownsRow base 5 1 (.slice (some ⟨g, 0, none⟩) 16 cap) 16 (vals zs)) : (convert 22 9 (.slice (some ⟨g, 0, none⟩) 16 cap)).run Tryz.prog w = .ok (.string (strOf zs)) w := by
  have hl : zs.length = 16 := by have := h.1; rw [vals_length] at this; omega
  rw [run_convert_bytes_string w 22 9 5 _ _ _ Tryz.underlying22 Tryz.underlying5 Tryz.underlying9]
  refine run_bytesToString w ⟨g, 0, none⟩ 16 cap zs ?_
  have := run_loadCells_list (P := Tryz.prog) (w := w) ⟨g, 0, none⟩ (vals zs) (fun j v hv => h.cells rfl j v hv)
  rw [vals_length, hl] at this
  exact this
theorem lt_of_cell {w : World} {b o : Nat} {v : Value} (h : w.cell? ⟨b, o, none⟩ = some v) : b < w.heap.size := by
  rcases Nat.lt_or_ge b w.heap.size with h1 | h1
  · exact h1
  · simp [World.cell?, Array.getElem?_eq_none h1] at h
theorem held_lent {w : World} {x n : Nat} {zs : List Int} (hX : w.heap[x]? = some (.cells (vals (zs ++ [165, 165])).toArray 5 (0, 0))) (hl : zs.length = n) (hb : Bytes zs) (hn : n ≤ 140737488351232) : Held w (some ⟨x, 0, none⟩) n (n + 2) zs := by
  refine ⟨hl, by omega, by omega, hb, fun h => by simp at h, ?_, ?_⟩
  · intro ad e j u hu
    obtain rfl : ad = ⟨x, 0, none⟩ := by simpa using e.symm
    refine World.news_of_block hX j u ?_
    have hj : j < (vals zs).length := (List.getElem?_eq_some_iff.1 hu).1
    simp only [vals_append]
    rw [List.getElem?_append_left hj]
    exact hu
  · intro ad e _
    obtain rfl : ad = ⟨x, 0, none⟩ := by simpa using e.symm
    exact lt_of_block hX
end Go.Proofs.YtnjlbgolnbdkaaaGreat
/- The document's reader: byte, not. -/
namespace Go.Proofs.YtnjlbgolnbdkaaaGreat
open Go.RowKit

/- the reader in memory -/
def RdObj (bv : Value) (r : Rd) : Obj := .cells #[bv, .int .i64 r.pos, .int .i64 r.err, .int .i64 r.pl] 230 (0, 0)
structure RdAt (rb : Nat) (ao : Option Addr) (n cap : Nat) (zs : List Int) (r : Rd) (w : World) : Prop where
  obj : w.heap[rb]? = some (RdObj (.slice ao n cap) r)
  held : Held w ao n cap zs
  apart : ∀ ad, ao = some ad → 0 < n → ad.block ≠ rb
  small : n ≤ 140737488351232
  pos : r.pos ≤ n
theorem RdAt.touch {rb : Nat} {ao : Option Addr} {n cap : Nat} {zs : List Int} {r : Rd} {w w' : World} (h : RdAt rb ao n cap zs r w) {B : Nat} (b : Below B w w') (hb : rb < B) (hz : ∀ ad, ao = some ad → 0 < n → ad.block < B) : RdAt rb ao n cap zs r w' :=
  ⟨(b.block rb hb).trans h.obj, h.held.touch (S := fun k => B ≤ k) ⟨b.os, b.tape, b.output, b.size, fun k _ hs => b.block k (by omega)⟩ (fun ad e hn hs => by have := hz ad e hn; omega), h.apart, h.small, h.pos⟩

theorem ret_of {a b : Int} (h : a = b) : Ending.returned (.int .i64 a) = .returned (.int .i64 b) := by rw [h]

set_option maxRecDepth 100000 in
set_option maxHeartbeats 2000000 in
theorem byte_any (rb : Nat) (ao : Option Addr) (n cap : Nat) (zs : List Int) (r : Rd) (lo hi : Int) (w : World) (h : RdAt rb ao n cap zs r w) :
    Calls Tryz.prog 132 #[.pointer (some ⟨rb, 0, none⟩), .int .i64 lo, .int .i64 hi] w fun e w' => e = .returned (.int .i64 (rdB zs lo hi r).1) ∧ RdAt rb ao n cap zs (rdB zs lo hi r).2 w' ∧ Touch (· = rb) w w' := by
  have hr := h.obj
  have c0 : w.cell? ⟨rb, 0, none⟩ = some (.slice ao n cap) := by rw [cell_of_row _ _ _ _ _ _ hr]; rfl
  have c1 : w.cell? ⟨rb, 1, none⟩ = some (.int .i64 r.pos) := by rw [cell_of_row _ _ _ _ _ _ hr]; rfl
  have c2 : w.cell? ⟨rb, 2, none⟩ = some (.int .i64 r.err) := by rw [cell_of_row _ _ _ _ _ _ hr]; rfl
  have c3 : w.cell? ⟨rb, 3, none⟩ = some (.int .i64 r.pl) := by rw [cell_of_row _ _ _ _ _ _ hr]; rfl
  have f1 := free_of_block hr 1
  have f2 := free_of_block hr 2
  have f3 := free_of_block hr 3
  have hlen := h.held.len
  have hp := h.pos
  have hsm := h.small
  have hn0 : (0 : Int) ≤ (n : Int) := by omega
  have H := hide h
  -- how a reader that has turned stands behind two stores
  have back : Hid (∀ (r' : Rd) (w' : World), w'.heap[rb]? = some (RdObj (.slice ao n cap) r') → Touch (· = rb) w w' → r'.pos ≤ n → RdAt rb ao n cap zs r' w') := fun r' w' ho ht hp' => ⟨ho, H.out.held.touch ht (fun ad e hn hs => H.out.apart ad e hn hs), H.out.apart, H.out.small, hp'⟩
  have t2 : Hid (∀ nq o v o' v', Touch (· = rb) w (((w.drewN nq).setCell ⟨rb, o, none⟩ v).setCell ⟨rb, o', none⟩ v')) := fun nq o v o' v' => Touch.trans (T := (· = rb)) (Touch.trans (T := (· = rb)) (Touch.ofDrewN w nq) (Touch.ofSet _ rb o v rfl) (fun i hi => .inl hi)) (Touch.ofSet _ rb o' v' rfl) (fun i hi => .inl hi)
  have t1 : Hid (∀ nq o v, Touch (· = rb) w ((w.drewN nq).setCell ⟨rb, o, none⟩ v)) := fun nq o v => Touch.trans (T := (· = rb)) (Touch.ofDrewN w nq) (Touch.ofSet _ rb o v rfl) (fun i hi => .inl hi)
  have HOBJ := hide hr
  clear h hr
  by_cases h1 : r.err = 0
  · have b1 : (r.err != 0) = false := by simp [h1]
    by_cases h2 : zs.length ≤ r.pos
    · have HR : Hid (rdB zs lo hi r = (lo, { r with err := 2, pl := zs.length })) := by show _ = _; unfold rdB; rw [if_neg (by simpa using h1), if_pos h2]
      have h2' : (n : Int) ≤ (r.pos : Int) := by omega
      have HL := hide hlen
      clear h1 h2 hlen
      go_enter Tryz.func132, Tryz.ntmps132
      go_wp2
      go_quiet (fail)
      go_wp2
      go_ret
      rw [HR.out]
      refine ⟨rfl, back.out _ _ ?_ (t2.out _ _ _ _ _) hp, t2.out _ _ _ _ _⟩
      rw [block_set (block_set (w := w.drewN nq) HOBJ.out 2 _) 3 _, HL.out]
      rfl
    · have h2' : (r.pos : Int) < (n : Int) := by omega
      obtain ⟨ad, b, off, hao, hcell, hzb⟩ : ∃ ad b off, ao = some ad ∧ (ad = ⟨b, off, none⟩ ∧ w.cell? ⟨b, off + r.pos, none⟩ = some (.int .u8 (zs.getD r.pos 0))) ∧ (0 ≤ zs.getD r.pos 0 ∧ zs.getD r.pos 0 < 256) := by
        obtain ⟨b, off, hao, hrow⟩ := held_row H.out.held (by omega)
        exact ⟨_, b, off, hao, ⟨rfl, hrow r.pos (by omega)⟩, H.out.held.bytes.getD r.pos⟩
      obtain ⟨rfl, hc⟩ := hcell
      by_cases h3 : zs.getD r.pos 0 < lo ∨ hi < zs.getD r.pos 0
      · have HR : Hid (rdB zs lo hi r = (lo, { r with err := 3, pl := r.pos })) := by show _ = _; unfold rdB; rw [if_neg (by simpa using h1), if_neg h2, if_pos h3]
        have HL := hide hlen
        have HAO := hide hao
        subst hao
        clear h1 h2 hlen HAO
        generalize zs.getD r.pos 0 = z at hc hzb h3
        by_cases h4 : z < lo
        · clear h3
          go_enter Tryz.func132, Tryz.ntmps132
          go_wp2
          go_quiet (fail)
          go_wp2
          go_quiet (fail)
          go_wp2
          go_ret
          rw [HR.out]
          refine ⟨rfl, back.out _ _ ?_ (t2.out _ _ _ _ _) hp, t2.out _ _ _ _ _⟩
          rw [block_set (block_set (w := w.drewN _) HOBJ.out 2 _) 3 _]
          rfl
        · have h5 : hi < z := by omega
          clear h3
          go_enter Tryz.func132, Tryz.ntmps132
          go_wp2
          go_quiet (fail)
          go_wp2
          go_quiet (fail)
          go_wp2
          go_ret
          rw [HR.out]
          refine ⟨rfl, back.out _ _ ?_ (t2.out _ _ _ _ _) hp, t2.out _ _ _ _ _⟩
          rw [block_set (block_set (w := w.drewN _) HOBJ.out 2 _) 3 _]
          rfl
      · have HR : Hid (rdB zs lo hi r = (zs.getD r.pos 0, { r with pos := r.pos + 1 })) := by show _ = _; unfold rdB; rw [if_neg (by simpa using h1), if_neg h2, if_neg h3]
        have hp1 : r.pos + 1 ≤ n := by omega
        subst hao
        have h4 : ¬ zs.getD r.pos 0 < lo := by omega
        have h5 : ¬ hi < zs.getD r.pos 0 := by omega
        clear h1 h2 hlen h3
        generalize zs.getD r.pos 0 = z at hc hzb h4 h5 HR
        go_enter Tryz.func132, Tryz.ntmps132
        go_wp2
        go_quiet (fail)
        go_wp2
        go_quiet (fail)
        go_wp2
        go_ret
        rw [HR.out]
        refine ⟨rfl, back.out _ _ ?_ (t1.out _ _ _) hp1, t1.out _ _ _⟩
        rw [block_set (w := w.drewN _) HOBJ.out 1 _]
        rfl
  · have b1 : (r.err != 0) = true := by simpa using h1
    have HR : Hid (rdB zs lo hi r = (lo, r)) := by show _ = _; unfold rdB; rw [if_pos h1]
    clear h1
    go_enter Tryz.func132, Tryz.ntmps132
    go_wp2
    go_ret
    rw [HR.out]
    exact ⟨rfl, H.out, Touch.refl _ _⟩

set_option maxRecDepth 100000 in
set_option maxHeartbeats 2000000 in
theorem not_any (rb : Nat) (ao : Option Addr) (n cap : Nat) (zs : List Int) (r : Rd) (v bad : Int) (w : World) (h : RdAt rb ao n cap zs r w) :
    Calls Tryz.prog 134 #[.pointer (some ⟨rb, 0, none⟩), .int .i64 v, .int .i64 bad] w fun e w' => e = .returned (.tuple #[]) ∧ RdAt rb ao n cap zs (rdNot v bad r) w' ∧ Touch (· = rb) w w' := by
  have hr := h.obj
  have c1 : w.cell? ⟨rb, 1, none⟩ = some (.int .i64 r.pos) := by rw [cell_of_row _ _ _ _ _ _ hr]; rfl
  have c2 : w.cell? ⟨rb, 2, none⟩ = some (.int .i64 r.err) := by rw [cell_of_row _ _ _ _ _ _ hr]; rfl
  have c3 : w.cell? ⟨rb, 3, none⟩ = some (.int .i64 r.pl) := by rw [cell_of_row _ _ _ _ _ _ hr]; rfl
  have f2 := free_of_block hr 2
  have f3 := free_of_block hr 3
  have hp := h.pos
  have hsm := h.small
  have H := hide h
  have HOBJ := hide hr
  clear h hr
  by_cases h1 : r.err = 0
  · have b1 : (r.err == 0) = true := by simp [h1]
    by_cases h2 : v = bad
    · have HR : Hid (rdNot v bad r = { r with err := 3, pl := (r.pos : Int) - 1 }) := by show _ = _; unfold rdNot; rw [if_pos ⟨h1, h2⟩]
      have b2 : (v == bad) = true := by simp [h2]
      clear h1 h2
      go_enter Tryz.func134, Tryz.ntmps134
      go_wp2
      go_end0
      rw [HR.out]
      have t : Touch (· = rb) w ((w.setCell ⟨rb, 2, none⟩ (.int .i64 3)).setCell ⟨rb, 3, none⟩ (.int .i64 ((r.pos : Int) - 1))) := Touch.trans (T := (· = rb)) (Touch.ofSet w rb 2 _ rfl) (Touch.ofSet _ rb 3 _ rfl) (fun i hi => .inl hi)
      refine ⟨rfl, ⟨?_, H.out.held.touch t (fun ad e hn hs => H.out.apart ad e hn hs), H.out.apart, hsm, hp⟩, t⟩
      rw [block_set (block_set HOBJ.out 2 _) 3 _]
      rfl
    · have HR : Hid (rdNot v bad r = r) := by show _ = _; unfold rdNot; rw [if_neg (fun h => h2 h.2)]
      have b2 : (v == bad) = false := by simpa using h2
      clear h1 h2
      go_enter Tryz.func134, Tryz.ntmps134
      go_wp2
      go_end0
      rw [HR.out]
      exact ⟨rfl, H.out, Touch.refl _ _⟩
  · have HR : Hid (rdNot v bad r = r) := by show _ = _; unfold rdNot; rw [if_neg (fun h => h1 h.1)]
    have b1 : (r.err == 0) = false := by simpa using h1
    clear h1
    go_enter Tryz.func134, Tryz.ntmps134
    go_wp2
    go_end0
    rw [HR.out]
    exact ⟨rfl, H.out, Touch.refl _ _⟩
end Go.Proofs.YtnjlbgolnbdkaaaGreat
/- The document's reader: process. -/
namespace Go.Proofs.YtnjlbgolnbdkaaaGreat
open Go.RowKit

theorem Tryz.info210 : (Tryz.prog.info? 210).map (fun i => (i.zero, i.size, i.bytes)) = some (some (.agg #[.int .i64 0, .int .i64 0]), 2, 16) := by kernel_rfl
def insCells (code : List (Int × Int)) : List Value := code.flatMap fun c => [.int .i64 c.1, .int .i64 c.2]
theorem insCells_snoc (code : List (Int × Int)) (c : Int × Int) : insCells (code ++ [c]) = insCells code ++ [.int .i64 c.1, .int .i64 c.2] := by simp [insCells]
def CodeV (base : Nat) (v : Value) (code : List (Int × Int)) (w : World) : Prop := w.ownsRow base 210 2 v code.length (insCells code)
theorem own_keep {w w' : World} {base : Nat} {e : TypeId} {size : Nat} {v : Value} {n : Nat} {xs : List Value} (h : w.ownsRow base e size v n xs) (hs : ∀ b, v.ownBlock = some b → w'.heap[b]? = w.heap[b]?) : w'.ownsRow base e size v n xs := by
  obtain ⟨h1, h2⟩ := h
  rcases h2 with h2 | ⟨g, cap, cur, hv, hb, hh, r⟩
  · exact ⟨h1, .inl h2⟩
  · exact ⟨h1, .inr ⟨g, cap, cur, hv, hb, by rw [hs g (by rw [hv]; rfl)]; exact hh, r⟩⟩
theorem ints_one (xs : List Value) (h : ∀ u ∈ xs, ∃ k a, u = .int k a) : ∀ u ∈ xs, u.oneCell' = true := by
  intro u hu
  obtain ⟨k, a, rfl⟩ := h u hu
  rfl
theorem rdTo_length {α : Type} (f : Rd → α × Rd) (k : Nat) (r : Rd) : (rdTo f k r).1.length ≤ k := by
  induction k with
  | zero => simp [rdTo]
  | succ k ih =>
    show ((if (rdTo f k r).2.err ≠ 0 then _ else _) : List α × Rd).1.length ≤ k + 1
    split
    · omega
    · simp; omega

set_option maxRecDepth 100000 in
set_option maxHeartbeats 2000000 in
theorem process_any (rb : Nat) (ao : Option Addr) (n cap : Nat) (zs : List Int) (r : Rd) (w : World) (h : RdAt rb ao n cap zs r w) :
    Calls Tryz.prog 175 #[.pointer (some ⟨rb, 0, none⟩)] w fun e w' => ∃ v, e = .returned (.agg #[.int .i64 (rdProc zs r).1.prio, v]) ∧ CodeV w.heap.size v (rdProc zs r).1.code w' ∧ RdAt rb ao n cap zs (rdProc zs r).2 w' ∧ Touch (· = rb) w w' := by
  obtain ⟨i0, hi, hz0, hz1, hz2⟩ := info_parts Tryz.info210
  have hrb := lt_of_block h.obj
  have hlt : ∀ ad, ao = some ad → 0 < n → ad.block < w.heap.size := h.held.lt
  have HLT := hide hlt
  have H := hide h
  clear h hlt
  have HSP : Hid (rdProc zs r = (⟨(rdB zs 0 9 r).1, (rdTo (rdIns zs (rdB zs 1 20 (rdB zs 0 9 r).2).1) (rdB zs 1 20 (rdB zs 0 9 r).2).1.toNat (rdB zs 1 20 (rdB zs 0 9 r).2).2).1⟩, (rdTo (rdIns zs (rdB zs 1 20 (rdB zs 0 9 r).2).1) (rdB zs 1 20 (rdB zs 0 9 r).2).1.toNat (rdB zs 1 20 (rdB zs 0 9 r).2).2).2)) := rfl
  go_enter Tryz.func175, Tryz.ntmps175
  go_wp2_with fail
  have h1 : RdAt rb ao n cap zs r (w.alloc (.cells #[.int .i64 0, .slice none 0 0] 190)) := H.out.touch (B := w.heap.size) ((Below.refl _ _).alloc (Nat.le_refl _) _) hrb HLT.out
  refine (byte_any rb ao n cap zs r 0 9 _ h1).mono ?_
  rintro e w1 ⟨rfl, hr1, ht1⟩
  have hs1 : w.heap.size + 1 ≤ w1.heap.size := by have := ht1.size; simp at this; exact this
  have hB1 : w1.heap[w.heap.size]? = some (.cells #[.int .i64 0, .slice none 0 0] 190 (0, 0)) := (ht1.block _ (by simp) (by omega)).trans (heap_alloc_new w _)
  have hT1 : Touch (· = rb) w w1 := Touch.trans (T := (· = rb)) (Touch.ofBelow ((Below.refl _ _).alloc (Nat.le_refl _) _)) ht1 (fun i hi => .inl hi)
  have hlt1 : ∀ ad, ao = some ad → 0 < n → ad.block < w1.heap.size := hr1.held.lt
  generalize hpr : (rdB zs 0 9 r).1 = prio at *
  generalize hr1' : (rdB zs 0 9 r).2 = r1 at *
  have h2 : RdAt rb ao n cap zs r1 (w1.alloc (.cells #[.int .i64 prio, .slice none 0 0] 190)) := hr1.touch (B := w1.heap.size) ((Below.refl _ _).alloc (Nat.le_refl _) _) (by omega) hlt1
  have HBY := hide (byte_any rb ao n cap zs r1 1 20 _ h2)
  have hN := rdB_val zs 1 20 r1 (by omega)
  generalize hNN : (rdB zs 1 20 r1).1 = N at *
  generalize hrr : (rdB zs 1 20 r1).2 = r2 at *
  have H1 := hide (And.intro hB1 hT1)
  have HHH := hide (And.intro hpr (And.intro hr1' (And.intro hNN hrr)))
  clear h1 h2 hr1 ht1 hB1 hT1 hlt1 hpr hr1' hNN hrr
  go_wp2_with fail
  refine HBY.out.mono ?_
  rintro e w2 ⟨rfl, hr2, ht2⟩
  have hs2 : w1.heap.size + 1 ≤ w2.heap.size := by have := ht2.size; simp at this; exact this
  have hC2 : w2.heap[w1.heap.size]? = some (.cells #[.int .i64 prio, .slice none 0 0] 190 (0, 0)) := (ht2.block _ (by simp) (by omega)).trans (heap_alloc_new w1 _)
  have hB2 : w2.heap[w.heap.size]? = some (.cells #[.int .i64 0, .slice none 0 0] 190 (0, 0)) := (ht2.block _ (by simp; omega) (by omega)).trans ((Below.heap_alloc _ _ _ (by omega)).trans H1.out.1)
  have hT2 : Touch (· = rb) w w2 := Touch.trans (T := (· = rb)) H1.out.2 (Touch.trans (T := (· = rb)) (Touch.ofBelow ((Below.refl _ _).alloc (Nat.le_refl _) _)) ht2 (fun i hi => .inl hi)) (fun i hi => .inl hi)
  have H2 := hide (And.intro hC2 (And.intro hB2 (And.intro hT2 hr2)))
  clear hC2 hB2 hT2 hr2 ht2 H1 HBY
  go_wp2
  go_loopw [5] (fun i wr => ∃ (k : Nat) (v : Value), (k : Int) ≤ N ∧ i = .int .i64 k ∧ wr.heap[w1.heap.size]? = some (.cells #[.int .i64 prio, v] 190 (0, 0)) ∧ wr.heap[w.heap.size]? = some (.cells #[.int .i64 0, .slice none 0 0] 190 (0, 0)) ∧
      CodeV (w1.heap.size + 1) v (rdTo (rdIns zs N) k r2).1 wr ∧ RdAt rb ao n cap zs (rdTo (rdIns zs N) k r2).2 wr ∧ Touch (· = rb) w wr) (fun i _ => N.toNat - (intOf i).toNat)
  case atStart => exact ⟨0, _, by omega, rfl, H2.out.1, H2.out.2.1, World.ownsRow_nil _ _ _ _, H2.out.2.2.2, H2.out.2.2.1⟩
  case round =>
    obtain ⟨k, v, hk, rfl, hC, hB, hV, hR, hT⟩ := hrel
    have hlen := rdTo_length (rdIns zs N) k r2
    have c2 : wr.cell? ⟨rb, 2, none⟩ = some (.int .i64 (rdTo (rdIns zs N) k r2).2.err) := by rw [cell_of_row _ _ _ _ _ _ hR.obj]; rfl
    have hws : w1.heap.size < wr.heap.size := lt_of_block hC
    by_cases hgo : (k : Int) < N ∧ (rdTo (rdIns zs N) k r2).2.err = 0
    · obtain ⟨hlt, he⟩ := hgo
      have HGO := hide (rdTo_go (rdIns zs N) k r2 he)
      have HBY := hide (fun lo hi => byte_any rb ao n cap zs (rdTo (rdIns zs N) k r2).2 lo hi wr hR)
      have b1 : ((rdTo (rdIns zs N) k r2).2.err == 0) = true := by simp [he]
      have H3 := hide (And.intro hC (And.intro hB (And.intro hV hT)))
      clear he hC hB hV hR hT
      generalize rdTo (rdIns zs N) k r2 = S at HGO HBY b1 H3 c2 hlen
      have HINS : Hid (rdIns zs N S.2 = (((rdB zs 0 13 S.2).1, (rdB zs 0 (if (rdB zs 0 13 S.2).1 = 4 then N - 1 else 255) (rdB zs 0 13 S.2).2).1), (rdB zs 0 (if (rdB zs 0 13 S.2).1 = 4 then N - 1 else 255) (rdB zs 0 13 S.2).2).2)) := rfl
      have hopb := rdB_val zs 0 13 S.2 (by omega)
      have HB0 := hide (HBY.out 0 13)
      generalize (rdB zs 0 13 S.2).1 = op at HINS HB0 hopb
      generalize (rdB zs 0 13 S.2).2 = Ra at HINS HB0
      clear HBY
      go_wp2_with fail
      refine HB0.out.mono ?_
      rintro e wA ⟨rfl, hrA, htA⟩
      have HBA := hide (fun hi => byte_any rb ao n cap zs Ra 0 hi wA hrA)
      have HTA := hide htA
      have hsA := htA.size
      clear hrA htA HB0
      obtain ⟨hiv, hhi⟩ : ∃ hiv, hiv = (if op = 4 then N - 1 else 255) := ⟨_, rfl⟩
      rw [← hhi] at HINS
      have HB1 := hide (HBA.out hiv)
      generalize hargv : (rdB zs 0 hiv Ra).1 = arg at HINS HB1
      generalize hrb' : (rdB zs 0 hiv Ra).2 = Rb at HINS HB1
      clear HBA hargv hrb'
      have hb4 : ((op == 4) = true ∧ hiv = N - 1) ∨ ((op == 4) = false ∧ hiv = 255) := by
        by_cases h4 : op = 4
        · exact .inl ⟨by simp [h4], by rw [hhi, if_pos h4]⟩
        · exact .inr ⟨by simpa using h4, by rw [hhi, if_neg h4]⟩
      clear hhi
      rcases hb4 with ⟨b4, hh⟩ | ⟨b4, hh⟩
      all_goals
        rw [hh] at HB1
        clear hh
        go_wp2_with fail
        refine HB1.out.mono ?_
        rintro e wB ⟨rfl, hrB, htB⟩
        have hsB := htB.size
        have tAB : Touch (· = rb) wr wB := Touch.trans (T := (· = rb)) HTA.out htB (fun i hi => .inl hi)
        have hCB : wB.heap[w1.heap.size]? = some (.cells #[.int .i64 prio, v] 190 (0, 0)) := (tAB.block _ hws (by omega)).trans H3.out.1
        have hBB : wB.heap[w.heap.size]? = some (.cells #[.int .i64 0, .slice none 0 0] 190 (0, 0)) := (tAB.block _ (by omega) (by omega)).trans H3.out.2.1
        have hVB : wB.ownsRow (w1.heap.size + 1) 210 2 v S.1.length (insCells S.1) := own_keep H3.out.2.2.1 (fun b e => tAB.block b (World.ownsRow.lt H3.out.2.2.1 b e).2 (by have := (World.ownsRow.lt H3.out.2.2.1 b e).1; omega))
        have d1 : wB.cell? ⟨w1.heap.size, 1, none⟩ = some v := by rw [cell_of_row _ _ _ _ _ _ hCB]; rfl
        have HVB := hide hVB
        have H4 := hide (And.intro hCB (And.intro hBB (And.intro tAB (And.intro hrB hVB))))
        clear hCB hBB tAB hrB hVB htB HB1
        go_wp2_with (at_builtin; go_must (refine wpList_append_lies _ rfl (.tmp 36) (.tmp 40) 162 rfl (w1.heap.size + 1) 210 i0 (.agg #[.int .i64 0, .int .i64 0]) 2 16 Tryz.underlying162 hi hz0 hz1 hz2 rfl (by decide) v S.1.length (insCells S.1) rfl (HVB.out.alloc _) ⟨wB.heap.size, 0, none⟩ 1 1 [.int .i64 op, .int .i64 arg] (by rfl) rfl (news_at wB #[.int .i64 op, .int .i64 arg] 210) (by intro u hu; simp at hu; rcases hu with rfl | rfl <;> rfl) (by omega) (by unfold maxLen; omega) (by omega) (by simp; omega) _ rfl ?_))
        intro g c w5 hown5 hgrow5 _ _
        obtain ⟨hCB, hBB, tAB, hrB, hVB⟩ := H4.out
        have hg5 := grown_alloc hgrow5
        have hge : ∀ b, v.ownBlock = some b → w1.heap.size + 1 ≤ b := fun b e => (World.ownsRow.lt hVB b e).1
        have hC5 : w5.heap[w1.heap.size]? = some (.cells #[.int .i64 prio, v] 190 (0, 0)) := (hg5.block _ (by omega) (fun e => by have := hge _ e.symm; omega)).trans hCB
        have hB5 : w5.heap[w.heap.size]? = some (.cells #[.int .i64 0, .slice none 0 0] 190 (0, 0)) := (hg5.block _ (by omega) (fun e => by have := hge _ e.symm; omega)).trans hBB
        have hb5 : Below (w1.heap.size + 1) wB w5 := (Below.refl _ _).grown hg5 (by omega) (fun k e => hge k e)
        have hs5 := hg5.size
        have hr5 : RdAt rb ao n cap zs Rb w5 := hrB.touch hb5 (by omega) (fun ad e hn => by have := HLT.out ad e hn; omega)
        have e1 : w5.cell? ⟨w1.heap.size, 1, none⟩ = some v := by rw [cell_of_row _ _ _ _ _ _ hC5]; rfl
        have f1 := free_of_block hC5 1
        have hT5 : Touch (· = rb) w w5 := Touch.trans (T := fun k => w1.heap.size + 1 ≤ k) (Touch.trans (T := (· = rb)) H3.out.2.2.2 tAB (fun i hi => .inl hi)) ⟨hb5.os, hb5.tape, hb5.output, hb5.size, fun k _ h => hb5.block k (by omega)⟩ (fun i hi => .inr (by omega))
        have H5 := hide (And.intro hC5 (And.intro hB5 (And.intro hr5 (And.intro hT5 hown5))))
        clear hCB hBB tAB hrB hVB hg5 hge hC5 hB5 hb5 hr5 hT5 hown5 hgrow5 H4 HVB d1
        go_wp2
        go_roundw
        case rel =>
          obtain ⟨hC5, hB5, hr5, hT5, hown5⟩ := H5.out
          have tS : Touch (· = w1.heap.size) w5 (w5.setCell ⟨w1.heap.size, 1, none⟩ (.slice (some ⟨g, 0, none⟩) (S.1.length + 1) c)) := Touch.ofSet w5 _ 1 _ rfl
          have hgg := (World.ownsRow.lt hown5 g rfl)
          refine ⟨k + 1, _, by omega, by go_num, block_set hC5 1 _, (tS.block _ (by omega) (by omega)).trans hB5, ?_, ?_, Touch.trans (T := (· = w1.heap.size)) hT5 tS (fun i hi => .inr (by omega))⟩
          · rw [HGO.out, HINS.out]
            show World.ownsRow _ _ _ _ _ _ _
            rw [insCells_snoc, List.length_append]
            exact own_keep hown5 (fun b e => by simp [Value.ownBlock] at e; subst e; exact tS.block g hgg.2 (by omega))
          · rw [HGO.out, HINS.out]
            exact ⟨(tS.block rb (by omega) (by omega)).trans hr5.obj, hr5.held.touch tS (fun ad e hn hs => by have := HLT.out ad e hn; omega), hr5.apart, hr5.small, hr5.pos⟩
        case measure => simp [intOf]; omega
    · have HFIN : Hid (rdTo (rdIns zs N) N.toNat r2 = rdTo (rdIns zs N) k r2) := by
        by_cases hkn : (k : Int) < N
        · exact rdTo_stop (rdIns zs N) k r2 (fun he => hgo ⟨hkn, he⟩) N.toNat (by omega)
        · obtain rfl : k = N.toNat := by omega
          rfl
      have p0 : wr.cell? ⟨w1.heap.size, 0, none⟩ = some (.int .i64 prio) := by rw [cell_of_row _ _ _ _ _ _ hC]; rfl
      have p1 : wr.cell? ⟨w1.heap.size, 1, none⟩ = some v := by rw [cell_of_row _ _ _ _ _ _ hC]; rfl
      have q0 : wr.cell? ⟨w.heap.size, 0, none⟩ = some (.int .i64 0) := by rw [cell_of_row _ _ _ _ _ _ hB]; rfl
      have q1 : wr.cell? ⟨w.heap.size, 1, none⟩ = some (.slice none 0 0) := by rw [cell_of_row _ _ _ _ _ _ hB]; rfl
      have g0 := free_of_block hB 0
      have g1 := free_of_block hB 1
      have H6 := hide (And.intro hV (And.intro hR hT))
      have hvf : Hid (∃ ad c, v = .slice ad (rdTo (rdIns zs N) k r2).1.length c) := by
        rcases hV.2 with ⟨h1, h2⟩ | ⟨g', cap', cur, hv, _⟩
        · exact ⟨none, 0, by rw [h1, h2]⟩
        · exact ⟨_, _, hv⟩
      obtain ⟨ad, cv, hv⟩ := hvf.out
      have hne : ¬ w1.heap.size = w.heap.size := by omega
      have hne' : ¬ w.heap.size = w1.heap.size := by omega
      clear hC hB hV hR hT hvf H2
      have hcase : ((k : Int) < N ∧ ((rdTo (rdIns zs N) k r2).2.err == 0) = false) ∨ ¬ (k : Int) < N := by
        by_cases hkn : (k : Int) < N
        · exact .inl ⟨hkn, by simp; exact fun he => hgo ⟨hkn, he⟩⟩
        · exact .inr hkn
      clear hgo
      generalize rdTo (rdIns zs N) k r2 = S at *
      subst hv
      rcases hcase with ⟨hkn, be⟩ | hkn
      all_goals
        go_wp2
        refine bodyPost_ret (v := .agg #[.int .i64 prio, .slice ad S.1.length cv]) (by simp [results, Tryz.results175, go_sem, q0, q1]) rfl ?_
        obtain ⟨hV, hR, hT⟩ := H6.out
        obtain ⟨hpr, hr1', hNN, hrr⟩ := HHH.out
        have tS : Touch (· = w.heap.size) wr ((wr.setCell ⟨w.heap.size, 0, none⟩ (.int .i64 prio)).setCell ⟨w.heap.size, 1, none⟩ (.slice ad S.1.length cv)) := Touch.trans (T := (· = w.heap.size)) (Touch.ofSet wr _ 0 _ rfl) (Touch.ofSet _ _ 1 _ rfl) (fun i hi => .inl hi)
        have hpp : rdProc zs r = (⟨prio, S.1⟩, S.2) := by rw [HSP.out, HFIN.out]
        rw [hpp]
        refine ⟨_, rfl, ?_, ?_, Touch.trans (T := (· = w.heap.size)) hT tS (fun i hi => .inr (by omega))⟩
        · have hV' := own_keep hV (fun b e => tS.block b (World.ownsRow.lt hV b e).2 (by have := (World.ownsRow.lt hV b e).1; omega))
          obtain ⟨h1, h2⟩ := hV'
          rcases h2 with h2 | ⟨g', cap, cur, hv, hb', rest⟩
          · exact ⟨h1, .inl h2⟩
          · exact ⟨h1, .inr ⟨g', cap, cur, hv, by omega, rest⟩⟩
        · exact ⟨(tS.block rb (by omega) (by omega)).trans hR.obj, hR.held.touch tS (fun ad e hn hs => by have := HLT.out ad e hn; omega), hR.apart, hR.small, hR.pos⟩
end Go.Proofs.YtnjlbgolnbdkaaaGreat
