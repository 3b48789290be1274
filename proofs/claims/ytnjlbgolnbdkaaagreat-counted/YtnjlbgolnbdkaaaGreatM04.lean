/- Texts of the proofs of Watched and Clocked, one behind the other. -/
import Derived.Test.YtnjlbgolnbdkaaaGreatM02
import Derived.Deep.CutBlock
/- Texts of the proof of Boots, one behind the other. -/
namespace Go.Proofs.YtnjlbgolnbdkaaaGreat
open Go.RowKit

def cfCells (f wt : Int) (vP vW vC : Value) : Array Value := #[.int .i64 f, .int .i64 wt, vP, vW, vC]
structure Mk (ao : Option Addr) (n cap : Nat) (zs : List Int) (w : World) (cells : Array Value) (r : Rd) (wr : World) : Prop where
  zero : wr.heap[w.heap.size]? = some (.cells (cfCells 0 0 (.slice none 0 0) (.slice none 0 0) (.slice none 0 0)) 71 (0, 0))
  cur : wr.heap[w.heap.size + 2]? = some (.cells cells 71 (0, 0))
  rd : RdAt (w.heap.size + 1) ao n cap zs r wr
  bel : Below w.heap.size w wr
section
variable {ao : Option Addr} {n cap : Nat} {zs : List Int} {w : World} {cells : Array Value} {r r' : Rd} {wr w' : World}
theorem Mk.byte (h : Mk ao n cap zs w cells r wr) (hr : RdAt (w.heap.size + 1) ao n cap zs r' w') (ht : Touch (· = w.heap.size + 1) wr w') : Mk ao n cap zs w cells r' w' :=
  ⟨(ht.block _ (lt_of_block h.zero) (by omega)).trans h.zero, (ht.block _ (lt_of_block h.cur) (by omega)).trans h.cur, hr, h.bel.trans (ht.below h.bel.size (fun k hk => by omega))⟩
theorem Mk.set (h : Mk ao n cap zs w cells r wr) (hlt : ∀ ad, ao = some ad → 0 < n → ad.block < w.heap.size) (o : Nat) (v : Value) : Mk ao n cap zs w (cells.setIfInBounds o v) r (wr.setCell ⟨w.heap.size + 2, o, none⟩ v) := by
  have t : Touch (· = w.heap.size + 2) wr (wr.setCell ⟨w.heap.size + 2, o, none⟩ v) := Touch.ofSet wr _ o v rfl
  exact ⟨(t.block _ (lt_of_block h.zero) (by omega)).trans h.zero, block_set h.cur o v, ⟨(t.block _ (lt_of_block h.rd.obj) (by omega)).trans h.rd.obj, h.rd.held.touch t (fun ad e hn hs => by have := hlt ad e hn; omega), h.rd.apart, h.rd.small, h.rd.pos⟩, h.bel.trans (t.below h.bel.size (fun k hk => by omega))⟩
theorem Mk.below (h : Mk ao n cap zs w cells r wr) (hlt : ∀ ad, ao = some ad → 0 < n → ad.block < w.heap.size) (b : Below (w.heap.size + 3) wr w') : Mk ao n cap zs w cells r w' :=
  ⟨(b.block _ (by omega)).trans h.zero, (b.block _ (by omega)).trans h.cur, h.rd.touch b (by omega) (fun ad e hn => by have := hlt ad e hn; omega), h.bel.trans (b.mono (by omega))⟩
theorem Mk.fin (h : Mk ao n cap zs w cells r wr) (x : Int) : Mk ao n cap zs w cells { r with fin := x } wr := ⟨h.zero, h.cur, ⟨h.rd.obj, h.rd.held, h.rd.apart, h.rd.small, h.rd.pos⟩, h.bel⟩
theorem Mk.start (hz : Held w ao n cap zs) (hn : n ≤ 140737488351232) : Mk ao n cap zs w (cfCells 0 0 (.slice none 0 0) (.slice none 0 0) (.slice none 0 0)) ⟨0, 0, 0, 0⟩ (((w.alloc (.cells (cfCells 0 0 (.slice none 0 0) (.slice none 0 0) (.slice none 0 0)) 71)).alloc (RdObj (.slice ao n cap) ⟨0, 0, 0, 0⟩)).alloc (.cells (cfCells 0 0 (.slice none 0 0) (.slice none 0 0) (.slice none 0 0)) 71)) := by
  generalize hO : Obj.cells (cfCells 0 0 (.slice none 0 0) (.slice none 0 0) (.slice none 0 0)) 71 = O
  have b : Below w.heap.size w (((w.alloc O).alloc (RdObj (.slice ao n cap) ⟨0, 0, 0, 0⟩)).alloc O) := (((Below.refl _ _).alloc (Nat.le_refl _) _).alloc (by simp) _).alloc (by simp; omega) _
  have h1 := heap_alloc_new (w.alloc O) (RdObj (.slice ao n cap) ⟨0, 0, 0, 0⟩)
  rw [show (w.alloc O).heap.size = w.heap.size + 1 from by simp] at h1
  have h2 := heap_alloc_new ((w.alloc O).alloc (RdObj (.slice ao n cap) ⟨0, 0, 0, 0⟩)) O
  rw [show ((w.alloc O).alloc (RdObj (.slice ao n cap) ⟨0, 0, 0, 0⟩)).heap.size = w.heap.size + 2 from by simp] at h2
  refine ⟨?_, by rw [h2, hO], ⟨?_, hz.touch (Touch.ofBelow (S := fun _ => False) b) (fun _ _ _ => id), fun ad e hn => by have := hz.lt ad e hn; omega, hn, Nat.zero_le _⟩, b⟩
  · rw [Below.heap_alloc _ _ _ (by simp; omega), Below.heap_alloc _ _ _ (by simp), heap_alloc_new, hO]
  · rw [Below.heap_alloc _ _ _ (by simp), h1]
end

theorem Tryz.info124 : (Tryz.prog.info? 124).map (fun i => (i.zero, i.size, i.bytes)) = some (some (.agg #[.bool false, .int .i64 0, .int .i64 0, .int .i64 0, .int .i64 0, .int .i64 0, .int .i64 0, .int .i64 0, .int .i64 0, .slice none 0 0]), 10, 96) := by kernel_rfl
theorem Tryz.info131 : (Tryz.prog.info? 131).map (fun i => (i.zero, i.size, i.bytes)) = some (some (.agg #[.int .i64 0, .int .i64 0, .int .i64 0]), 3, 24) := by kernel_rfl
theorem Tryz.info142 : (Tryz.prog.info? 142).map (fun i => (i.zero, i.size, i.bytes)) = some (some (.agg #[.int .i64 0, .int .i64 0, .int .i64 0]), 3, 24) := by kernel_rfl

end Go.Proofs.YtnjlbgolnbdkaaaGreat
namespace Go.Proofs.YtnjlbgolnbdkaaaGreat
open Go.RowKit

def IntsAt (w : World) (ao : Option Addr) (es : List Int) : Prop := ∀ i, i < es.length → ∃ b off, ao = some ⟨b, off, none⟩ ∧ w.cell? ⟨b, off + i, none⟩ = some (.int .i64 (es.getD i 0))
theorem ints_none (w : World) : IntsAt w none [] := fun i hi => by simp at hi

set_option maxHeartbeats 800000 in
theorem index_any (ao : Option Addr) (cap : Nat) (es : List Int) (x : Int) (w : World) (hr : IntsAt w ao es) (hn : es.length ≤ 140737488351232) :
    Calls Tryz.prog 162 #[.slice ao es.length cap, .int .i64 x] w fun e w' => (∃ j : Int, e = .returned (.int .i64 j) ∧ (0 ≤ j ↔ x ∈ es)) ∧ w' = w := by
  have HR := hide hr
  clear hr
  go_enter Tryz.func162, Tryz.ntmps162
  go_wp2
  go_loop [8] (fun i => ∃ k : Nat, k ≤ es.length ∧ i = .int .i64 k ∧ ∀ j, j < k → es.getD j 0 ≠ x) (fun i => es.length - (intOf i).toNat)
  case atStart => exact ⟨0, by omega, rfl, fun j hj => by omega⟩
  case round =>
    obtain ⟨k, hk, rfl, hbl⟩ := hrel
    by_cases hlt : k < es.length
    · obtain ⟨b, off, hao, hc⟩ := HR.out k hlt
      subst hao
      have HB := hide hbl
      have HM : Hid (es.getD k 0 ∈ es) := by show _ ∈ _; rw [List.getD_eq_getElem?_getD, List.getElem?_eq_getElem hlt]; simp
      have HZ : Hid (∃ z, z = es.getD k 0) := ⟨_, rfl⟩
      clear hbl
      obtain ⟨z, hz⟩ := HZ.out
      rw [← hz] at hc HM
      have HZ2 := hide hz
      clear hz HZ
      by_cases hzx : x = z
      · have hb : (x == z) = true := by simp [hzx]
        have HX := hide hzx
        clear hzx
        go_wp2
        go_ret
        exact ⟨⟨k, rfl, by rw [HX.out]; exact ⟨fun _ => HM.out, fun _ => by omega⟩⟩, rfl⟩
      · have hb : (x == z) = false := by simpa using hzx
        have HX := hide hzx
        clear hzx
        go_wp2
        go_round
        case rel =>
          refine ⟨k + 1, by omega, by go_num, fun j hj => ?_⟩
          rcases Nat.lt_or_ge j k with h | h
          · exact HB.out j h
          · obtain rfl : j = k := by omega
            rw [← HZ2.out]
            exact fun e => HX.out e.symm
        case measure => simp [intOf]; omega
    · have HE : Hid (x ∉ es) := by
        intro hm
        obtain ⟨i, hi, he⟩ := List.getElem_of_mem hm
        exact hbl i (by omega) (by rw [List.getD_eq_getElem?_getD, List.getElem?_eq_getElem hi]; simpa using he)
      clear hbl
      go_wp2
      go_ret
      exact ⟨⟨-1, rfl, ⟨fun h => by omega, fun h => absurd h HE.out⟩⟩, rfl⟩

set_option maxHeartbeats 800000 in
theorem contains_any (ao : Option Addr) (cap : Nat) (es : List Int) (x : Int) (w : World) (hr : IntsAt w ao es) (hn : es.length ≤ 140737488351232) :
    Calls Tryz.prog 117 #[.slice ao es.length cap, .int .i64 x] w fun e w' => e = .returned (.bool (decide (x ∈ es))) ∧ w' = w := by
  have H := hide (index_any ao cap es x w hr hn)
  clear hr
  go_enter Tryz.func117, Tryz.ntmps117
  go_wp2_with fail
  refine H.out.mono ?_
  rintro e w1 ⟨⟨j, rfl, hj⟩, rfl⟩
  have HJ := hide hj
  clear hj
  go_wp2
  go_ret
  refine ⟨ret_bool ?_, rfl⟩
  rw [Bool.eq_iff_iff]
  simp [HJ.out]

structure Rs where
  pos : Nat
  err : Int
def pgB (zs : List Int) (lo hi : Int) (es : List Int) (s : Rs) : Int × Rs :=
  if s.err ≠ 0 then (0, s)
  else if zs.length ≤ s.pos then (0, { s with err := 2 })
  else if zs.getD s.pos 0 < lo ∨ hi < zs.getD s.pos 0 ∨ zs.getD s.pos 0 ∈ es then (0, { s with err := 3 })
  else (zs.getD s.pos 0, { s with pos := s.pos + 1 })
theorem pgB_small (zs : List Int) (lo hi : Int) (es : List Int) (s : Rs) (hz : Bytes zs) : 0 ≤ (pgB zs lo hi es s).1 ∧ (pgB zs lo hi es s).1 ≤ 255 := by
  unfold pgB
  split
  · simp
  · split
    · simp
    · split
      · simp
      · have := hz.getD s.pos
        simp only; omega
theorem pgB_le (zs : List Int) (lo hi : Int) (es : List Int) (s : Rs) (hh : 0 ≤ hi) : (pgB zs lo hi es s).1 ≤ hi := by
  unfold pgB
  split
  · exact hh
  · split
    · exact hh
    · split
      · exact hh
      · simp only; omega
def PgObj (bv : Value) (s : Rs) : Obj := .cells #[bv, .int .i64 s.pos, .int .i64 s.err] 104 (0, 0)
structure PgAt (rb : Nat) (ao : Option Addr) (n cap : Nat) (zs : List Int) (s : Rs) (w : World) : Prop where
  obj : w.heap[rb]? = some (PgObj (.slice ao n cap) s)
  held : Held w ao n cap zs
  apart : ∀ ad, ao = some ad → 0 < n → ad.block ≠ rb
  small : n ≤ 140737488351232
  pos : s.pos ≤ n
theorem PgAt.keep {rb : Nat} {ao : Option Addr} {n cap : Nat} {zs : List Int} {s : Rs} {w w' : World} (h : PgAt rb ao n cap zs s w) {S : Nat → Prop} (t : Touch S w w') (hb : ¬ S rb) (hz : ∀ ad, ao = some ad → 0 < n → ¬ S ad.block) : PgAt rb ao n cap zs s w' :=
  ⟨(t.block rb (lt_of_block h.obj) hb).trans h.obj, h.held.touch t hz, h.apart, h.small, h.pos⟩

set_option maxRecDepth 100000 in
set_option maxHeartbeats 2000000 in
theorem pgnumber_any (rb : Nat) (ao : Option Addr) (n cap : Nat) (zs : List Int) (s : Rs) (lo hi : Int) (eo : Option Addr) (ec : Nat) (es : List Int) (w : World) (h : PgAt rb ao n cap zs s w) (he : IntsAt w eo es) (hel : es.length ≤ 2) :
    Calls Tryz.prog 80 #[.pointer (some ⟨rb, 0, none⟩), .int .i64 lo, .int .i64 hi, .slice eo es.length ec] w fun e w' => e = .returned (.int .i64 (pgB zs lo hi es s).1) ∧ PgAt rb ao n cap zs (pgB zs lo hi es s).2 w' ∧ Touch (· = rb) w w' := by
  have hr := h.obj
  have c0 : w.cell? ⟨rb, 0, none⟩ = some (.slice ao n cap) := by rw [cell_of_row _ _ _ _ _ _ hr]; rfl
  have c1 : w.cell? ⟨rb, 1, none⟩ = some (.int .i64 s.pos) := by rw [cell_of_row _ _ _ _ _ _ hr]; rfl
  have c2 : w.cell? ⟨rb, 2, none⟩ = some (.int .i64 s.err) := by rw [cell_of_row _ _ _ _ _ _ hr]; rfl
  have f1 := free_of_block hr 1
  have f2 := free_of_block hr 2
  have hlen := h.held.len
  have hp := h.pos
  have hsm := h.small
  have hn0 : (0 : Int) ≤ (n : Int) := by omega
  have H := hide h
  have back : Hid (∀ (s' : Rs) (w' : World), w'.heap[rb]? = some (PgObj (.slice ao n cap) s') → Touch (· = rb) w w' → s'.pos ≤ n → PgAt rb ao n cap zs s' w') := fun r' w' ho ht hp' => ⟨ho, H.out.held.touch ht (fun ad e hn hs => H.out.apart ad e hn hs), H.out.apart, H.out.small, hp'⟩
  have t1 : Hid (∀ nq o v, Touch (· = rb) w ((w.drewN nq).setCell ⟨rb, o, none⟩ v)) := fun nq o v => Touch.trans (T := (· = rb)) (Touch.ofDrewN w nq) (Touch.ofSet _ rb o v rfl) (fun i hi => .inl hi)
  have HCON : Hid (∀ nq x, Calls Tryz.prog 117 #[.slice eo es.length ec, .int .i64 x] (w.drewN nq) fun e w' => e = .returned (.bool (decide (x ∈ es))) ∧ w' = w.drewN nq) := fun nq x => contains_any eo ec es x (w.drewN nq) (fun i hi => by obtain ⟨b, off, h1, h2⟩ := he i hi; exact ⟨b, off, h1, h2⟩) (by omega)
  have HOBJ := hide hr
  have HEL := hide hel
  clear h hr he hel
  by_cases h1 : s.err = 0
  · have b1 : (s.err != 0) = false := by simp [h1]
    by_cases h2 : zs.length ≤ s.pos
    · have HR : Hid (pgB zs lo hi es s = (0, { s with err := 2 })) := by show _ = _; unfold pgB; rw [if_neg (by simpa using h1), if_pos h2]
      have h2' : (n : Int) ≤ (s.pos : Int) := by omega
      clear h1 h2 hlen
      go_enter Tryz.func80, Tryz.ntmps80
      go_wp2
      go_quiet (fail)
      go_wp2
      go_ret
      rw [HR.out]
      refine ⟨rfl, back.out _ _ ?_ (t1.out _ _ _) hp, t1.out _ _ _⟩
      rw [block_set (w := w.drewN nq) HOBJ.out 2 _]
      rfl
    · have h2' : (s.pos : Int) < (n : Int) := by omega
      obtain ⟨ad, b, off, hao, hcell, hzb⟩ : ∃ ad b off, ao = some ad ∧ (ad = ⟨b, off, none⟩ ∧ w.cell? ⟨b, off + s.pos, none⟩ = some (.int .u8 (zs.getD s.pos 0))) ∧ (0 ≤ zs.getD s.pos 0 ∧ zs.getD s.pos 0 < 256) := by
        obtain ⟨b, off, hao, hrow⟩ := held_row H.out.held (by omega)
        exact ⟨_, b, off, hao, ⟨rfl, hrow s.pos (by omega)⟩, H.out.held.bytes.getD s.pos⟩
      obtain ⟨rfl, hc⟩ := hcell
      by_cases h3 : zs.getD s.pos 0 < lo ∨ hi < zs.getD s.pos 0 ∨ zs.getD s.pos 0 ∈ es
      · have HR : Hid (pgB zs lo hi es s = (0, { s with err := 3 })) := by show _ = _; unfold pgB; rw [if_neg (by simpa using h1), if_neg h2, if_pos h3]
        subst hao
        clear h1 h2 hlen
        generalize zs.getD s.pos 0 = z at hc hzb h3
        by_cases h4 : z < lo
        · clear h3 HCON
          go_enter Tryz.func80, Tryz.ntmps80
          go_wp2
          go_quiet (fail)
          go_wp2
          go_quiet (fail)
          go_wp2
          go_ret
          rw [HR.out]
          refine ⟨rfl, back.out _ _ ?_ (t1.out _ _ _) hp, t1.out _ _ _⟩
          rw [block_set (w := w.drewN _) HOBJ.out 2 _]
          rfl
        · by_cases h5 : hi < z
          · clear h3 HCON
            go_enter Tryz.func80, Tryz.ntmps80
            go_wp2
            go_quiet (fail)
            go_wp2
            go_quiet (fail)
            go_wp2
            go_ret
            rw [HR.out]
            refine ⟨rfl, back.out _ _ ?_ (t1.out _ _ _) hp, t1.out _ _ _⟩
            rw [block_set (w := w.drewN _) HOBJ.out 2 _]
            rfl
          · have h6 : decide (z ∈ es) = true := by simpa [h4, h5] using h3
            clear h3
            go_enter Tryz.func80, Tryz.ntmps80
            go_wp2
            go_quiet (fail)
            go_wp2
            go_quiet (fail)
            go_wp2_with fail
            refine (HCON.out _ _).mono ?_
            rintro e w1 ⟨rfl, rfl⟩
            rw [h6]
            go_wp2
            go_ret
            rw [HR.out]
            refine ⟨rfl, back.out _ _ ?_ (t1.out _ _ _) hp, t1.out _ _ _⟩
            rw [block_set (w := w.drewN _) HOBJ.out 2 _]
            rfl
      · have HR : Hid (pgB zs lo hi es s = (zs.getD s.pos 0, { s with pos := s.pos + 1 })) := by show _ = _; unfold pgB; rw [if_neg (by simpa using h1), if_neg h2, if_neg h3]
        have hp1 : s.pos + 1 ≤ n := by omega
        subst hao
        have h4 : ¬ zs.getD s.pos 0 < lo := fun h => h3 (.inl h)
        have h5 : ¬ hi < zs.getD s.pos 0 := fun h => h3 (.inr (.inl h))
        have h6 : decide (zs.getD s.pos 0 ∈ es) = false := by simpa using fun h => h3 (.inr (.inr h))
        clear h1 h2 hlen h3
        generalize zs.getD s.pos 0 = z at hc hzb h4 h5 h6 HR
        go_enter Tryz.func80, Tryz.ntmps80
        go_wp2
        go_quiet (fail)
        go_wp2
        go_quiet (fail)
        go_wp2_with fail
        refine (HCON.out _ _).mono ?_
        rintro e w1 ⟨rfl, rfl⟩
        rw [h6]
        go_wp2
        go_ret
        rw [HR.out]
        refine ⟨rfl, back.out _ _ ?_ (t1.out _ _ _) hp1, t1.out _ _ _⟩
        rw [block_set (w := w.drewN _) HOBJ.out 1 _]
        rfl
  · have b1 : (s.err != 0) = true := by simpa using h1
    have HR : Hid (pgB zs lo hi es s = (0, s)) := by show _ = _; unfold pgB; rw [if_pos h1]
    clear h1
    go_enter Tryz.func80, Tryz.ntmps80
    go_wp2
    go_ret
    rw [HR.out]
    exact ⟨rfl, H.out, Touch.refl _ _⟩
end Go.Proofs.YtnjlbgolnbdkaaaGreat
