/- The hands: keepCode. -/
import Derived.Test.YtnjlbgolnbdkaaaKa
namespace Go.Proofs.Ytnjlbgolnbdkaaa
open Go.RowKit

theorem Try.info3 : (Try.prog.info? 3).map (fun i => (i.zero, i.size, i.bytes)) = some (some (.int .i64 0), 1, 8) := by kernel_rfl
theorem Try.info100 : (Try.prog.info? 100).map (fun i => (i.zero, i.size, i.bytes)) = some (some (.slice none 0 0), 1, 24) := by kernel_rfl
theorem Try.info88 : (Try.prog.info? 88).map (fun i => (i.zero, i.size, i.bytes)) = some (some (.slice none 0 0), 1, 24) := by kernel_rfl
theorem Try.info44 : (Try.prog.info? 44).map (fun i => (i.zero, i.size, i.bytes)) = some (some (.slice none 0 0), 1, 24) := by kernel_rfl
theorem Try.info45 : (Try.prog.info? 45).map (fun i => (i.zero, i.size, i.bytes)) = some (some (.slice none 0 0), 1, 24) := by kernel_rfl
theorem Try.info46 : (Try.prog.info? 46).map (fun i => (i.zero, i.size, i.bytes)) = some (some (.slice none 0 0), 1, 24) := by kernel_rfl

def setW (w : World) (g : Nat) : Nat → List Value → World
  | _, [] => w
  | o, u :: us => setW (w.setCell ⟨g, o, none⟩ u) g (o + 1) us
def setL (xs : List Value) : Nat → List Value → List Value
  | _, [] => xs
  | o, u :: us => setL (xs.set o u) (o + 1) us
theorem setL_length (xs : List Value) (o : Nat) (ys : List Value) : (setL xs o ys).length = xs.length := by
  induction ys generalizing xs o with
  | nil => rfl
  | cons u us ih => show (setL (xs.set o u) (o + 1) us).length = _; rw [ih, List.length_set]
theorem setL_get (xs : List Value) (o : Nat) (ys : List Value) (hl : o + ys.length ≤ xs.length) (j : Nat) : (setL xs o ys)[j]? = if o ≤ j ∧ j < o + ys.length then ys[j - o]? else xs[j]? := by
  induction ys generalizing xs o with
  | nil => rw [if_neg (by simp)]; rfl
  | cons u us ih =>
    show (setL (xs.set o u) (o + 1) us)[j]? = _
    rw [List.length_cons] at hl
    rw [ih (xs.set o u) (o + 1) (by rw [List.length_set]; omega)]
    by_cases h1 : o + 1 ≤ j ∧ j < o + 1 + us.length
    · rw [if_pos h1, if_pos (by simp; omega), show j - o = (j - (o + 1)) + 1 from by omega]; rfl
    · rw [if_neg h1]
      by_cases h2 : j = o
      · subst h2
        rw [if_pos (by simp), Nat.sub_self, List.getElem?_set_self (by omega)]; rfl
      · rw [if_neg (by simp; omega), List.getElem?_set_ne (by omega)]
theorem own_set {w : World} {base : Nat} {e : TypeId} {s g N cap : Nat} {xs : List Value} (h : w.ownsRow base e s (.slice (some ⟨g, 0, none⟩) N cap) N xs) (o : Nat) (u : Value) : (w.setCell ⟨g, o, none⟩ u).ownsRow base e s (.slice (some ⟨g, 0, none⟩) N cap) N (xs.set o u) := by
  obtain ⟨h1, h2⟩ := h
  rcases h2 with ⟨h2, _⟩ | ⟨g', cap', cur, hv, hb, hh, hc, hm, hs, ht⟩
  · cases h2
  · simp at hv
    obtain ⟨rfl, rfl⟩ := hv
    refine ⟨by rw [List.length_set]; exact h1, .inr ⟨g, cap, cur.setIfInBounds o u, rfl, hb, block_set hh o u, hc, hm, by simp [hs], ?_⟩⟩
    rw [← ht, Array.toList_setIfInBounds, List.take_set]
theorem own_setW {base : Nat} {e : TypeId} {s g N cap : Nat} (ys : List Value) : ∀ (w : World) (xs : List Value) (o : Nat), w.ownsRow base e s (.slice (some ⟨g, 0, none⟩) N cap) N xs → o + ys.length ≤ N * s → (setW w g o ys).ownsRow base e s (.slice (some ⟨g, 0, none⟩) N cap) N (setL xs o ys) := by
  induction ys with
  | nil => intro w xs o h _; exact h
  | cons u us ih =>
    intro w xs o h ho
    rw [List.length_cons] at ho
    exact ih _ _ _ (own_set h o u) (by omega)
theorem touch_setW (g : Nat) (ys : List Value) : ∀ (w : World) (o : Nat), Touch (· = g) w (setW w g o ys) := by
  induction ys with
  | nil => intro w o; exact Touch.refl _ _
  | cons u us ih => intro w o; exact Touch.trans (Touch.ofSet w g o u rfl) (ih _ _) (fun i hi => .inl hi)

/- a list that is being written full -/
structure Fill (f : Nat) (w1 : World) (v : Value) (N : Nat) (m : Int) (k : Nat) (wr : World) : Prop where
  ex : ∃ xs, wr.ownsRow 0 (ety f) (esz f) v N xs ∧ ∀ j, j < k * esz f → xs[j]? = (reps N (elm f m))[j]?
  t : Touch (fun b => v.ownBlock = some b) w1 wr
theorem Fill.start {f : Nat} {w1 : World} {v : Value} {N : Nat} {m : Int} {xs : List Value} (h : w1.ownsRow 0 (ety f) (esz f) v N xs) : Fill f w1 v N m 0 w1 := ⟨⟨xs, h, fun j hj => by simp at hj⟩, Touch.refl _ _⟩
theorem Fill.step {f : Nat} {w1 wr : World} {g N c : Nat} {m : Int} {k : Nat} (h : Fill f w1 (.slice (some ⟨g, 0, none⟩) N c) N m k wr) (hk : k < N) : Fill f w1 (.slice (some ⟨g, 0, none⟩) N c) N m (k + 1) (setW wr g (k * esz f) (elm f m)) := by
  obtain ⟨xs, h1, h2⟩ := h.ex
  have hks : (k + 1) * esz f ≤ N * esz f := Nat.mul_le_mul_right _ hk
  rw [Nat.add_mul, Nat.one_mul] at hks
  have hx := h1.1
  refine ⟨⟨_, own_setW (elm f m) wr xs _ h1 (by rw [elm_length]; exact hks), fun j hj => ?_⟩, Touch.trans h.t (touch_setW g _ wr _) (fun i hi => .inl (by rw [hi]; rfl))⟩
  rw [Nat.add_mul, Nat.one_mul] at hj
  rw [setL_get _ _ _ (by rw [elm_length, hx]; exact hks), elm_length]
  by_cases hlt : j < k * esz f
  · rw [if_neg (by omega)]; exact h2 j hlt
  · rw [if_pos (by omega)]
    have := reps_at N (elm f m) k (j - k * esz f) hk (by rw [elm_length]; omega)
    rw [elm_length, show k * esz f + (j - k * esz f) = j from by omega] at this
    exact this.symm
theorem Fill.full {f : Nat} {w1 wr : World} {v : Value} {N : Nat} {m : Int} (h : Fill f w1 v N m N wr) : wr.ownsRow 0 (ety f) (esz f) v N (reps N (elm f m)) := by
  obtain ⟨xs, h1, h2⟩ := h.ex
  have e : xs = reps N (elm f m) := by
    apply List.ext_getElem?
    intro j
    by_cases hj : j < N * esz f
    · exact h2 j hj
    · rw [List.getElem?_eq_none (by rw [h1.1]; omega), List.getElem?_eq_none (by rw [reps_length, elm_length]; omega)]
  rw [← e]; exact h1
/- the block of a list with an element -/
theorem Fill.at {f : Nat} {w1 wr : World} {ad : Option Addr} {N c : Nat} {m : Int} {k : Nat} (h : Fill f w1 (.slice ad N c) N m k wr) (hk : k < N) : ∃ (g : Nat) (u : Nat → Value), ad = some ⟨g, 0, none⟩ ∧ (∀ o, o < esz f → wr.cell? ⟨g, k * esz f + o, none⟩ = some (u o)) ∧ ∀ o, wr.frozen? ⟨g, o, none⟩ = false := by
  obtain ⟨xs, h1, _⟩ := h.ex
  rcases h1.2 with ⟨_, h2⟩ | ⟨g, cap, cur, hv, _, hh, hc, hm, hs, _⟩
  · omega
  · simp at hv
    have hks : (k + 1) * esz f ≤ cap * esz f := Nat.mul_le_mul_right _ (by omega)
    rw [Nat.add_mul, Nat.one_mul] at hks
    refine ⟨g, fun o => cur[k * esz f + o]?.getD default, hv.1, fun o ho => ?_, fun o => free_of_block hh o⟩
    have hlt : k * esz f + o < cur.size := by omega
    show _ = some (cur[k * esz f + o]?.getD default)
    rw [cell_of_row _ _ _ _ _ _ hh]
    simp [hlt]

/- how the hands stand when a list has been written full -/
def lab1 (L : Nat → Nat) (f : Nat) (v : Value) : Nat → Nat := fun k => if v.ownBlock = some k then 3 * f + 3 else L k
theorem Hnd.begin {f : Nat} {L : Nat → Nat} {hb : Nat} {n : Int} {vs : Nat → Value} {A : Nat → List Kept} {w1 wr : World} {v : Value} {N : Nat} {m : Int} (hf : f < 9) (h : Hnd L hb n vs A A w1) (hL : ∀ b, v.ownBlock = some b → 100 ≤ L b) (hF : Fill f w1 v N m N wr) :
    Hnd (lab1 L f v) hb n vs A A wr ∧ Cur f (lab1 L f v) A wr v N m := by
  have h2 : Hnd L hb n vs A A wr := h.touch hF.t (fun k _ hk => by have := hL k hk; omega)
  refine ⟨h2.relabel (fun k _ hk => if_neg (fun e => by have := hL k e; omega)), hF.full, fun b e => if_pos e, fun k hk b e1 e2 => ?_⟩
  have := ((h2.fam f hf).kept k hk).1 b e2
  have := hL b e1
  omega

structure Keeping (f : Nat) (w : World) (L : Nat → Nat) (A : Nat → List Kept) (v0 : Value) (hb : Nat) (n : Int) (N : Nat) (m : Int) (j : Nat) (L' : Nat → Nat) (vs' : Nat → Value) (A' : Nat → List Kept) (v : Value) (wq : World) : Prop where
  h : Hnd L' hb n vs' A' A' wq
  c : Cur f L' A' wq v (N + j) m
  len : ∀ i, (A' i).length = (A i).length + if i = f then j else 0
  lab : ∀ k, k < w.heap.size → L' k = lab1 L f v0 k
  t : Touch (fun k => L k ≤ 27 ∨ v0.ownBlock = some k) w wq

theorem Touch.alloc (w : World) (o : Obj) : Touch (fun _ => False) w (w.alloc o) := ⟨rfl, rfl, rfl, by simp, fun k hk _ => Below.heap_alloc w o k hk⟩
theorem Keeping.next {f : Nat} {w : World} {L : Nat → Nat} {A : Nat → List Kept} {v0 : Value} {hb : Nat} {n : Int} {N : Nat} {m : Int} {j : Nat} {L1 L5 : Nat → Nat} {vs1 vs5 : Nat → Value} {A1 A2 : Nat → List Kept} {v1 v5 : Value} {wr w5 : World} (hf : f < 9) (hK : Keeping f w L A v0 hb n N m j L1 vs1 A1 v1 wr)
    (hA2 : A2 = updL A1 f (A1 f ++ [⟨v1, m⟩])) (hS : Step f L1 L5 wr w5) (hH : Hnd L5 hb n vs5 A2 A2 w5) (hC : Cur f L5 A2 w5 v5 (N + j + 1) m) : Keeping f w L A v0 hb n N m (j + 1) L5 vs5 A2 v5 w5 := by
  have hsz := hK.t.size
  refine ⟨hH, hC, fun i => ?_, fun k hk => (hS.lab k (by omega)).trans (hK.lab k hk), Touch.trans hK.t hS.t (fun i hi => ?_)⟩
  · have := hK.len i
    subst hA2
    by_cases e : i = f
    · subst e
      rw [updL_at, List.length_append, this, if_pos rfl, if_pos rfl]
      rfl
    · rw [updL_off _ _ e, this, if_neg e, if_neg e]
  · by_cases h : i < w.heap.size
    · left
      rw [hK.lab i h] at hi
      unfold lab1 at hi
      split at hi
      · exact .inr (by assumption)
      · left; omega
    · right; omega

set_option maxRecDepth 100000 in
set_option maxHeartbeats 4000000 in
theorem keepCode_any (hb : Nat) (n : Int) (vs : Nat → Value) (L : Nat → Nat) (A : Nat → List Kept) (v : Value) (N : Nat) (xs : List Value) (w : World)
    (h : Hnd L hb n vs A A w) (hV : w.ownsRow 0 102 2 v N xs) (hLv : ∀ b, v.ownBlock = some b → 100 ≤ L b) (hN : N ≤ 1000) (h0 : 0 ≤ n) (h1 : n ≤ 100000) (hA : ∀ f, (A f).length ≤ 100000) :
    Calls Try.prog 54 #[.pointer (some ⟨hb, 0, none⟩), v] w fun e w' => ∃ L' vs' A', e = .returned (.tuple #[]) ∧ Hnd L' hb (n + 1) vs' A' A' w' ∧ (∀ f, (A' f).length ≤ (A f).length + 4) ∧ (∀ k, k < w.heap.size → L' k = lab1 L 6 v k) ∧ Touch (fun k => L k ≤ 27 ∨ v.ownBlock = some k) w w' := by
  obtain ⟨i0, hi, hz0, hz1, hz2⟩ := info_parts Try.info102
  obtain ⟨j0, hj, hj0, hj1, hj2⟩ := info_parts Try.info100
  obtain ⟨k0, hk, hk0, hk1, hk2⟩ := info_parts Try.info3
  obtain ⟨ad, c, rfl⟩ := own_slice hV
  have HH := hide h
  have HV := hide hV
  have HLV := hide hLv
  have HA := hide hA
  have hLb := h.lab
  clear h hV hLv hA
  go_enter Try.func54, Try.ntmps54
  go_wp2_with fail
  refine (mark_any hb _ _ n vs w HH.out.blk h0 (by omega)).mono ?_
  rintro e w1 ⟨rfl, hB1, hT1⟩
  have HT1 := hide hT1
  have H1 : Hid (Hnd L hb (n + 1) vs A A w1) := ⟨hB1, hLb, HH.out.fam.touch hT1 (fun k _ hk => .inl (by rw [hk]; exact hLb))⟩
  have HV1 : Hid (w1.ownsRow 0 102 2 (.slice ad N c) N xs) := own_keep HV.out (fun b e => hT1.block b (World.ownsRow.lt HV.out b e).2 (fun hh => by have := HLV.out b e; rw [hh, hLb] at this; omega))
  clear hB1 hT1
  go_wp2
  generalize (-77000000 - (n + 1)) = m
  go_loopw [5] (fun i wr => ∃ (k : Nat), k ≤ N ∧ i = .int .i64 k ∧ Fill 6 w1 (.slice ad N c) N m k wr) (fun i _ => N - (intOf i).toNat)
  case atStart => exact ⟨0, by omega, rfl, Fill.start HV1.out⟩
  case round =>
    obtain ⟨k, hk', rfl, hF⟩ := hrel
    by_cases hlt : k < N
    · obtain ⟨g, u, rfl, hcc, hff⟩ := hF.at hlt
      have cc0 : wr.cell? ⟨g, k * 2, none⟩ = some (u 0) := hcc 0 (by decide)
      have cc1 : wr.cell? ⟨g, k * 2 + 1, none⟩ = some (u 1) := hcc 1 (by decide)
      have ff0 := hff (k * 2)
      have ff1 := hff (k * 2 + 1)
      have HF := hide hF
      clear hF hcc hff
      go_wp2
      go_roundw
      case rel => exact ⟨k + 1, by omega, by go_num, HF.out.step hlt⟩
      case measure => simp [intOf]; omega
    · obtain rfl : k = N := by omega
      have HST : Hid (∃ L' vs' A', Keeping 6 w L A (.slice ad k c) hb (n + 1) k m 0 L' vs' A' (.slice ad k c) wr) := by
        obtain ⟨hH, hC⟩ := Hnd.begin (f := 6) (by omega) H1.out HLV.out hF
        exact ⟨_, _, _, hH, hC, fun i => by simp, fun _ _ => rfl, Touch.trans (HT1.out.mono (fun k hk => .inl (by rw [hk, hLb]; omega))) hF.t (fun i hi => .inl (.inr hi))⟩
      clear hF HV1 H1 HT1 HV HH
      go_wp2
      go_loopw [1, 6] (fun v i wq => ∃ (j : Nat) (L' : Nat → Nat) (vs' : Nat → Value) (A' : Nat → List Kept), j ≤ 4 ∧ i = .int .i64 j ∧ Keeping 6 w L A (.slice ad k c) hb (n + 1) k m j L' vs' A' v wq) (fun _ i _ => 4 - (intOf i).toNat)
      case atStart =>
        obtain ⟨L', vs', A', hk⟩ := HST.out
        exact ⟨0, L', vs', A', by omega, rfl, hk⟩
      case round =>
        obtain ⟨j, L1, vs1, A1, hj4, rfl, hK⟩ := hrel
        obtain ⟨ad1, c1, hv1⟩ := own_slice hK.c.own
        subst hv1
        have hl6 : (A1 6).length ≤ 100010 := by have := hK.len 6; have := HA.out 6; simp at *; omega
        by_cases hlt : j < 4
        · have c15 := hK.h.cell 15 (by omega) (by omega)
          have HK := hide hK
          clear hK HST
          go_wp2_with (at_builtin; go_must (refine wpList_append_lies _ rfl (.tmp 28) (.tmp 30) 37 rfl 0 100 j0 (.slice none 0 0) 1 24 Try.underlying37 hj hj0 hj1 hj2 rfl (by decide) (vs1 15) (A1 6).length ((A1 6).map Kept.v) rfl ((HK.out.h.fam 6 (by omega)).own.alloc _) ⟨wr.heap.size, 0, none⟩ 1 1 [.slice ad1 (k + j) c1] (by rfl) rfl (news_at wr #[.slice ad1 (k + j) c1] 100) (slice_one _ _ _ _ rfl) (by omega) (by unfold maxLen; omega) (by omega) (by omega) _ rfl ?_))
          intro gB cB w1 hownB hgrowB hatB _
          obtain ⟨hB1, L2, vs2, A2, hH2, hC2, hA2, hS2⟩ := HK.out.h.row (f := 6) (by omega) HK.out.c (by omega) hownB hgrowB hatB
          have f15 := free_of_block hB1 15
          have d15 : w1.cell? ⟨hb, 15, none⟩ = some (vs1 15) := by rw [cell_of_row _ _ _ _ _ _ hB1]; rfl
          obtain ⟨w2, hw2⟩ : ∃ w2, w2 = w1.setCell ⟨hb, 15, none⟩ (.slice (some ⟨gB, 0, none⟩) ((A1 6).length + 1) cB) := ⟨_, rfl⟩
          have hs2 : w2.heap.size = w1.heap.size := by rw [hw2]; simp
          have H2 : Hid (Hnd L2 hb (n + 1) vs2 A2 A1 w2 ∧ Cur 6 L2 A2 w2 (.slice ad1 (k + j) c1) (k + j) m ∧ A2 = updL A1 6 (A1 6 ++ [⟨.slice ad1 (k + j) c1, m⟩]) ∧ Step 6 L1 L2 wr w2) := by show _ ∧ _; rw [hw2]; exact ⟨hH2, hC2, hA2, hS2⟩
          have c16 : w2.cell? ⟨hb, 16, none⟩ = some (vs2 16) := H2.out.1.cell 16 (by omega) (by omega)
          rw [hw2] at c16
          have HW2 := hide hw2
          clear hB1 hH2 hC2 hA2 hS2 hw2 hownB hgrowB hatB c15
          go_wp2_with (at_builtin; go_must (refine wpList_append_lies _ rfl (.tmp 38) (.tmp 40) 32 rfl 0 3 k0 (.int .i64 0) 1 8 Try.underlying32 hk hk0 hk1 hk2 rfl (by decide) (vs2 16) (A1 6).length ((A1 6).map fun k => Value.int .i64 k.mark) rfl (by rw [← HW2.out]; exact (H2.out.1.fam 6 (by omega)).ownM.alloc _) ⟨w1.heap.size, 0, none⟩ 1 1 [.int .i64 m] (by rfl) rfl (by rw [← HW2.out, ← hs2]; exact news_at w2 #[.int .i64 m] 3) (ints_one _ (by simp)) (by omega) (by unfold maxLen; omega) (by omega) (by omega) _ rfl ?_))
          rw [← HW2.out]
          intro gM cM w3 hownM hgrowM hatM _
          obtain ⟨hH2, hC2, hA2, hS2⟩ := H2.out
          obtain ⟨hB3, L3, vs3, M3, hH3, hC3, hM3, hS3⟩ := hH2.mark (f := 6) (by omega) hC2 hownM hgrowM (by rw [hs2]; exact hatM)
          have f16 := free_of_block hB3 16
          have d16 : w3.cell? ⟨hb, 16, none⟩ = some (vs2 16) := by rw [cell_of_row _ _ _ _ _ _ hB3]; rfl
          obtain ⟨w4, hw4⟩ : ∃ w4, w4 = w3.setCell ⟨hb, 16, none⟩ (.slice (some ⟨gM, 0, none⟩) ((A1 6).length + 1) cM) := ⟨_, rfl⟩
          have hs4 : w4.heap.size = w3.heap.size := by rw [hw4]; simp
          have H4 : Hid (Hnd L3 hb (n + 1) vs3 A2 A2 w4 ∧ Cur 6 L3 A2 w4 (.slice ad1 (k + j) c1) (k + j) m ∧ Step 6 L1 L3 wr w4) := by
            show _ ∧ _
            rw [hw4]
            exact ⟨by rw [show A2 = M3 from hA2.trans hM3.symm] at hH3 ⊢; exact hH3, hC3, hS2.trans hS3⟩
          have HA2 := hide hA2
          have HW4 := hide hw4
          clear hB3 hH2 hC2 hA2 hS2 hH3 hC3 hM3 hS3 hw4 hownM hgrowM hatM c16 H2 HW2 d15 f15
          go_wp2_with (at_builtin; go_must (refine wpList_append_list rfl (.tmp 44) (.tmp 47) 100 rfl 102 i0 (.agg #[.int .i64 0, .int .i64 0]) 2 16 Try.underlying100 hi hz0 hz1 hz2 rfl (by decide) (.slice ad1 (k + j) c1) (k + j) (reps (k + j) (elm 6 m)) rfl (by rw [← HW4.out]; exact H4.out.2.1.own.alloc _) ⟨w3.heap.size, 0, none⟩ 1 1 (elm 6 m) (by rfl) rfl (by rw [← HW4.out, ← hs4]; exact news_at w4 #[.int .i64 m, .int .i64 0] 102) (elm_one 6 m) (by omega) (by unfold maxLen; omega) (by omega) ?_))
          rw [← HW4.out]
          intro gL cL w5 hownL hgrowL
          obtain ⟨hH4, hC4, hS4⟩ := H4.out
          obtain ⟨L5, hH5, hC5, hS5⟩ := hH4.list (f := 6) (by omega) hC4 (Touch.alloc w4 _) hownL hgrowL
          have H5 : Hid (Keeping 6 w L A (.slice ad k c) hb (n + 1) k m (j + 1) L5 vs3 A2 (.slice (some ⟨gL, 0, none⟩) (k + j + 1) cL) w5) := HK.out.next (by omega) HA2.out (hS4.trans hS5) hH5 hC5
          clear hH4 hC4 hS4 hH5 hC5 hS5 hownL hgrowL H4 HW4 d16 f16
          go_wp2
          go_roundw
          case rel => exact ⟨j + 1, L5, vs3, A2, by omega, by go_num, H5.out⟩
          case measure => simp [intOf]; omega
        · have HF : Hid (Keeping 6 w L A (.slice ad k c) hb (n + 1) k m j L1 vs1 A1 (.slice ad1 (k + j) c1) wr) := hK
          clear hK HST
          go_wp2
          go_end0
          exact ⟨L1, vs1, A1, rfl, HF.out.h, fun f => by have := HF.out.len f; split at this <;> omega, HF.out.lab, HF.out.t⟩
end Go.Proofs.Ytnjlbgolnbdkaaa
