/- Texts of the proofs of Watched and Clocked, one behind the other. -/
import Derived.Test.YtnjlbgolnbdkaaaGreatM13
import Derived.RangeFuncNested
import Derived.RangeFuncWrites
import Derived.RangeFuncCalls
import Derived.Stop.RegionWithIn
import Derived.Deep.RegionHeld
/- The program's journal: the number that follows, the restarts of all. -/
namespace Go.Proofs.YtnjlbgolnbdkaaaGreat
open Go.RowKit

theorem great_step (l : List (Nat → Int)) (k : Nat) (r : Nat → Int) (h : l[k]? = some r) : greatOf (l.take (k + 1)) = max (greatOf (l.take k)) (r 3) := by
  unfold greatOf
  rw [List.take_add_one, h, List.foldl_append]
  rfl
theorem max_if (a b : Int) : max a b = if b > a then b else a := by
  rw [Int.max_def]
  split <;> split <;> omega
theorem great_rng (l : List (Nat → Int)) (hl : ∀ r ∈ l, 0 ≤ r 3 ∧ r 3 < 4294967296) : ∀ k, 0 ≤ greatOf (l.take k) ∧ greatOf (l.take k) < 4294967296 := by
  intro k
  induction k with
  | zero => exact ⟨Int.le_refl _, by show (0 : Int) < _; omega⟩
  | succ k ih =>
    cases h : l[k]? with
    | none =>
      rw [List.take_add_one, h]
      simpa using ih
    | some r =>
      rw [great_step l k r h]
      have := hl r (List.mem_of_getElem? h)
      omega
set_option maxRecDepth 100000 in
set_option maxHeartbeats 4000000 in
theorem following_any (base : Nat) (v : Value) (l : List (Nat → Int)) (w : World) (hl : l.length ≤ 100) (hn : ∀ r ∈ l, 0 ≤ r 3 ∧ r 3 < 4294967296) (hv : RecsV base v l w) :
    Calls Tryz.prog 154 #[v] w fun e w' => e = .returned (.int .i64 (greatOf l + 1)) ∧ Below w.heap.size w w' := by
  obtain ⟨ad, c, rfl, hrd⟩ := recs_read2 hv
  have HRD := hide hrd
  have HG := hide (great_rng l hn)
  obtain ⟨G, hGd⟩ : ∃ G, G = greatOf l := ⟨_, rfl⟩
  rw [← hGd]
  have HGD := hide hGd
  clear hGd
  generalize hN : l.length = N at *
  have HN := hide hN
  clear hrd hN hv hn
  go_enter Tryz.func154, Tryz.ntmps154
  go_wp2
  go_loopw [3, 8] (fun n t wr => ∃ (k : Nat), k ≤ N ∧ t = .int .i64 k ∧ n = .int .i64 (greatOf (l.take k)) ∧ Below w.heap.size w wr) (fun _ t _ => N - (intOf t).toNat)
  case atStart => exact ⟨0, by omega, rfl, rfl, Below.refl _ _⟩
  case round =>
    obtain ⟨k, hk, rfl, rfl, hB⟩ := hrel
    by_cases hlt : k < N
    · obtain ⟨r, hr'⟩ : ∃ r, l[k]? = some r := ⟨l[k]'(by rw [HN.out]; exact hlt), List.getElem?_eq_getElem _⟩
      obtain ⟨gg2, had, hgl, x0, x1, x2, x3, x4⟩ := HRD.out k r hr'
      subst had
      have y0 := (hB.cell (p := ⟨gg2, k * 5, none⟩) hgl).trans x0
      have y1 := (hB.cell (p := ⟨gg2, k * 5 + 1, none⟩) hgl).trans x1
      have y2 := (hB.cell (p := ⟨gg2, k * 5 + 2, none⟩) hgl).trans x2
      have y3 := (hB.cell (p := ⟨gg2, k * 5 + 3, none⟩) hgl).trans x3
      have y4 := (hB.cell (p := ⟨gg2, k * 5 + 4, none⟩) hgl).trans x4
      have HT := hide (great_step l k r hr')
      have HEN : Hid (∀ o, Below w.heap.size w (wr.alloc o)) := fun o => hB.alloc hB.size o
      clear hr' x0 x1 x2 x3 x4 hB
      generalize greatOf (l.take k) = nn at HT ⊢
      generalize r 0 = p0 at y0
      generalize r 1 = p1 at y1
      generalize r 2 = p2 at y2
      generalize r 3 = p3 at y3 HT
      generalize r 4 = p4 at y4
      go_wp2
      go_roundw
      case rel => exact ⟨k + 1, by omega, by go_num, by rw [HT.out, max_if], HEN.out _⟩
      case measure => simp [intOf]; omega
    · obtain rfl : k = N := by omega
      have HT : Hid (l.take k = l) := by show _ = _; rw [← HN.out]; exact List.take_length
      have hg := HG.out k
      rw [HT.out, ← HGD.out] at hg ⊢
      have HEND := hide hB
      clear hB
      go_wp2
      go_ret
      exact ⟨by go_num, HEND.out⟩
theorem faults_num (bs : List Int) (hb : Bytes bs) (s k : Nat) : ∀ r ∈ faultsTo bs s k, ∀ j, 0 ≤ r j ∧ r j < 4294967296 := by
  induction k with
  | zero => intro r hr; simp [faultsTo] at hr
  | succ k ih =>
    intro r hr j
    rcases List.mem_append.1 hr with hr | hr
    · exact ih r hr j
    · split at hr
      · rw [List.mem_singleton.1 hr]
        exact rec_num bs s (k + 1) j hb
      · simp at hr
theorem log_nums (bs : List Int) (hb : Bytes bs) : ∀ r ∈ logOf bs, ∀ j, 0 ≤ r j ∧ r j < 4294967296 := by
  intro r hr j
  unfold logOf faultsOf at hr
  rcases List.mem_append.1 hr with hr | hr
  · split at hr
    · simp at hr
    · exact faults_num bs hb _ _ r hr j
  · split at hr
    · simp at hr
    · exact faults_num bs hb _ _ r hr j
theorem log_num (bs : List Int) (hb : Bytes bs) : ∀ r ∈ logOf bs, 0 ≤ r 3 ∧ r 3 < 4294967296 := fun r hr => log_nums bs hb r hr 3
theorem log_len (bs : List Int) : (logOf bs).length ≤ 100 := by
  unfold logOf
  have := faultsOf_le bs (sectorsOf bs).1
  have := faultsOf_le bs (sectorsOf bs).2
  rw [List.length_append]
  omega
theorem rest_rng (bs : List Int) (part : Nat) : 0 ≤ restartsOf bs part ∧ restartsOf bs part ≤ 255 := by
  unfold restartsOf
  split
  · omega
  · refine rfold_rng _ _ _ ?_
    have := (be4_bytes (argB bs (sectorsOf bs).1.toNat % 4294967296).toNat).getD part
    omega
set_option maxRecDepth 100000 in
set_option maxHeartbeats 4000000 in
theorem allRest_any (x : Nat) (bs : List Int) (s : Nat) (w : World) (hb : Bytes bs) (h : SecAt x bs s w) (hre : ∀ p, prestOf bs s p = restartsOf bs p) :
    Calls Tryz.prog 157 #[.agg #[.int .i64 s, .slice (some ⟨x, 0, none⟩) 8 8]] w fun e w' => e = .returned (.int .i64 (allRest bs)) ∧ Below w.heap.size w w' := by
  obtain ⟨i0, hi, hz0, hz1, hz2⟩ := info_parts Tryz.info5
  have HPR : Hid (∀ p W, p < 4 → Below w.heap.size w W → Calls Tryz.prog 113 #[.agg #[.int .i64 s, .slice (some ⟨x, 0, none⟩) 8 8], .int .i64 (p : Nat)] W fun e w' => e = .returned (.int .i64 (restartsOf bs p)) ∧ Below W.heap.size W w') := fun p W hp hW => by
    rw [← hre p]
    exact prestarts_any x bs s p W hb hp (h.below hW)
  obtain ⟨R, hR⟩ : ∃ R : Nat → Int, R = fun p => restartsOf bs p := ⟨_, rfl⟩
  have HRR : Hid (∀ p, 0 ≤ R p ∧ R p ≤ 255) := fun p => by subst hR; exact rest_rng bs p
  have HRE : Hid (∀ p, R p = restartsOf bs p) := fun p => by subst hR; rfl
  have HAL : Hid (allRest bs = 16777216 * R 0 + 65536 * R 1 + 256 * R 2 + R 3) := by subst hR; rfl
  clear h hre hR
  obtain ⟨w1, hw1⟩ : ∃ w1, w1 = w.alloc (.cells #[.int .i64 s, .slice (some ⟨x, 0, none⟩) 8 8] 183) := ⟨_, rfl⟩
  have HB1 : Hid (Below w.heap.size w w1) := by rw [hw1]; exact (Below.refl _ _).alloc (Nat.le_refl _) _
  have hA1 : w1.heap[w.heap.size]? = some (.cells #[.int .i64 s, .slice (some ⟨x, 0, none⟩) 8 8] 183 (0, 0)) := by rw [hw1]; exact heap_alloc_new w _
  have HA1 := hide hA1
  have HS1 : Hid (w1.heap.size = w.heap.size + 1) := by show _ = _; rw [hw1]; simp
  have HW1 := hide hw1
  clear hA1 hw1
  go_enter Tryz.func157, Tryz.ntmps157
  go_wp2_with fail
  rw [← HW1.out]
  go_wp2_with fail
  go_loopw [3, 5] (fun v t wr => ∃ (k : Nat), k ≤ 4 ∧ t = .int .i64 k ∧ wr.ownsRow w1.heap.size 5 1 v k (vals ((List.range k).map R)) ∧ Below w1.heap.size w1 wr) (fun _ t _ => 4 - (intOf t).toNat)
  case atStart => exact ⟨0, by omega, rfl, World.ownsRow_nil _ _ _ _, Below.refl _ _⟩
  case round =>
    obtain ⟨k, hk, rfl, hown, hB⟩ := hrel
    have hAw := (hB.block w.heap.size (by rw [HS1.out]; omega)).trans HA1.out
    have a0 : wr.cell? ⟨w.heap.size, 0, none⟩ = some (.int .i64 s) := by rw [cell_of_row _ _ _ _ _ _ hAw]; rfl
    have a1 : wr.cell? ⟨w.heap.size, 1, none⟩ = some (.slice (some ⟨x, 0, none⟩) 8 8) := by rw [cell_of_row _ _ _ _ _ _ hAw]; rfl
    have HB := hide hB
    have HO := hide hown
    clear hAw hB
    obtain ⟨ad, c, hv⟩ := own_slice hown
    subst hv
    have hws := HB.out.size
    have hw1 := HB1.out.size
    by_cases hlt : k < 4
    · have HC := hide (HPR.out k wr hlt (HB1.out.trans (HB.out.mono (by omega))))
      rw [← HRE.out k] at HC
      have hrk := HRR.out k
      clear hown
      have HRK : Hid ((List.range (k + 1)).map R = (List.range k).map R ++ [R k]) := by show _ = _; rw [List.range_succ, List.map_append]; rfl
      generalize R k = rk at *
      have hcv : ∀ W : World, (convert 3 5 (.int .i64 rk)).run Tryz.prog W = .ok (.int .u8 rk) W := fun W => by
        simp [go_sem, Tryz.underlying3, Tryz.underlying5, IntKind.wrap, IntKind.signed, IntKind.bits]
        omega
      go_wp2_with fail
      refine HC.out.mono ?_
      rintro e w2 ⟨rfl, hb2⟩
      have HB2 : Hid (Below w1.heap.size w1 w2) := HB.out.trans (hb2.mono hws)
      have HO2 : Hid (w2.ownsRow w1.heap.size 5 1 (.slice ad k c) k (vals ((List.range k).map R))) := own_keep HO.out (fun b e => hb2.block b (World.ownsRow.lt HO.out b e).2)
      have hs2 := hb2.size
      have hs2b := HB2.out.size
      clear hb2
      go_wp2_with (at_builtin; go_must (refine wpList_append_lies _ rfl (.tmp 8) (.tmp 13) 22 rfl w1.heap.size 5 i0 (.int .u8 0) 1 1 Tryz.underlying22 hi hz0 hz1 hz2 rfl (by decide) (.slice ad k c) k (vals ((List.range k).map R)) rfl (by exact HO2.out.alloc _) ⟨w2.heap.size, 0, none⟩ 1 1 [.int .u8 rk] (by rfl) rfl (by exact news_at w2 #[.int .u8 rk] 5) (vals_one [rk]) (by omega) (by unfold maxLen; omega) (by omega) (by simp; omega) _ rfl ?_))
      intro g5 c5 w5 ho5 hg5 _ _
      have hg' : w2.grownBy w5 (Value.slice ad k c).ownBlock := grown_alloc (o := .cells #[.int .u8 rk] 5) ⟨hg5.os, hg5.tape, hg5.output, hg5.size, hg5.block⟩
      have H5 : Hid (w5.ownsRow w1.heap.size 5 1 (.slice (some ⟨g5, 0, none⟩) (k + 1) c5) (k + 1) (vals ((List.range (k + 1)).map R)) ∧ Below w1.heap.size w1 w5) := by
        refine ⟨?_, HB2.out.grown hg' (by omega) (fun b e => (World.ownsRow.lt HO2.out b e).1)⟩
        rw [HRK.out, vals_append]; exact ho5
      clear ho5 hg5 hg'
      go_wp2
      go_roundw
      case rel => exact ⟨k + 1, by omega, by go_num, H5.out.1, H5.out.2⟩
      case measure => simp [intOf]; omega
    · obtain rfl : k = 4 := by omega
      obtain ⟨xx, cp, hx⟩ : ∃ xx cp, (Value.slice ad 4 c) = .slice (some ⟨xx, 0, none⟩) 4 cp := by obtain ⟨gg, cc, h1, _⟩ := hown.form (by omega); exact ⟨gg, cc, h1⟩
      obtain ⟨rfl, _, rfl⟩ := Value.slice.inj hx
      have hrow : Row wr xx 0 [R 0, R 1, R 2, R 3] := row_of_own (zs := [R 0, R 1, R 2, R 3]) hown
      have hcp : 4 ≤ c ∧ c ≤ 9223372036854775807 := by
        rcases hown.2 with ⟨h1, _⟩ | ⟨g, cap', cur, hv, _, _, hc, hm, _⟩
        · cases h1
        · simp at hv
          obtain ⟨rfl, rfl⟩ := hv
          exact ⟨hc, by unfold maxLen at hm; omega⟩
      have HN := hide (number_at xx 0 4 c [R 0, R 1, R 2, R 3] wr rfl (fun z hz => by
        simp only [List.mem_cons, List.not_mem_nil, or_false] at hz
        rcases hz with rfl | rfl | rfl | rfl
        · have := HRR.out 0; omega
        · have := HRR.out 1; omega
        · have := HRR.out 2; omega
        · have := HRR.out 3; omega) hrow (by omega))
      have h0 := HRR.out 0
      have h1 := HRR.out 1
      have h2 := HRR.out 2
      have h3 := HRR.out 3
      have HNF : Hid (((numFrom 0 [R 0, R 1, R 2, R 3] : Nat) : Int) = allRest bs) := by
        show _ = _
        rw [HAL.out]
        simp only [numFrom, List.foldl]
        omega
      have hnr : (numFrom 0 [R 0, R 1, R 2, R 3] : Nat) < 4294967296 := by
        simp only [numFrom, List.foldl]
        omega
      have HEND : Hid (Below w.heap.size w wr) := HB1.out.trans (HB.out.mono (by omega))
      clear hown hrow hx
      generalize numFrom 0 [R 0, R 1, R 2, R 3] = nf at *
      have hcv : ∀ W : World, (convert 177 3 (.int .u32 (nf : Nat))).run Tryz.prog W = .ok (.int .i64 (nf : Nat)) W := fun W => by
        simp [go_sem, Tryz.underlying177, Tryz.underlying3, IntKind.wrap, IntKind.signed, IntKind.bits]
        omega
      go_wp2_with fail
      refine HN.out.mono ?_
      rintro e w2 ⟨rfl, rfl⟩
      go_wp2
      go_ret
      rw [HNF.out]
      exact ⟨rfl, HEND.out⟩
end Go.Proofs.YtnjlbgolnbdkaaaGreat
/- The program's journal: the slot that is free; a record is laid. -/
namespace Go.Proofs.YtnjlbgolnbdkaaaGreat
open Go.RowKit Go.Shelf

attribute [local go_sem] Oper.semAt_some

def frTo (bs : List Int) (s : Nat) (pre : List (Fin 8)) : Nat := pre.foldl (fun n i => if kindAt bs s i.1 = 0 then n else i.1 + 1) 0
theorem frTo_snoc (bs : List Int) (s : Nat) (pre : List (Fin 8)) (i : Fin 8) : frTo bs s (pre ++ [i]) = if kindAt bs s i.1 = 0 then frTo bs s pre else i.1 + 1 := by simp [frTo]
theorem frTo_upto (bs : List Int) (s : Nat) (k : Nat) (hk : k ≤ 8) : frTo bs s (upto 8 k) = freeTo bs s k := by
  induction k with
  | zero => rfl
  | succ k ih => rw [upto_succ 8 k (by omega), frTo_snoc, ih (by omega)]; rfl
set_option maxRecDepth 100000 in
set_option maxHeartbeats 2000000 in
theorem free_any (x : Nat) (bs : List Int) (s : Nat) (w : World) (h : SecAt x bs s w) :
    Calls Tryz.prog 155 #[.agg #[.int .i64 s, .slice (some ⟨x, 0, none⟩) 8 8]] w fun e w' => e = .returned (.int .i64 (freeOf bs s : Nat)) ∧ Below w.heap.size w w' := by
  have hmx : Tryz.prog.follows .mixedOrders = true := by kernel_rfl
  refine (callsIn_wide (n := 4)).1 ?_
  refine callsIn_of_wp_marks Tryz.func155 rfl trivial ?_ rfl
  simp only [Tryz.ntmps155, List.size_toArray, List.length_cons, List.length_nil, Nat.reduceAdd, Nat.reduceSub, Array.replicate_succ, Array.replicate_zero, List.push_toArray, List.append_toArray, List.nil_append, List.cons_append]
  gi_wp2_with (refine ⟨trivial, ?_⟩; gi_at_call 172; refine (callsIn_wide.2 (entAll_any _ _)).mono ?_; rintro e w' ⟨rfl, rfl⟩)
  have hb1 : Below w.heap.size w (w.alloc (.cells #[.int .i64 s, .slice (some ⟨x, 0, none⟩) 8 8] 183)) := (Below.refl _ _).alloc (Nat.le_refl _) _
  obtain ⟨w1, hw1⟩ : ∃ w1, w1 = w.alloc (.cells #[.int .i64 s, .slice (some ⟨x, 0, none⟩) 8 8] 183) := ⟨_, rfl⟩
  have hs1 : w1.heap.size = w.heap.size + 1 := by rw [hw1]; simp
  have hA1 : w1.heap[w.heap.size]? = some (.cells #[.int .i64 s, .slice (some ⟨x, 0, none⟩) 8 8] 183 (0, 0)) := by rw [hw1]; exact heap_alloc_new w _
  rw [← hw1] at hb1 ⊢
  have hS1 := h.below hb1
  have bO := Boxed.new w1 3 (.int .i64 0)
  have bC := Boxed.new (w1.alloc (.cells #[.int .i64 0] 3)) 181 (.slice (some ⟨x, 0, none⟩) 8 8)
  rw [World.size_alloc] at bC
  rw [hs1] at bO bC
  have hB0 : Below (w.heap.size + 1) w1 ((w1.alloc (.cells #[.int .i64 0] 3)).alloc (.cells #[.slice (some ⟨x, 0, none⟩) 8 8] 181)) := ((Below.refl _ w1).alloc (by omega) _).alloc (by simp; omega) _
  obtain ⟨w2, hw2⟩ : ∃ w2, w2 = (w1.alloc (.cells #[.int .i64 0] 3)).alloc (.cells #[.slice (some ⟨x, 0, none⟩) 8 8] 181) := ⟨_, rfl⟩
  have hs2 : w2.heap.size = w.heap.size + 3 := by rw [hw2]; simp; omega
  have bO2 := bO.alloc (.cells #[.slice (some ⟨x, 0, none⟩) 8 8] 181)
  rw [← hw2] at bC hB0 bO2 ⊢
  refine wpIn_rangeFunc_ownF rfl (by omega) (gf := 199) (lb := #[.pointer (some ⟨w.heap.size + 1 + 1, 0, none⟩)]) rfl trivial (enters_of Tryz.func199 (by kernel_rfl) rfl)
    (entAll_stops _ _ trivial rfl (by omega) (w.heap.size + 1 + 1) x w2 (by omega) bC) (fun h k => k.trans h) (fun W l o o' hl _ _ _ => World.putObj_heap_other (by omega)) (Below.refl _ _) (fun _ => rfl)
    (fun pre W => Boxed W (w.heap.size + 1) 3 (.int .i64 (frTo bs s pre : Nat)) ∧ Boxed W (w.heap.size + 1 + 1) 181 (.slice (some ⟨x, 0, none⟩) 8 8) ∧ Below (w.heap.size + 1) w1 W)
    (fun _ _ _ => False)
    (OwnFrom.and (Own.from (boxed_own _ _ (fun pre => .int .i64 (frTo bs s pre : Nat))) _) (OwnFrom.and (Own.from (boxed_own _ _ _) _) (ownFrom_below (by omega) (by omega))))
    (fun _ _ _ _ _ hs _ _ => hs)
    ⟨bO2, bC, hB0⟩
    (fun i => { tmps := #[.agg #[.int .i64 s, .slice (some ⟨x, 0, none⟩) 8 8], .pointer (some ⟨w.heap.size, 0, none⟩), .int .i64 0, .pointer (some ⟨w.heap.size + 1, 0, none⟩), .int .i64 i.1, .pointer (some ⟨x, i.1 * 6, none⟩), .pointer (some ⟨w.heap.size, 1, none⟩), .agg #[.slice (some ⟨x, 0, none⟩) 8 8], .func (.func 199) #[] #[.pointer (some ⟨w.heap.size + 1 + 1, 0, none⟩)], .int .i64 i.1, .pointer (some ⟨x, i.1 * 6, none⟩), undef, undef, undef, undef, undef, undef, undef, undef], defers := [] }) ?assign ?body ?done ?stop
  case assign =>
    intro l i W K hK
    gi_wp2
    exact hK
  case body =>
    rintro l pre i W ⟨hv, hC, hB⟩ hlt
    have hsW := hB.size
    have hSW : SecAt x bs s W := hS1.below (by rw [hs1]; exact hB)
    have hi8 := i.2
    have c0 : W.cell? ⟨x, i.1 * 6, none⟩ = some (.int .i64 (kindAt bs s i.1)) := by simpa [entOf] using hSW.cell i.1 0 (by omega) (by omega)
    have hc := hv.cell
    have hf := hv.frozen
    have HFR := hide (frTo_snoc bs s pre i)
    have HC := hide hC
    have HB := hide hB
    have HV := hide hv
    by_cases hk : kindAt bs s i.1 = 0
    · have hkb : (kindAt bs s i.1 != 0) = false := by simp [hk]
      have HK := hide hk
      clear hv hC hB hSW hk hS1
      generalize kindAt bs s i.1 = kk at *
      gi_wp2
      refine ⟨KeepsOthers.refl _, rfl, ⟨?_, HC.out, HB.out⟩⟩
      rw [HFR.out, if_pos HK.out]
      exact HV.out
    · have hkb : (kindAt bs s i.1 != 0) = true := by simp [hk]
      have HK := hide hk
      have HEND : Hid (KeepsOthers W (W.setCell ⟨w.heap.size + 1, 0, none⟩ (.int .i64 ((i.1 + 1 : Nat) : Int))) ∧ (W.setCell ⟨w.heap.size + 1, 0, none⟩ (.int .i64 ((i.1 + 1 : Nat) : Int))).heap[w.heap.size + 1 + 1]? = W.heap[w.heap.size + 1 + 1]? ∧ Boxed (W.setCell ⟨w.heap.size + 1, 0, none⟩ (.int .i64 ((i.1 + 1 : Nat) : Int))) (w.heap.size + 1) 3 (.int .i64 (frTo bs s (pre ++ [i]) : Nat)) ∧ Boxed (W.setCell ⟨w.heap.size + 1, 0, none⟩ (.int .i64 ((i.1 + 1 : Nat) : Int))) (w.heap.size + 1 + 1) 181 (.slice (some ⟨x, 0, none⟩) 8 8) ∧ Below (w.heap.size + 1) w1 (W.setCell ⟨w.heap.size + 1, 0, none⟩ (.int .i64 ((i.1 + 1 : Nat) : Int)))) := by
        have h2 := hC.other (B' := w.heap.size + 1) (by omega) (.int .i64 ((i.1 + 1 : Nat) : Int))
        refine ⟨KeepsOthers.setCell _ _ _, h2.trans hC.symm, ?_, h2, Below.thenSet hB (Nat.le_refl _) _ _⟩
        rw [HFR.out, if_neg hk]
        exact hv.set _
      clear hv hC hB hSW hk hS1
      generalize kindAt bs s i.1 = kk at *
      have e1 : IntKind.i64.wrap ((i.1 : Int) + 1) = ((i.1 + 1 : Nat) : Int) := by rw [IntKind.wrap_i64]; omega
      gi_wp2
      exact HEND.out
  case done =>
    rintro D ys W hD rfl ⟨hv, hC, hB⟩ hK
    have hc := hv.cell
    rw [frTo_upto bs s 8 (by omega)] at hc
    gi_wp2
    refine ⟨by simp, .inl ⟨_, _, rfl, run_takeDeferred hK, ?_⟩⟩
    refine ⟨_, results_tmp rfl _ _ _, rfl, ?_⟩
    exact hb1.trans ((hB.mono (by omega)).trans (belowK_b (w := w) (Nat.le_refl _) W D _ _ (by omega) hK rfl rfl))
  case stop =>
    rintro D c pre W _ _ h _
    exact h.elim
end Go.Proofs.YtnjlbgolnbdkaaaGreat
/- The document's journal: a record is laid; the greatest number; the program's lay. -/
namespace Go.Proofs.YtnjlbgolnbdkaaaGreat
open Go.RowKit

abbrev layF (sl : List Int) (a k : Nat) (F : Fl) : Bool × Fl := loopB (fun k F => F.prog (a + (k + 1)) (sl.getD (k + 1) 0)) k F
theorem layF_succ (sl : List Int) (a k : Nat) (F : Fl) (h : (layF sl a k F).1 = true) : layF sl a (k + 1) F = (layF sl a k F).2.prog (a + (k + 1)) (sl.getD (k + 1) 0) := by
  show andB (layF sl a k F) _ = _
  unfold andB
  rw [if_pos h]
theorem layF_ok (sl : List Int) (a k : Nat) (F : Fl) (h : FlOk F) : FlOk (layF sl a k F).2 := loopB_ok FlOk _ (fun _ _ hF => hF.prog _ _) k F h
theorem lay_stop (sl : List Int) (a k : Nat) (F : Fl) (hk : k ≤ 15) (h : (layF sl a k F).1 = false) : F.lay a sl = layF sl a k F := by
  unfold Fl.lay
  rw [show loopB (fun k F => F.prog (a + (k + 1)) (sl.getD (k + 1) 0)) 15 F = layF sl a k F from loopB_stop _ F k 15 hk h]
  unfold andB
  rw [if_neg (by rw [h]; simp)]
theorem lay_end (sl : List Int) (a : Nat) (F : Fl) (h : (layF sl a 15 F).1 = true) : F.lay a sl = (layF sl a 15 F).2.prog a (sl.getD 0 0) := by
  unfold Fl.lay andB
  rw [if_pos h]
end Go.Proofs.YtnjlbgolnbdkaaaGreat
/- The program's journal: a record is laid into a slot. -/
namespace Go.Proofs.YtnjlbgolnbdkaaaGreat
open Go.RowKit

set_option maxRecDepth 100000 in
set_option maxHeartbeats 2000000 in
theorem jlay_any (g : Nat) (F : Fl) (s i : Nat) (kind part code seq arg : Int) (w : World) (h : FlAt w g F) (hok : FlOk F) (hs : s < 2) (hi : i < 8) :
    Calls Tryz.prog 156 #[.agg #[.pointer (some ⟨g, 0, none⟩)], .int .i64 s, .int .i64 i, .agg #[.int .i64 kind, .int .i64 part, .int .i64 code, .int .i64 seq, .int .i64 arg]] w fun e w' =>
      e = .returned (.bool (F.lay (128 * s + 16 * i) (slotOf kind part code seq arg)).1) ∧ FlAt w' g (F.lay (128 * s + 16 * i) (slotOf kind part code seq arg)).2 ∧ Touch (· = g) w w' := by
  obtain ⟨w0, hw0⟩ : ∃ w0, w0 = (w.alloc (.cells #[.pointer (some ⟨g, 0, none⟩)] 107)).alloc (.cells #[.int .i64 kind, .int .i64 part, .int .i64 code, .int .i64 seq, .int .i64 arg] 52) := ⟨_, rfl⟩
  have hb0 : Below w.heap.size w w0 := by rw [hw0]; exact ((Below.refl _ _).alloc (Nat.le_refl _) _).alloc (by simp) _
  have hA0 : w0.heap[w.heap.size]? = some (.cells #[.pointer (some ⟨g, 0, none⟩)] 107 (0, 0)) := by rw [hw0, Below.heap_alloc _ _ _ (by simp)]; exact heap_alloc_new w _
  have hA1 : w0.heap[w.heap.size + 1]? = some (.cells #[.int .i64 kind, .int .i64 part, .int .i64 code, .int .i64 seq, .int .i64 arg] 52 (0, 0)) := by rw [hw0]; exact heap_at (by simp)
  have b0 : w0.cell? ⟨w.heap.size + 1, 0, none⟩ = some (.int .i64 kind) := by rw [cell_of_row _ _ _ _ _ _ hA1]; rfl
  have b1 : w0.cell? ⟨w.heap.size + 1, 1, none⟩ = some (.int .i64 part) := by rw [cell_of_row _ _ _ _ _ _ hA1]; rfl
  have b2 : w0.cell? ⟨w.heap.size + 1, 2, none⟩ = some (.int .i64 code) := by rw [cell_of_row _ _ _ _ _ _ hA1]; rfl
  have b3 : w0.cell? ⟨w.heap.size + 1, 3, none⟩ = some (.int .i64 seq) := by rw [cell_of_row _ _ _ _ _ _ hA1]; rfl
  have b4 : w0.cell? ⟨w.heap.size + 1, 4, none⟩ = some (.int .i64 arg) := by rw [cell_of_row _ _ _ _ _ _ hA1]; rfl
  have HSL := hide (slot_any kind part code seq arg w0)
  have HLEN := hide (slotOf_length kind part code seq arg)
  have HF := hide h
  have HOK := hide hok
  have HG := hide h.lt
  have HB0 := hide hb0
  have HA0 := hide hA0
  have HW0 := hide hw0
  clear h hok hb0 hA0 hA1 hw0
  generalize slotOf kind part code seq arg = sl at *
  obtain ⟨a, ha⟩ : ∃ a, a = 128 * s + 16 * i := ⟨_, rfl⟩
  have ha2 : a + 16 ≤ 256 := by omega
  have HSA : Hid (∀ W, Calls Tryz.prog 192 #[.int .i64 s, .int .i64 i] W fun e w' => e = .returned (.int .i64 (a : Nat)) ∧ w' = W) := fun W => by
    rw [ha]
    exact slotAt_any s i W hs hi
  rw [← ha]
  obtain ⟨Lf, hLf⟩ : ∃ Lf : Nat → Bool × Fl, Lf = fun k => layF sl a k F := ⟨_, rfl⟩
  have HL0 : Hid (Lf 0 = (true, F)) := by show _ = _; rw [hLf]; rfl
  have HLS : Hid (∀ k, (Lf k).1 = true → Lf (k + 1) = (Lf k).2.prog (a + (k + 1)) (sl.getD (k + 1) 0)) := fun k hk => by rw [hLf] at hk ⊢; exact layF_succ sl a k F hk
  have HLK : Hid (∀ k, FlOk (Lf k).2) := fun k => by rw [hLf]; exact layF_ok sl a k F HOK.out
  obtain ⟨R, hR⟩ : ∃ R, R = F.lay a sl := ⟨_, rfl⟩
  rw [← hR]
  have HLT : Hid (∀ k, k ≤ 15 → (Lf k).1 = false → R = Lf k) := fun k hk h1 => by rw [hLf] at h1; rw [hR, lay_stop sl a k F hk h1, hLf]
  have HLE : Hid ((Lf 15).1 = true → R = (Lf 15).2.prog a (sl.getD 0 0)) := fun h1 => by rw [hLf] at h1; rw [hR, lay_end sl a F h1, hLf]
  clear hLf hR ha
  go_enter Tryz.func156, Tryz.ntmps156
  go_wp2_with fail
  rw [← HW0.out]
  go_wp2_with fail
  refine HSL.out.mono ?_
  rintro e w1 ⟨x, rfl, hown, hb1⟩
  have hrow : Row w1 x 0 sl := row_of_own hown
  have HR := hide hrow
  have HB1 : Hid (Below w.heap.size w w1) := HB0.out.trans (hb1.mono HB0.out.size)
  have HA1 : Hid (w1.heap[w.heap.size]? = some (.cells #[.pointer (some ⟨g, 0, none⟩)] 107 (0, 0))) := (hb1.block _ (lt_of_block HA0.out)).trans HA0.out
  have hxg : ¬ x = g := by
    have h1 := (World.ownsRow.lt hown x rfl).1
    have h2 := HG.out
    have h3 := HB0.out.size
    omega
  have hng : ¬ w.heap.size = g := by have := HG.out; omega
  have HX := hide (World.ownsRow.lt hown x rfl).2
  clear hown hb1 hrow HSL b0 b1 b2 b3 b4
  go_wp2_with (go_at_call 192; refine (HSA.out _).mono ?_; rintro e w' ⟨rfl, rfl⟩)
  go_loopw [11] (fun t wr => ∃ k m : Nat, k ≤ 15 ∧ m = k + 1 ∧ t = .int .i64 m ∧ (Lf k).1 = true ∧ FlAt wr g (Lf k).2 ∧ Touch (· = g) w wr ∧ (Row wr x 0 sl ∧ x < wr.heap.size) ∧ wr.heap[w.heap.size]? = some (.cells #[.pointer (some ⟨g, 0, none⟩)] 107 (0, 0))) (fun t _ => 16 - (intOf t).toNat)
  case atStart => exact ⟨0, 1, by omega, rfl, rfl, by rw [HL0.out], by rw [HL0.out]; exact HF.out.below HB1.out, Touch.ofBelow HB1.out, ⟨HR.out, HX.out⟩, HA1.out⟩
  case round =>
    obtain ⟨k, m, hk, hm, rfl, hy, hFk, hT, ⟨hrow, hx⟩, hbx⟩ := hrel
    have cb : wr.cell? ⟨w.heap.size, 0, none⟩ = some (.pointer (some ⟨g, 0, none⟩)) := by rw [cell_of_row _ _ _ _ _ _ hbx]; rfl
    have HT := hide hT
    have HRW := hide hrow
    have HX2 := hide hx
    have HBX := hide hbx
    by_cases hlt : m < 16
    · have c0 : wr.cell? ⟨x, m, none⟩ = some (.int .u8 (sl.getD m 0)) := by
        have := hrow m (by rw [HLEN.out]; omega)
        rwa [Nat.zero_add] at this
      have HP : Hid (Calls Tryz.prog 193 #[.pointer (some ⟨g, 0, none⟩), .int .i64 ((a + m : Nat) : Int), .int .u8 (sl.getD m 0)] wr.drew fun e w' => e = .returned (.bool (Lf m).1) ∧ FlAt w' g (Lf m).2 ∧ Touch (· = g) wr w') := by
        rw [hm, HLS.out k hy]
        refine (program_any g (Lf k).2 (a + (k + 1)) (sl.getD (k + 1) 0) wr.drew (hFk.keep rfl) (HLK.out k) (by omega)).mono ?_
        rintro e w' ⟨h1, h2, h3⟩
        exact ⟨h1, h2, (Touch.ofDrew wr).andThen h3⟩
      clear hy hFk hT hrow hx hbx
      generalize sl.getD m 0 = z at *
      obtain ⟨q, hq⟩ : ∃ q, q = a + m := ⟨_, rfl⟩
      rw [← hq] at HP
      have e2 : (a : Int) + (m : Int) = q := by omega
      have hq2 : q < 256 := by omega
      have e3 : IntKind.i64.wrap (q : Int) = q := by rw [IntKind.wrap_i64]; omega
      clear hq
      have HM := hide hm
      have HK := hide hk
      clear hm hk
      obtain ⟨r, hr⟩ : ∃ r, r = Lf m := ⟨_, rfl⟩
      rw [← hr] at HP
      obtain ⟨rb, rF⟩ := r
      have HRR := hide hr
      clear hr
      simp only at HP
      go_wp2_with fail
      go_cut [31] from 17 to 31 (fun b wx => b = .bool (!rb) ∧ FlAt wx g rF ∧ Touch (· = g) wr wx)
      case first =>
        go_region_held (fun W : World => W.cell? ⟨w.heap.size, 0, none⟩ = some (.pointer (some ⟨g, 0, none⟩)) ∧ W.cell? ⟨x, m, none⟩ = some (.int .u8 z))
          ((first | exact ⟨cb, c0⟩ | assumption))
          (first | (go_at_call 193; refine HP.out.mono ?_; rintro e w9 ⟨rfl, hF2, hT2⟩; have hS : w9.cell? ⟨w.heap.size, 0, none⟩ = some (.pointer (some ⟨g, 0, none⟩)) ∧ w9.cell? ⟨x, m, none⟩ = some (.int .u8 z) := ⟨(World.cell?_of_block (hT2.block _ (lt_of_block HBX.out) hng)).trans cb, (World.cell?_of_block (hT2.block x HX2.out hxg)).trans c0⟩))
        all_goals (go_wp2_with fail; go_meet; exact ⟨by first | rfl | simp, hF2, hT2⟩)
      case rest =>
        obtain ⟨rfl, hF2, hT2⟩ := hcut
        have HF2 := hide hF2
        have HTT := hide (HT.out.andThen hT2)
        have HR2 := hide (And.intro (fun (j : Nat) (hj : j < sl.length) => (World.cell?_of_block (hT2.block x HX2.out hxg)).trans (HRW.out j hj)) (Nat.lt_of_lt_of_le HX2.out hT2.size))
        have HBX2 := hide ((hT2.block _ (lt_of_block HBX.out) hng).trans HBX.out)
        clear hF2 hT2 HP cb c0
        cases rb with
        | true =>
          go_wp2
          go_roundw
          case rel => exact ⟨k + 1, m + 1, by have := HM.out; omega, by rw [HM.out], by go_num, by rw [← HM.out, ← HRR.out], by rw [← HM.out, ← HRR.out]; exact HF2.out, HTT.out, HR2.out, HBX2.out⟩
          case measure => simp [intOf]; omega
        | false =>
          have HL := hide (HLT.out m (by omega) (by rw [← HRR.out]))
          go_wp2
          go_ret
          rw [HL.out, ← HRR.out]
          exact ⟨rfl, HF2.out, HTT.out⟩
    · obtain rfl : k = 15 := by omega
      obtain rfl : m = 16 := by omega
      clear hm
      have c0 : wr.cell? ⟨x, 0, none⟩ = some (.int .u8 (sl.getD 0 0)) := by
        have := hrow 0 (by rw [HLEN.out]; omega)
        rwa [Nat.zero_add] at this
      have HP : Hid (Calls Tryz.prog 193 #[.pointer (some ⟨g, 0, none⟩), .int .i64 (a : Nat), .int .u8 (sl.getD 0 0)] wr.drew fun e w' => e = .returned (.bool R.1) ∧ FlAt w' g R.2 ∧ Touch (· = g) wr w') := by
        rw [HLE.out hy]
        refine (program_any g (Lf 15).2 a (sl.getD 0 0) wr.drew (hFk.keep rfl) (HLK.out 15) (by omega)).mono ?_
        rintro e w' ⟨h1, h2, h3⟩
        exact ⟨h1, h2, (Touch.ofDrew wr).andThen h3⟩
      clear hy hFk hT hrow hx hbx
      have e3 : IntKind.i64.wrap (a : Int) = a := by rw [IntKind.wrap_i64]; omega
      generalize sl.getD 0 0 = z at *
      obtain ⟨rb, rF⟩ := R
      simp only at HP
      go_wp2_with fail
      go_cut [8] from 17 to 39 (fun b wx => b = .bool rb ∧ FlAt wx g rF ∧ Touch (· = g) wr wx)
      case first =>
        go_region_held (fun W : World => W.cell? ⟨w.heap.size, 0, none⟩ = some (.pointer (some ⟨g, 0, none⟩)) ∧ W.cell? ⟨x, 0, none⟩ = some (.int .u8 z))
          ((first | exact ⟨cb, c0⟩ | assumption))
          (first | (go_at_call 193; refine HP.out.mono ?_; rintro e w9 ⟨rfl, hF2, hT2⟩; have hS : w9.cell? ⟨w.heap.size, 0, none⟩ = some (.pointer (some ⟨g, 0, none⟩)) ∧ w9.cell? ⟨x, 0, none⟩ = some (.int .u8 z) := ⟨(World.cell?_of_block (hT2.block _ (lt_of_block HBX.out) hng)).trans cb, (World.cell?_of_block (hT2.block x HX2.out hxg)).trans c0⟩))
        all_goals (go_wp2_with fail; go_meet; exact ⟨by first | rfl | simp, hF2, hT2⟩)
      case rest =>
        obtain ⟨rfl, hF2, hT2⟩ := hcut
        have HF2 := hide hF2
        have HTT := hide (HT.out.andThen hT2)
        clear hF2 hT2 HP cb c0
        go_wp2
        go_ret
        exact ⟨rfl, HF2.out, HTT.out⟩
end Go.Proofs.YtnjlbgolnbdkaaaGreat
