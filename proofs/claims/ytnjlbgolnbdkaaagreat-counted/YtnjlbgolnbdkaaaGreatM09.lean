/- Texts of the proofs of Watched and Clocked, one behind the other. -/
import Derived.Test.YtnjlbgolnbdkaaaGreatM06
import Derived.Test.YtnjlbgolnbdkaaaGreatM08
import Derived.Test.YtnjlbgolnbdkaaaGreatM04
/- Texts of the proof of Boots, one behind the other. -/
namespace Go.Proofs.YtnjlbgolnbdkaaaGreat
open Go.RowKit

def rstep (part : Int) (n : Int) (r : Nat → Int) : Int := if (r 1 == part && (r 4 == 4 || r 4 == 5) && decide (n < 255)) = true then n + 1 else n
def restartsOf (bs : List Int) (part : Nat) : Int :=
  if (sectorsOf bs).1 < 0 then 0 else (faultsOf bs (sectorsOf bs).1).foldl (rstep part) ((be4 (argB bs (sectorsOf bs).1.toNat % 4294967296).toNat).getD part 0)
theorem rstep_rng (part n : Int) (r : Nat → Int) (h : 0 ≤ n ∧ n ≤ 255) : 0 ≤ rstep part n r ∧ rstep part n r ≤ 255 := by
  unfold rstep
  split
  · rename_i hh
    simp at hh
    omega
  · exact h
theorem rfold_rng (part : Int) (l : List (Nat → Int)) : ∀ n, 0 ≤ n ∧ n ≤ 255 → 0 ≤ l.foldl (rstep part) n ∧ l.foldl (rstep part) n ≤ 255 := by
  induction l with
  | nil => intro n h; exact h
  | cons a l ih => intro n h; exact ih _ (rstep_rng part n a h)
theorem recs_read {base : Nat} {v : Value} {l : List (Nat → Int)} {w : World} (h : RecsV base v l w) : ∃ ad c, v = .slice ad l.length c ∧ ∀ i r, l[i]? = some r → ∃ g, ad = some ⟨g, 0, none⟩ ∧ w.cell? ⟨g, i * 5, none⟩ = some (.int .i64 (r 0)) ∧ w.cell? ⟨g, i * 5 + 1, none⟩ = some (.int .i64 (r 1)) ∧ w.cell? ⟨g, i * 5 + 2, none⟩ = some (.int .i64 (r 2)) ∧ w.cell? ⟨g, i * 5 + 3, none⟩ = some (.int .i64 (r 3)) ∧ w.cell? ⟨g, i * 5 + 4, none⟩ = some (.int .i64 (r 4)) := by
  obtain ⟨_, ad, c, hv, hr⟩ := own_read recCells (fun _ => rfl) l rfl h
  refine ⟨ad, c, hv, fun i r hi => ?_⟩
  obtain ⟨g, hg, hc⟩ := hr i r hi
  exact ⟨g, hg, by simpa [recCells] using hc 0 (by omega), by simpa [recCells] using hc 1 (by omega), by simpa [recCells] using hc 2 (by omega), by simpa [recCells] using hc 3 (by omega), by simpa [recCells] using hc 4 (by omega)⟩

end Go.Proofs.YtnjlbgolnbdkaaaGreat
namespace Go.Proofs.YtnjlbgolnbdkaaaGreat
open Go.RowKit

set_option maxHeartbeats 1000000 in
theorem append4_nil (n : Nat) (w : World) (hn : n < 4294967296) :
    Calls Tryz.prog 152 #[.slice none 0 0, .int .u32 n] w fun e w' => ∃ x cap, e = .returned (.slice (some ⟨x, 0, none⟩) 4 cap) ∧ w'.ownsRow w.heap.size 5 1 (.slice (some ⟨x, 0, none⟩) 4 cap) 4 (vals (be4 n)) ∧ Below w.heap.size w w' := by
  obtain ⟨i0, hi, hz0, hz1, hz2⟩ := info_parts Tryz.info5
  go_enter Tryz.func152, Tryz.ntmps152
  go_wp2_with (at_builtin; go_must (refine wpList_append_lies _ rfl (.tmp 5) (.tmp 17) 22 rfl w.heap.size 5 i0 (.int .u8 0) 1 1 Tryz.underlying22 hi hz0 hz1 hz2 rfl (by decide) (.slice none 0 0) 0 [] rfl (World.ownsRow_nil _ _ _ _) ⟨w.heap.size, 0, none⟩ 4 4 (vals (be4 n)) (by rfl) rfl (by rw [vals_be4 n hn]; exact news_at w _ 5) (vals_one _) (by omega) (by decide) (by omega) (by simp) _ rfl ?_))
  intro x cap w1 hown1 hgrow _ _
  have H1 : Hid (w1.ownsRow w.heap.size 5 1 (.slice (some ⟨x, 0, none⟩) 4 cap) 4 (vals (be4 n))) := (by simpa using hown1 : w1.ownsRow w.heap.size 5 1 (.slice (some ⟨x, 0, none⟩) 4 cap) 4 (vals (be4 n)))
  have H2 : Hid (Below w.heap.size w w1) := (Below.refl _ _).grown (grown_alloc hgrow) (Nat.le_refl _) (by simp [Value.ownBlock])
  clear hown1 hgrow
  go_wp2
  go_ret
  exact ⟨x, cap, by simp, H1.out, H2.out⟩

def pstep (part : Int) (n : Int) (r : Nat → Int) : Int := if (r 1 == part && (r 4 == 4 || r 4 == 5)) = true then n + 1 else n
def prestOf (bs : List Int) (s : Nat) (part : Nat) : Int := min ((pfOf bs s).foldl (pstep part) ((be4 (hdrOf bs s 4).toNat).getD part 0)) 255
theorem pstep_rng (part n : Int) (r : Nat → Int) : n ≤ pstep part n r ∧ pstep part n r ≤ n + 1 := by unfold pstep; split <;> omega
theorem pfold_rng (part : Int) (l : List (Nat → Int)) : ∀ n, n ≤ l.foldl (pstep part) n ∧ l.foldl (pstep part) n ≤ n + l.length := by
  induction l with
  | nil => intro n; simp
  | cons a l ih => intro n; have := ih (pstep part n a); have := pstep_rng part n a; simp only [List.foldl_cons, List.length_cons]; omega
theorem hdrOf_rng (bs : List Int) (hb : Bytes bs) (s : Nat) : 0 ≤ hdrOf bs s 4 ∧ hdrOf bs s 4 < 4294967296 := by
  unfold hdrOf
  split
  · exact rec_num bs s 0 4 hb
  · omega

set_option maxRecDepth 100000 in
set_option maxHeartbeats 4000000 in
theorem prestarts_any (x : Nat) (bs : List Int) (s part : Nat) (w : World) (hb : Bytes bs) (hp : part < 4) (h : SecAt x bs s w) :
    Calls Tryz.prog 113 #[.agg #[.int .i64 s, .slice (some ⟨x, 0, none⟩) 8 8], .int .i64 part] w fun e w' => e = .returned (.int .i64 (prestOf bs s part)) ∧ Below w.heap.size w w' := by
  obtain ⟨w1, hw1⟩ : ∃ w1, w1 = w.alloc (.cells #[.int .i64 s, .slice (some ⟨x, 0, none⟩) 8 8] 183) := ⟨_, rfl⟩
  have hb1 : Below w.heap.size w w1 := by rw [hw1]; exact (Below.refl _ _).alloc (Nat.le_refl _) _
  have hA1 : w1.heap[w.heap.size]? = some (.cells #[.int .i64 s, .slice (some ⟨x, 0, none⟩) 8 8] 183 (0, 0)) := by rw [hw1]; exact heap_alloc_new w _
  have HHD := hide (header_any x bs s w1 (h.below hb1))
  have hr := hdrOf_rng bs hb s
  have HRES : Hid (prestOf bs s part = min ((pfOf bs s).foldl (pstep part) ((be4 (hdrOf bs s 4).toNat).getD part 0)) 255) := rfl
  have HSE : Hid (∀ W, Below w1.heap.size w1 W → SecAt x bs s W) := fun W hW => (h.below hb1).below hW
  have HB1 := hide hb1
  have HA1 := hide hA1
  have HW1 := hide hw1
  have hs1 : w1.heap.size = w.heap.size + 1 := by rw [hw1]; simp
  have hl := pfOf_le bs s
  clear h hb1 hw1
  have a0 : w1.cell? ⟨w.heap.size, 0, none⟩ = some (.int .i64 s) := by rw [cell_of_row _ _ _ _ _ _ hA1]; rfl
  have a1 : w1.cell? ⟨w.heap.size, 1, none⟩ = some (.slice (some ⟨x, 0, none⟩) 8 8) := by rw [cell_of_row _ _ _ _ _ _ hA1]; rfl
  clear hA1
  generalize hdrOf bs s 0 = r0 at *
  generalize hdrOf bs s 1 = r1 at *
  generalize hdrOf bs s 2 = r2 at *
  generalize hdrOf bs s 3 = r3 at *
  generalize hdrOf bs s 4 = r4 at *
  have hfld : ∀ W : World, (Instr.field 52 (.agg #[.int .i64 r0, .int .i64 r1, .int .i64 r2, .int .i64 r3, .int .i64 r4]) 4).run Tryz.prog W = .ok (.int .i64 r4) W := fun W => by kernel_rfl
  go_enter Tryz.func113, Tryz.ntmps113
  go_wp2_with fail
  rw [← HW1.out]
  go_wp2_with fail
  refine HHD.out.mono ?_
  rintro e w2 ⟨rfl, hb2⟩
  have hs2 := hb2.size
  have HB2 := hide hb2
  obtain ⟨n4, rfl⟩ := Int.eq_ofNat_of_zero_le hr.1
  clear hb2 HHD
  go_wp2_with fail
  refine (append4_nil n4 w2 (by omega)).mono ?_
  rintro e w3 ⟨xc, cap, rfl, hown3, hb3⟩
  have hs3 := hb3.size
  have HB3 : Hid (Below w1.heap.size w1 w3) := HB2.out.trans (hb3.mono hs2)
  have hbb := (be4_bytes n4).getD part
  have c4 : w3.cell? ⟨xc, part, none⟩ = some (.int .u8 ((be4 n4).getD part 0)) := by
    have := row_of_own hown3 part (by show part < 4; exact hp)
    simpa using this
  have hc4 : 4 ≤ cap ∧ cap ≤ 9223372036854775807 := by
    rcases hown3.2 with ⟨h1, _⟩ | ⟨g, cap', cur, hv, _, _, hc, hm, _⟩
    · cases h1
    · simp at hv
      obtain ⟨rfl, rfl⟩ := hv
      exact ⟨hc, by unfold maxLen at hm; omega⟩
  have hA3 := (HB3.out.block _ (by omega)).trans HA1.out
  have b0 : w3.cell? ⟨w.heap.size, 0, none⟩ = some (.int .i64 s) := by rw [cell_of_row _ _ _ _ _ _ hA3]; rfl
  have b1 : w3.cell? ⟨w.heap.size, 1, none⟩ = some (.slice (some ⟨x, 0, none⟩) 8 8) := by rw [cell_of_row _ _ _ _ _ _ hA3]; rfl
  have HFA := hide (faults_any x bs s w3 (HSE.out w3 HB3.out))
  have HRES2 : Hid (prestOf bs s part = min ((pfOf bs s).foldl (pstep part) ((be4 n4).getD part 0)) 255) := by show _ = _; rw [HRES.out]; rfl
  clear hb3 hown3 hA3 HRES a0 a1
  generalize (be4 n4).getD part 0 = n0 at c4 HRES2 hbb
  change Hid (Calls Tryz.prog 127 #[.agg #[.int .i64 s, .slice (some ⟨x, 0, none⟩) 8 8]] w3 fun e w' => ∃ v, e = .returned v ∧ (RecsV w3.heap.size v (pfOf bs s) w' ∧ (v = .slice none 0 0 ↔ pfOf bs s = [])) ∧ Below w3.heap.size w3 w') at HFA
  generalize pfOf bs s = l at HFA HRES2 hl
  go_wp2_with fail
  refine HFA.out.mono ?_
  rintro e w4 ⟨v4, rfl, ⟨hV4, _⟩, hb4⟩
  have HB4 : Hid (Below w.heap.size w w4) := HB1.out.trans ((HB3.out.trans (hb4.mono HB3.out.size)).mono (by omega))
  obtain ⟨ad, c, rfl, hrd⟩ := recs_read hV4
  have hcell : ∀ i r, l[i]? = some r → ∃ g, ad = some ⟨g, 0, none⟩ ∧ g < w4.heap.size ∧ w4.cell? ⟨g, i * 5, none⟩ = some (.int .i64 (r 0)) ∧ w4.cell? ⟨g, i * 5 + 1, none⟩ = some (.int .i64 (r 1)) ∧ w4.cell? ⟨g, i * 5 + 2, none⟩ = some (.int .i64 (r 2)) ∧ w4.cell? ⟨g, i * 5 + 3, none⟩ = some (.int .i64 (r 3)) ∧ w4.cell? ⟨g, i * 5 + 4, none⟩ = some (.int .i64 (r 4)) := fun i r hi => by
    obtain ⟨g, h0, h1, h2⟩ := hrd i r hi
    exact ⟨g, h0, lt_of_cell h1, h1, h2⟩
  have HRD := hide hcell
  generalize hN : l.length = N at *
  have HN := hide hN
  clear hV4 hb4 HFA HB3 c4 hrd hN b0 b1 hcell
  have hs4 : w.heap.size ≤ w4.heap.size := HB4.out.size
  go_wp2
  go_loopw [6, 22] (fun n i wr => ∃ (k : Nat), k ≤ N ∧ i = .int .i64 k ∧ n = .int .i64 ((l.take k).foldl (pstep part) n0) ∧ Below w4.heap.size w4 wr) (fun _ i _ => N - (intOf i).toNat)
  case atStart => exact ⟨0, by omega, rfl, rfl, Below.refl _ _⟩
  case round =>
    obtain ⟨k, hk, rfl, rfl, hB⟩ := hrel
    by_cases hlt : k < N
    · obtain ⟨r, hr'⟩ : ∃ r, l[k]? = some r := ⟨l[k]'(by rw [HN.out]; exact hlt), List.getElem?_eq_getElem _⟩
      obtain ⟨gg2, had, hgl, x0, x1, x2, x3, x4⟩ := HRD.out k r hr'
      subst had
      have y0 := (hB.cell (p := ⟨gg2, k * 5, none⟩) hgl).trans x0
      have y1 := (hB.cell (p := ⟨gg2, k * 5 + 1, none⟩) hgl).trans x1
      have y2 := (hB.cell (p := ⟨gg2, k * 5 + 2, none⟩) hgl).trans x2
      have y3 := (hB.cell (p := ⟨gg2, k * 5 + 3, none⟩) hgl).trans x3
      have y4 := (hB.cell (p := ⟨gg2, k * 5 + 4, none⟩) hgl).trans x4
      have HT : Hid ((l.take (k + 1)).foldl (pstep part) n0 = pstep part ((l.take k).foldl (pstep part) n0) r) := by
        show _ = _
        rw [List.take_add_one, hr', List.foldl_append]
        rfl
      have hfr := pfold_rng part (l.take k) n0
      have hlk : (l.take k).length ≤ k := List.length_take_le _ _
      have HRS : Hid (∀ n, pstep part n r = if (r 1 == (part : Int) && (r 4 == 4 || r 4 == 5)) = true then n + 1 else n) := fun n => rfl
      have HEN : Hid (∀ o, Below w4.heap.size w4 (wr.alloc o)) := fun o => hB.alloc hB.size o
      clear hr' x0 x1 x2 x3 x4 hB
      generalize (l.take k).foldl (pstep part) n0 = nn at HT hfr ⊢
      generalize r 0 = p0 at y0
      generalize r 1 = p1 at y1 HRS
      generalize r 2 = p2 at y2
      generalize r 3 = p3 at y3
      generalize r 4 = p4 at y4 HRS
      by_cases hp1 : (p1 == (part : Int)) = true
      · by_cases h4 : (p4 == 4) = true
        · have HC : Hid ((p1 == (part : Int) && (p4 == 4 || p4 == 5)) = true) := by show _ = true; rw [hp1, h4]; simp
          go_wp2
          go_roundw
          case rel => exact ⟨k + 1, by omega, by go_num, by rw [HT.out, HRS.out, if_pos HC.out], HEN.out _⟩
          case measure => simp [intOf]; omega
        · have h4f : (p4 == 4) = false := by simpa using h4
          by_cases h5 : (p4 == 5) = true
          · have HC : Hid ((p1 == (part : Int) && (p4 == 4 || p4 == 5)) = true) := by show _ = true; rw [hp1, h5]; simp
            go_wp2
            go_roundw
            case rel => exact ⟨k + 1, by omega, by go_num, by rw [HT.out, HRS.out, if_pos HC.out], HEN.out _⟩
            case measure => simp [intOf]; omega
          · have h5f : (p4 == 5) = false := by simpa using h5
            have HC : Hid (¬ (p1 == (part : Int) && (p4 == 4 || p4 == 5)) = true) := by show ¬ _; rw [h4f, h5f]; simp
            go_wp2
            go_roundw
            case rel => exact ⟨k + 1, by omega, by go_num, by rw [HT.out, HRS.out, if_neg HC.out], HEN.out _⟩
            case measure => simp [intOf]; omega
      · have hp1f : (p1 == (part : Int)) = false := by simpa using hp1
        have HC : Hid (¬ (p1 == (part : Int) && (p4 == 4 || p4 == 5)) = true) := by show ¬ _; rw [hp1f]; simp
        go_wp2
        go_roundw
        case rel => exact ⟨k + 1, by omega, by go_num, by rw [HT.out, HRS.out, if_neg HC.out], HEN.out _⟩
        case measure => simp [intOf]; omega
    · obtain rfl : k = N := by omega
      have HT : Hid (l.take k = l) := by show _ = _; rw [← HN.out]; exact List.take_length
      have HEND : Hid (Below w.heap.size w wr) := HB4.out.trans (hB.mono hs4)
      clear hB
      rw [HT.out]
      generalize l.foldl (pstep part) n0 = nn at HRES2
      go_wp2
      all_goals
        go_ret
        exact ⟨ret_int (by rw [HRES2.out]; omega), HEND.out⟩
end Go.Proofs.YtnjlbgolnbdkaaaGreat
namespace Go.Proofs.YtnjlbgolnbdkaaaGreat
open Go.RowKit

theorem act_same (bs : List Int) : (headB bs (actOf bs).1 = true ∧ (sectorsOf bs).1 = ((actOf bs).1 : Int)) ∨ (headB bs (actOf bs).1 = false ∧ (sectorsOf bs).1 = -1) := by
  unfold sectorsOf
  rcases hX : headB bs 0 with _ | _ <;> rcases hY : headB bs 1 with _ | _
  · have ha : actOf bs = (1, 0) := by unfold actOf; rw [hX]; rfl
    rw [ha]
    exact .inr ⟨hY, rfl⟩
  · have ha : actOf bs = (1, 0) := by unfold actOf; rw [hX]; rfl
    rw [ha]
    exact .inl ⟨hY, rfl⟩
  · have ha : actOf bs = (0, 1) := by unfold actOf; rw [hX, hY]; rfl
    rw [ha]
    exact .inl ⟨hX, rfl⟩
  · have g0 := genOf_headed bs 0 hX
    have g1 := genOf_headed bs 1 hY
    by_cases hle : genOf bs 1 ≤ genOf bs 0
    · have ha : actOf bs = (0, 1) := by unfold actOf; rw [hX, hY, decide_eq_true hle]; rfl
      rw [ha]
      refine .inl ⟨hX, ?_⟩
      by_cases he : genB bs 0 = genB bs 1 + 1
      · rw [sect_a _ _ he]; rfl
      · rw [sect_c _ _ he (by omega) (by omega)]; rfl
    · have ha : actOf bs = (1, 0) := by unfold actOf; rw [hX, hY, decide_eq_false hle]; rfl
      rw [ha]
      refine .inl ⟨hY, ?_⟩
      by_cases he : genB bs 1 = genB bs 0 + 1
      · rw [sect_b _ _ (by omega) he]; rfl
      · rw [sect_d _ _ (by omega) he (by omega)]; rfl
theorem step_min (part n m : Int) (r : Nat → Int) (h : m = min n 255) : rstep part m r = min (pstep part n r) 255 := by
  subst h
  unfold rstep pstep
  rcases hc : (r 1 == part && (r 4 == 4 || r 4 == 5)) with _ | _
  · simp
  · by_cases h2 : n < 255
    · rw [if_pos (by simp; omega), if_pos rfl]; omega
    · rw [if_neg (by simp; omega), if_pos rfl]; omega
theorem fold_min (part : Int) (l : List (Nat → Int)) : ∀ n m, m = min n 255 → l.foldl (rstep part) m = min (l.foldl (pstep part) n) 255 := by
  induction l with
  | nil => intro n m h; exact h
  | cons a l ih => intro n m h; exact ih _ _ (step_min part n m a h)
theorem prest_same (bs : List Int) (hb : Bytes bs) (part : Nat) : prestOf bs (actOf bs).1 part = restartsOf bs part := by
  unfold prestOf restartsOf
  rcases act_same bs with ⟨hh, hs⟩ | ⟨hh, hs⟩
  · rw [hs, if_neg (by omega), pfOf_headed bs _ hh]
    have hr := rec_num bs (actOf bs).1 0 4 hb
    have e1 : hdrOf bs (actOf bs).1 4 = recOf bs (actOf bs).1 0 4 := by unfold hdrOf; rw [if_pos hh]
    have e2 : argB bs ((actOf bs).1 : Int).toNat % 4294967296 = recOf bs (actOf bs).1 0 4 := by show recOf bs (actOf bs).1 0 4 % _ = _; omega
    rw [e1, e2]
    have hb4 := (be4_bytes (recOf bs (actOf bs).1 0 4).toNat).getD part
    exact (fold_min _ _ _ _ (by omega)).symm
  · have e0 : (be4 0).getD part 0 = 0 := by
      rcases part with _ | _ | _ | _ | p <;> rfl
    have e1 : hdrOf bs (actOf bs).1 4 = 0 := by unfold hdrOf; rw [if_neg (by simp [hh])]
    rw [hs, if_pos (by omega), pfOf_not bs _ hh, e1]
    show min ((be4 0).getD part 0) 255 = 0
    rw [e0]; rfl

set_option maxHeartbeats 1000000 in
theorem on_any (g : Nat) (w : World) : Calls Tryz.prog 47 #[.pointer (some ⟨g, 0, none⟩)] w fun e w' => e = .returned (.agg #[.pointer (some ⟨g, 0, none⟩)]) ∧ Below w.heap.size w w' := by
  go_enter Tryz.func47, Tryz.ntmps47
  go_wp2
  exact bodyPost_ret (v := .agg #[.pointer (some ⟨g, 0, none⟩)]) (by simp [results, Tryz.results47, go_sem]) rfl ⟨rfl, (Below.refl _ _).alloc (Nat.le_refl _) _⟩

set_option maxRecDepth 100000 in
set_option maxHeartbeats 2000000 in
theorem jlog_any (g : Nat) (bs : List Int) (left res : Int) (dead : Bool) (done : Int) (w : World) (h : FlashAt w g bs left res dead done) :
    Calls Tryz.prog 48 #[.agg #[.pointer (some ⟨g, 0, none⟩)]] w fun e w' => ∃ v, e = .returned v ∧ (RecsV w.heap.size v (logOf bs) w' ∧ (logOf bs = [] → v = .slice none 0 0)) ∧ Below w.heap.size w w' := by
  have hb0 : Below w.heap.size w (w.alloc (.cells #[.pointer (some ⟨g, 0, none⟩)] 107)) := (Below.refl _ _).alloc (Nat.le_refl _) _
  have HS := hide (sectors_any g bs left res dead done _ (h.below hb0))
  have HN := hide (genOf_rng bs h.bytes)
  have HSA := hide (plog_same bs h.bytes)
  have HB0 := hide hb0
  clear h hb0
  generalize (actOf bs).1 = s1 at *
  generalize (actOf bs).2 = s2 at *
  go_enter Tryz.func48, Tryz.ntmps48
  go_wp2_with fail
  refine HS.out.mono ?_
  rintro e w1 ⟨x, y, rfl, hS1, hS2, hb1⟩
  have HB1 : Hid (Below w.heap.size w w1) := HB0.out.trans (hb1.mono (by simp))
  have HS1 := hide hS1
  have HS2 := hide hS2
  clear hS1 hS2 hb1 HS
  have hs1 := HB1.out.size
  go_wp2_with fail
  refine (plog_any x y bs s1 s2 _ HN.out ((HS1.out.alloc _).alloc _) ((HS2.out.alloc _).alloc _)).mono ?_
  rintro e w2 ⟨v, rfl, ⟨hV, hn⟩, hb2⟩
  have HEND : Hid ((RecsV w.heap.size v (logOf bs) w2 ∧ (logOf bs = [] → v = .slice none 0 0)) ∧ Below w.heap.size w w2) := by
    rw [HSA.out] at hV hn
    exact ⟨⟨own_low hV (by simp; omega), hn⟩, (((HB1.out.alloc hs1 _).alloc (by simp; omega) _)).trans (hb2.mono (by simp; omega))⟩
  clear hV hn hb2
  go_wp2
  go_ret
  exact ⟨v, rfl, HEND.out⟩

set_option maxRecDepth 100000 in
set_option maxHeartbeats 2000000 in
theorem jrest_any (g : Nat) (bs : List Int) (left res : Int) (dead : Bool) (done : Int) (part : Nat) (w : World) (hp : part < 4) (h : FlashAt w g bs left res dead done) :
    Calls Tryz.prog 75 #[.agg #[.pointer (some ⟨g, 0, none⟩)], .int .i64 part] w fun e w' => e = .returned (.int .i64 (restartsOf bs part)) ∧ Below w.heap.size w w' := by
  have hb0 : Below w.heap.size w (w.alloc (.cells #[.pointer (some ⟨g, 0, none⟩)] 107)) := (Below.refl _ _).alloc (Nat.le_refl _) _
  have HS := hide (sectors_any g bs left res dead done _ (h.below hb0))
  have HSA := hide (prest_same bs h.bytes part)
  have HBY := hide h.bytes
  have HB0 := hide hb0
  clear h hb0
  generalize (actOf bs).1 = s1 at *
  generalize (actOf bs).2 = s2 at *
  go_enter Tryz.func75, Tryz.ntmps75
  go_wp2_with fail
  refine HS.out.mono ?_
  rintro e w1 ⟨x, y, rfl, hS1, hS2, hb1⟩
  have HB1 : Hid (Below w.heap.size w w1) := HB0.out.trans (hb1.mono (by simp))
  have HS1 := hide hS1
  clear hS1 hS2 hb1 HS
  have hs1 := HB1.out.size
  go_wp2_with fail
  refine (prestarts_any x bs s1 part _ HBY.out hp ((HS1.out.alloc _).alloc _)).mono ?_
  rintro e w2 ⟨rfl, hb2⟩
  have HEND : Hid (Below w.heap.size w w2) := (((HB1.out.alloc hs1 _).alloc (by simp; omega) _)).trans (hb2.mono (by simp; omega))
  clear hb2
  go_wp2
  go_ret
  exact ⟨by rw [HSA.out]; rfl, HEND.out⟩
end Go.Proofs.YtnjlbgolnbdkaaaGreat
/- Texts of the proof of Boots, one behind the other. -/
namespace Go.Proofs.YtnjlbgolnbdkaaaGreat
open Go.RowKit

structure RProc where
  next : Int
  acc : Int
  til : Int
  dl : Int
  stopped : Bool
structure RPart where
  mode : Int
  words : List Int
  procs : List RProc
  watch : Int
structure RSt where
  cf : Cf
  parts : List RPart
  queues : List (List Int)
  now : Int
  dead : Bool
def rprocCells (p : RProc) : List Value := [.int .i64 p.next, .int .i64 p.acc, .int .i64 p.til, .int .i64 p.dl, .bool p.stopped]
def RProcsV (base : Nat) (v : Value) (l : List RProc) (w : World) : Prop := w.ownsRow base 200 5 v l.length (l.flatMap rprocCells)
def IntsV (base : Nat) (v : Value) (l : List Int) (w : World) : Prop := w.ownsRow base 3 1 v l.length (l.map (Value.int .i64))
def rpartCells (p : RPart × Value × Value) : List Value := [.int .i64 p.1.mode, p.2.1, p.2.2, .int .i64 p.1.watch]
def RPartsV (base : Nat) (v : Value) (ps : List RPart) (w : World) : Prop := ∃ l : List (RPart × Value × Value), l.map Prod.fst = ps ∧ w.ownsRow base 198 4 v l.length (l.flatMap rpartCells) ∧ ∀ q ∈ l, IntsV base q.2.1 q.1.words w ∧ RProcsV base q.2.2 q.1.procs w
def QueuesV (base : Nat) (v : Value) (qs : List (List Int)) (w : World) : Prop := ∃ l : List (List Int × Value), l.map Prod.fst = qs ∧ w.ownsRow base 40 1 v l.length (l.map Prod.snd) ∧ ∀ q ∈ l, IntsV base q.2 q.1 w
def rkCells (fr wt : Int) (vP vW vC : Value) (g : Nat) (vR vQ : Value) (now : Int) (dead : Bool) : Array Value := #[.int .i64 fr, .int .i64 wt, vP, vW, vC, .pointer (some ⟨g, 0, none⟩), vR, vQ, .int .i64 now, .bool dead]
structure RefK (base kb g : Nat) (st : RSt) (w : World) : Prop where
  lo : base ≤ kb
  ex : ∃ vP vW vC vR vQ, w.heap[kb]? = some (.cells (rkCells st.cf.frame st.cf.watch vP vW vC g vR vQ st.now st.dead) 151 (0, 0)) ∧ ConfV base vP vW vC st.cf w ∧ RPartsV base vR st.parts w ∧ QueuesV base vQ st.queues w
theorem RPartsV.keep {base : Nat} {v : Value} {ps : List RPart} {w w' : World} (h : RPartsV base v ps w) (hs : ∀ b, base ≤ b → b < w.heap.size → w'.heap[b]? = w.heap[b]?) : RPartsV base v ps w' := by
  obtain ⟨l, h1, h2, h3⟩ := h
  exact ⟨l, h1, own_keep h2 (fun b e => hs b (World.ownsRow.lt h2 b e).1 (World.ownsRow.lt h2 b e).2), fun q hq => ⟨own_keep (h3 q hq).1 (fun b e => hs b (World.ownsRow.lt (h3 q hq).1 b e).1 (World.ownsRow.lt (h3 q hq).1 b e).2), own_keep (h3 q hq).2 (fun b e => hs b (World.ownsRow.lt (h3 q hq).2 b e).1 (World.ownsRow.lt (h3 q hq).2 b e).2)⟩⟩
theorem RPartsV.low {base base' : Nat} {v : Value} {ps : List RPart} {w : World} (h : RPartsV base v ps w) (hb : base' ≤ base) : RPartsV base' v ps w := by
  obtain ⟨l, h1, h2, h3⟩ := h
  exact ⟨l, h1, own_low h2 hb, fun q hq => ⟨own_low (h3 q hq).1 hb, own_low (h3 q hq).2 hb⟩⟩
theorem QueuesV.keep {base : Nat} {v : Value} {qs : List (List Int)} {w w' : World} (h : QueuesV base v qs w) (hs : ∀ b, base ≤ b → b < w.heap.size → w'.heap[b]? = w.heap[b]?) : QueuesV base v qs w' := by
  obtain ⟨l, h1, h2, h3⟩ := h
  exact ⟨l, h1, own_keep h2 (fun b e => hs b (World.ownsRow.lt h2 b e).1 (World.ownsRow.lt h2 b e).2), fun q hq => own_keep (h3 q hq) (fun b e => hs b (World.ownsRow.lt (h3 q hq) b e).1 (World.ownsRow.lt (h3 q hq) b e).2)⟩
theorem QueuesV.low {base base' : Nat} {v : Value} {qs : List (List Int)} {w : World} (h : QueuesV base v qs w) (hb : base' ≤ base) : QueuesV base' v qs w := by
  obtain ⟨l, h1, h2, h3⟩ := h
  exact ⟨l, h1, own_low h2 hb, fun q hq => own_low (h3 q hq) hb⟩
theorem RefK.keep {base kb g : Nat} {st : RSt} {w w' : World} (h : RefK base kb g st w) (hs : ∀ b, base ≤ b → b < w.heap.size → w'.heap[b]? = w.heap[b]?) : RefK base kb g st w' := by
  obtain ⟨h0, vP, vW, vC, vR, vQ, h1, h2, h3, h4⟩ := h
  exact ⟨h0, vP, vW, vC, vR, vQ, (hs kb h0 (lt_of_block h1)).trans h1, h2.keep hs, h3.keep hs, h4.keep hs⟩

def modeStep (i : Int) (m : Int) (r : Nat → Int) : Int := if r 1 = i then (if r 4 = 4 then 2 else if r 4 = 6 then 3 else 1) else m
def modeOf (l : List (Nat → Int)) (i : Int) : Int := l.foldl (modeStep i) 1
def proc0 : RProc := ⟨0, 0, 0, -1, false⟩
def part0 (log : List (Nat → Int)) (i : Nat) (p : Pt) : RPart := ⟨modeOf log i, List.replicate p.words.toNat 0, List.replicate p.procs.length proc0, 0⟩
def partsTo (log : List (Nat → Int)) (ps : List Pt) : Nat → List RPart
  | 0 => []
  | k + 1 => partsTo log ps k ++ (match ps[k]? with | some p => [part0 log k p] | none => [])
def bootSt (cf : Cf) (bs : List Int) : RSt := ⟨cf, partsTo (logOf bs) cf.parts cf.parts.length, List.replicate cf.chans.length [], 0, false⟩
theorem made_ints (n : Nat) : (madeCells #[Value.int .i64 0] n).toList = (List.replicate n (0 : Int)).map (Value.int .i64) := by
  apply List.ext_getElem?
  intro j
  simp [madeCells]
  by_cases h : j < n
  · simp [h, Nat.mod_one]
  · simp [h]
end Go.Proofs.YtnjlbgolnbdkaaaGreat
namespace Go.Proofs.YtnjlbgolnbdkaaaGreat
open Go.RowKit

theorem recs_read2 {base : Nat} {v : Value} {l : List (Nat → Int)} {w : World} (h : RecsV base v l w) : ∃ ad c, v = .slice ad l.length c ∧ ∀ i r, l[i]? = some r → ∃ g, ad = some ⟨g, 0, none⟩ ∧ g < w.heap.size ∧ w.cell? ⟨g, i * 5, none⟩ = some (.int .i64 (r 0)) ∧ w.cell? ⟨g, i * 5 + 1, none⟩ = some (.int .i64 (r 1)) ∧ w.cell? ⟨g, i * 5 + 2, none⟩ = some (.int .i64 (r 2)) ∧ w.cell? ⟨g, i * 5 + 3, none⟩ = some (.int .i64 (r 3)) ∧ w.cell? ⟨g, i * 5 + 4, none⟩ = some (.int .i64 (r 4)) := by
  obtain ⟨ad, c, rfl, hrd⟩ := recs_read h
  refine ⟨ad, c, rfl, fun i r hi => ?_⟩
  obtain ⟨g, h0, h1, h2⟩ := hrd i r hi
  exact ⟨g, h0, lt_of_cell h1, h1, h2⟩

set_option maxRecDepth 100000 in
set_option maxHeartbeats 4000000 in
theorem modeBehind_any (base : Nat) (v : Value) (l : List (Nat → Int)) (i : Nat) (w : World) (hl : l.length ≤ 100) (hv : RecsV base v l w) :
    Calls Tryz.prog 52 #[v, .int .i64 i] w fun e w' => e = .returned (.int .i64 (modeOf l i)) ∧ Below w.heap.size w w' := by
  obtain ⟨ad, c, rfl, hrd⟩ := recs_read2 hv
  have HRD := hide hrd
  have HRES : Hid (modeOf l i = l.foldl (modeStep i) 1) := rfl
  generalize hN : l.length = N at *
  have HN := hide hN
  clear hrd hN hv
  go_enter Tryz.func52, Tryz.ntmps52
  go_wp2
  go_loopw [5, 10] (fun n t wr => ∃ (k : Nat), k ≤ N ∧ t = .int .i64 k ∧ n = .int .i64 ((l.take k).foldl (modeStep i) 1) ∧ Below w.heap.size w wr) (fun _ t _ => N - (intOf t).toNat)
  case atStart => exact ⟨0, by omega, rfl, rfl, Below.refl _ _⟩
  case round =>
    obtain ⟨k, hk, rfl, rfl, hB⟩ := hrel
    by_cases hlt : k < N
    · obtain ⟨r, hr'⟩ : ∃ r, l[k]? = some r := ⟨l[k]'(by rw [HN.out]; exact hlt), List.getElem?_eq_getElem _⟩
      obtain ⟨gg2, had, hgl, x0, x1, x2, x3, x4⟩ := HRD.out k r hr'
      subst had
      have y0 := (hB.cell (p := ⟨gg2, k * 5, none⟩) hgl).trans x0
      have y1 := (hB.cell (p := ⟨gg2, k * 5 + 1, none⟩) hgl).trans x1
      have y2 := (hB.cell (p := ⟨gg2, k * 5 + 2, none⟩) hgl).trans x2
      have y3 := (hB.cell (p := ⟨gg2, k * 5 + 3, none⟩) hgl).trans x3
      have y4 := (hB.cell (p := ⟨gg2, k * 5 + 4, none⟩) hgl).trans x4
      have HT : Hid ((l.take (k + 1)).foldl (modeStep i) 1 = modeStep i ((l.take k).foldl (modeStep i) 1) r) := by
        show _ = _
        rw [List.take_add_one, hr', List.foldl_append]
        rfl
      have HRS : Hid (∀ m, modeStep i m r = if r 1 = i then (if r 4 = 4 then 2 else if r 4 = 6 then 3 else 1) else m) := fun n => rfl
      have HEN : Hid (∀ o, Below w.heap.size w (wr.alloc o)) := fun o => hB.alloc hB.size o
      clear hr' x0 x1 x2 x3 x4 hB
      generalize (l.take k).foldl (modeStep i) 1 = nn at HT ⊢
      generalize r 0 = p0 at y0
      generalize r 1 = p1 at y1 HRS
      generalize r 2 = p2 at y2
      generalize r 3 = p3 at y3
      generalize r 4 = p4 at y4 HRS
      by_cases hp1 : p1 = (i : Int)
      · have hb1 : (p1 != (i : Int)) = false := by simp [hp1]
        have hb1' : (p1 == (i : Int)) = true := by simp [hp1]
        have HP1 := hide hp1
        clear hp1
        by_cases h6 : p4 = 6
        · have h6b : (p4 == 6) = true := by simp [h6]
          have H6 := hide h6
          clear h6
          go_wp2
          go_roundw
          case rel => exact ⟨k + 1, by omega, by go_num, by rw [HT.out, HRS.out, if_pos HP1.out, if_neg (by rw [H6.out]; omega), if_pos H6.out], HEN.out _⟩
          case measure => simp [intOf]; omega
        · have h6b : (p4 == 6) = false := by simp [h6]
          have H6 := hide h6
          clear h6
          by_cases h4 : p4 = 4
          · have h4b : (p4 == 4) = true := by simp [h4]
            have H4 := hide h4
            clear h4
            go_wp2
            go_roundw
            case rel => exact ⟨k + 1, by omega, by go_num, by rw [HT.out, HRS.out, if_pos HP1.out, if_pos H4.out], HEN.out _⟩
            case measure => simp [intOf]; omega
          · have h4b : (p4 == 4) = false := by simp [h4]
            have H4 := hide h4
            clear h4
            go_wp2
            go_roundw
            case rel => exact ⟨k + 1, by omega, by go_num, by rw [HT.out, HRS.out, if_pos HP1.out, if_neg H4.out, if_neg H6.out], HEN.out _⟩
            case measure => simp [intOf]; omega
      · have hb1 : (p1 != (i : Int)) = true := by simp [hp1]
        have hb1' : (p1 == (i : Int)) = false := by simp [hp1]
        have HP1 := hide hp1
        clear hp1
        go_wp2
        go_roundw
        case rel => exact ⟨k + 1, by omega, by go_num, by rw [HT.out, HRS.out, if_neg HP1.out], HEN.out _⟩
        case measure => simp [intOf]; omega
    · obtain rfl : k = N := by omega
      have HT : Hid (l.take k = l) := by show _ = _; rw [← HN.out]; exact List.take_length
      have HEND := hide hB
      clear hB
      go_wp2
      go_ret
      exact ⟨ret_int (by rw [HRES.out, HT.out]), HEND.out⟩

set_option maxHeartbeats 1000000 in
theorem isNaN_any (a : Int) (w : World) : Calls Tryz.prog 174 #[.int .i64 a] w fun e w' => e = .returned (.bool false) ∧ w' = w := by
  have h : (a != a) = false := by simp
  go_enter Tryz.func174, Tryz.ntmps174
  go_wp2
  go_ret
  exact ⟨rfl, rfl⟩
set_option maxHeartbeats 1000000 in
theorem compare_any (a b : Int) (w : World) : Calls Tryz.prog 130 #[.int .i64 a, .int .i64 b] w fun e w' => e = .returned (.int .i64 (if a < b then -1 else if b < a then 1 else 0)) ∧ w' = w := by
  have HN := hide isNaN_any
  by_cases h1 : a < b
  · rw [if_pos h1]
    go_enter Tryz.func130, Tryz.ntmps130
    go_wp2_with (go_at_call 174; refine (HN.out _ _).mono ?_; rintro e w' ⟨rfl, rfl⟩)
    go_ret
    exact ⟨rfl, rfl⟩
  · rw [if_neg h1]
    by_cases h2 : b < a
    · rw [if_pos h2]
      go_enter Tryz.func130, Tryz.ntmps130
      go_wp2_with (go_at_call 174; refine (HN.out _ _).mono ?_; rintro e w' ⟨rfl, rfl⟩)
      go_ret
      exact ⟨rfl, rfl⟩
    · rw [if_neg h2]
      go_enter Tryz.func130, Tryz.ntmps130
      go_wp2_with (go_at_call 174; refine (HN.out _ _).mono ?_; rintro e w' ⟨rfl, rfl⟩)
      go_ret
      exact ⟨rfl, rfl⟩
set_option maxHeartbeats 1000000 in
theorem nought_any (a : Int) (w : World) : Calls Tryz.prog 92 #[.int .i64 a] w fun e w' => e = .returned (.int .i64 0) ∧ w' = w := by
  go_enter Tryz.func92, Tryz.ntmps92
  go_wp2
  go_ret
  exact ⟨rfl, rfl⟩
end Go.Proofs.YtnjlbgolnbdkaaaGreat
namespace Go.Proofs.YtnjlbgolnbdkaaaGreat
open Go.RowKit

structure Prios (w : World) (pb : Nat) (q n c : Nat) (prio : Nat → Int) : Prop where
  box : w.cell? ⟨pb, 0, none⟩ = some (.slice (some ⟨q, 0, none⟩) n c)
  cell : ∀ k, k < n → w.cell? ⟨q, k * 2, none⟩ = some (.int .i64 (prio k))
theorem Prios.below {w w' : World} {pb q n c : Nat} {prio : Nat → Int} (h : Prios w pb q n c prio) {B : Nat} (hb : Below B w w') (h1 : pb < B) (h2 : q < B) : Prios w' pb q n c prio :=
  ⟨(hb.cell (p := ⟨pb, 0, none⟩) h1).trans h.box, fun k hk => (hb.cell (p := ⟨q, k * 2, none⟩) h2).trans (h.cell k hk)⟩

set_option maxHeartbeats 1000000 in
theorem cmpTurn_any (pb q n c : Nat) (prio : Nat → Int) (a b : Nat) (w : World) (ha : a < n) (hb : b < n) (h : Prios w pb q n c prio) :
    Calls Tryz.prog 129 #[.int .i64 a, .int .i64 b, .pointer (some ⟨pb, 0, none⟩)] w fun e w' => e = .returned (.int .i64 (if prio b < prio a then -1 else if prio a < prio b then 1 else 0)) ∧ ∃ m, w' = w.drewN m := by
  have c0 := h.box
  have c1 := h.cell a ha
  have c2 := h.cell b hb
  clear h
  generalize prio a = pa at *
  generalize prio b = pb' at *
  go_enter Tryz.func129, Tryz.ntmps129
  go_wp2_with fail
  go_quiet ((go_at_call 130; exact Calls.quiet_of_same (compare_any _ _ _)))
  go_wp2
  all_goals
    go_ret
    exact ⟨rfl, _, rfl⟩

set_option maxRecDepth 100000 in
set_option maxHeartbeats 2000000 in
theorem insert1_any (x pb : Nat) (w : World) :
    Calls Tryz.prog 200 #[.slice (some ⟨x, 0, none⟩) 1 1, .int .i64 0, .int .i64 1, .func (.func 129) #[] #[.pointer (some ⟨pb, 0, none⟩)]] w fun e w' => (∃ v, e = .returned v) ∧ w' = w := by
  go_enter Tryz.func200, Tryz.ntmps200
  go_wp2
  go_loopw [8] (fun i wr => i = .int .i64 1 ∧ w = wr) (fun _ _ => 0)
  case atStart => exact ⟨rfl, rfl⟩
  case round =>
    obtain ⟨rfl, rfl⟩ := hrel
    go_wp2
    go_end0
    exact ⟨⟨_, rfl⟩, rfl⟩

def turned (prio : Nat → Int) : Bool := decide (prio 0 < prio 1)
def turn2 (b : Bool) : Array Value := if b then #[.int .i64 1, .int .i64 0] else #[.int .i64 0, .int .i64 1]
set_option maxRecDepth 100000 in
set_option maxHeartbeats 4000000 in
theorem insert2_any (x pb q c : Nat) (prio : Nat → Int) (w : World) (h : Prios w pb q 2 c prio) (hx : w.heap[x]? = some (.cells #[.int .i64 0, .int .i64 1] 3 (0, 0))) :
    Calls Tryz.prog 200 #[.slice (some ⟨x, 0, none⟩) 2 2, .int .i64 0, .int .i64 2, .func (.func 129) #[] #[.pointer (some ⟨pb, 0, none⟩)]] w fun e w' => (∃ v, e = .returned v) ∧ w'.heap[x]? = some (.cells (turn2 (turned prio)) 3 (0, 0)) ∧ Touch (· = x) w w' := by
  have HX := hide hx
  have HC : Hid (∀ W, Prios W pb q 2 c prio → Calls Tryz.prog 129 #[.int .i64 1, .int .i64 0, .pointer (some ⟨pb, 0, none⟩)] W fun e w' => e = .returned (.int .i64 (if prio 0 < prio 1 then -1 else if prio 1 < prio 0 then 1 else 0)) ∧ ∃ m, w' = W.drewN m) := fun W hW => cmpTurn_any pb q 2 c prio 1 0 W (by omega) (by omega) hW
  have HP := hide h
  clear h hx
  go_enter Tryz.func200, Tryz.ntmps200
  go_wp2
  go_loopw [8] (fun i wr => (i = .int .i64 1 ∧ w = wr) ∨ (i = .int .i64 2 ∧ wr.heap[x]? = some (.cells (turn2 (turned prio)) 3 (0, 0)) ∧ Touch (· = x) w wr)) (fun i _ => 2 - (intOf i).toNat)
  case atStart => exact .inl ⟨rfl, rfl⟩
  case round =>
    rcases hrel with ⟨rfl, rfl⟩ | ⟨rfl, hf, ht⟩
    · have x0 : w.cell? ⟨x, 0, none⟩ = some (.int .i64 0) := by rw [cell_of_row _ _ _ _ _ _ HX.out]; rfl
      have x1 : w.cell? ⟨x, 1, none⟩ = some (.int .i64 1) := by rw [cell_of_row _ _ _ _ _ _ HX.out]; rfl
      have f0 := free_of_block HX.out 0
      have f1 := free_of_block HX.out 1
      go_wp2
      go_loopw [9] (fun j wj => (j = .int .i64 1 ∧ w = wj) ∨ (j = .int .i64 0 ∧ turned prio = true ∧ wj.heap[x]? = some (.cells (turn2 (turned prio)) 3 (0, 0)) ∧ Touch (· = x) w wj)) (fun j _ => (intOf j).toNat)
      case atStart => exact .inl ⟨rfl, rfl⟩
      case round =>
        rcases hrel with ⟨rfl, rfl⟩ | ⟨rfl, hb, hf, ht⟩
        · have HCC : Hid (∀ n, Calls Tryz.prog 129 #[.int .i64 1, .int .i64 0, .pointer (some ⟨pb, 0, none⟩)] (w.drewN n) fun e w' => e = .returned (.int .i64 (if prio 0 < prio 1 then -1 else if prio 1 < prio 0 then 1 else 0)) ∧ ∃ m, w' = (w.drewN n).drewN m) := fun n => HC.out _ ⟨HP.out.box, HP.out.cell⟩
          by_cases hlt : prio 0 < prio 1
          · rw [if_pos hlt] at HCC
            have HB : Hid (turned prio = true) := decide_eq_true hlt
            clear hlt
            go_wp2_with fail
            go_quiet ((go_at_call 129; exact Calls.quiet_of (HCC.out _)))
            go_wp2_with fail
            go_region
            all_goals
              go_wp2
              refine ⟨.inr ⟨rfl, HB.out, ?_, ?_⟩, by simp [intOf]⟩
              · rw [HB.out]
                first | exact block_set (block_set (show (w.drewN _).heap[x]? = _ from HX.out) 1 _) 0 _ | exact block_set (block_set (show (w.drewN _).heap[x]? = _ from HX.out) 0 _) 1 _
              · exact Touch.trans (T := (· = x)) (Touch.trans (T := (· = x)) (Touch.ofBelow (S := (· = x)) (below_drewN (Below.refl _ _) _)) (Touch.ofSet _ _ _ _ rfl) (fun _ h => .inl h)) (Touch.ofSet _ _ _ _ rfl) (fun _ h => .inl h)
          · rw [if_neg hlt] at HCC
            have HB : Hid (turned prio = false) := decide_eq_false hlt
            clear hlt
            have hge : ¬ (if prio 1 < prio 0 then (1 : Int) else 0) < 0 := by split <;> omega
            generalize (if prio 1 < prio 0 then (1 : Int) else 0) = cc at HCC hge
            go_wp2_with fail
            go_quiet ((go_at_call 129; exact Calls.quiet_of (HCC.out _)))
            go_wp2
            refine ⟨.inr ⟨rfl, ?_, Touch.ofBelow (below_drewN (Below.refl _ _) _)⟩, by simp [intOf]⟩
            rw [HB.out]
            exact HX.out
        · have HF := hide hf
          have HT := hide ht
          clear hf ht
          go_wp2_with fail
          go_quiet (fail)
          go_wp2
          exact ⟨.inr ⟨rfl, HF.out, ⟨HT.out.os, HT.out.tape, HT.out.output, HT.out.size, HT.out.block⟩⟩, by simp [intOf]⟩
    · have HF := hide hf
      have HT := hide ht
      clear hf ht
      go_wp2
      go_end0
      exact ⟨⟨_, rfl⟩, HF.out, HT.out⟩
set_option maxRecDepth 100000 in
set_option maxHeartbeats 4000000 in
theorem sort1_any (x pb : Nat) (w : World) :
    Calls Tryz.prog 128 #[.slice (some ⟨x, 0, none⟩) 1 1, .func (.func 129) #[] #[.pointer (some ⟨pb, 0, none⟩)]] w fun e w' => (∃ v, e = .returned v) ∧ w' = w := by
  have HI := hide (insert1_any x pb w)
  have HS : Hid (Calls Tryz.prog 173 #[.slice (some ⟨x, 0, none⟩) 1 1, .int .i64 1, .func (.func 129) #[] #[.pointer (some ⟨pb, 0, none⟩)]] w fun e w' => (∃ v, e = .returned v) ∧ w' = w) := by
    show Calls _ _ _ _ _
    go_enter Tryz.func173, Tryz.ntmps173
    go_wp2
    go_loopw [7, 8] (fun a b wr => a = .int .i64 0 ∧ b = .int .i64 20 ∧ w = wr) (fun _ _ _ => 0)
    case atStart => exact ⟨rfl, rfl, rfl⟩
    case round =>
      obtain ⟨rfl, rfl, rfl⟩ := hrel
      go_wp2_with fail
      refine HI.out.mono ?_
      rintro e w1 ⟨⟨v, rfl⟩, hq⟩
      have HQ := hide hq
      clear hq
      go_wp2
      go_loopw [6] (fun b wr => b = .int .i64 20 ∧ w1 = wr) (fun _ _ => 0)
      case atStart => exact ⟨rfl, rfl⟩
      case round =>
        obtain ⟨rfl, rfl⟩ := hrel
        go_wp2
        go_end0
        exact ⟨⟨_, rfl⟩, HQ.out⟩
  go_enter Tryz.func128, Tryz.ntmps128
  go_wp2_with fail
  refine HS.out.mono ?_
  rintro e w1 ⟨⟨v, rfl⟩, hq⟩
  have HQ := hide hq
  clear hq
  go_wp2
  go_end0
  exact ⟨⟨_, rfl⟩, HQ.out⟩
set_option maxRecDepth 100000 in
set_option maxHeartbeats 4000000 in
theorem sort2_any (x pb q c : Nat) (prio : Nat → Int) (w : World) (h : Prios w pb q 2 c prio) (hx : w.heap[x]? = some (.cells #[.int .i64 0, .int .i64 1] 3 (0, 0))) :
    Calls Tryz.prog 128 #[.slice (some ⟨x, 0, none⟩) 2 2, .func (.func 129) #[] #[.pointer (some ⟨pb, 0, none⟩)]] w fun e w' => (∃ v, e = .returned v) ∧ w'.heap[x]? = some (.cells (turn2 (turned prio)) 3 (0, 0)) ∧ Touch (· = x) w w' := by
  have HI := hide (insert2_any x pb q c prio w h hx)
  have HS : Hid (Calls Tryz.prog 173 #[.slice (some ⟨x, 0, none⟩) 2 2, .int .i64 2, .func (.func 129) #[] #[.pointer (some ⟨pb, 0, none⟩)]] w fun e w' => (∃ v, e = .returned v) ∧ w'.heap[x]? = some (.cells (turn2 (turned prio)) 3 (0, 0)) ∧ Touch (· = x) w w') := by
    show Calls _ _ _ _ _
    go_enter Tryz.func173, Tryz.ntmps173
    go_wp2
    go_loopw [7, 8] (fun a b wr => a = .int .i64 0 ∧ b = .int .i64 20 ∧ w = wr) (fun _ _ _ => 0)
    case atStart => exact ⟨rfl, rfl, rfl⟩
    case round =>
      obtain ⟨rfl, rfl, rfl⟩ := hrel
      go_wp2_with fail
      refine HI.out.mono ?_
      rintro e w1 ⟨⟨v, rfl⟩, hq⟩
      have HQ := hide hq
      clear hq
      go_wp2
      go_loopw [6] (fun b wr => b = .int .i64 20 ∧ w1 = wr) (fun _ _ => 0)
      case atStart => exact ⟨rfl, rfl⟩
      case round =>
        obtain ⟨rfl, rfl⟩ := hrel
        go_wp2
        go_end0
        exact ⟨⟨_, rfl⟩, HQ.out⟩
  go_enter Tryz.func128, Tryz.ntmps128
  go_wp2_with fail
  refine HS.out.mono ?_
  rintro e w1 ⟨⟨v, rfl⟩, hq⟩
  have HQ := hide hq
  clear hq
  go_wp2
  go_end0
  exact ⟨⟨_, rfl⟩, HQ.out⟩
end Go.Proofs.YtnjlbgolnbdkaaaGreat
