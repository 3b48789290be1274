/- Texts of the proof of Boots, one behind the other. -/
import Derived.Test.YtnjlbgolnbdkaaaGreatJ17
import Derived.Test.YtnjlbgolnbdkaaaGreatJ20
/- The document's reading of the journal: Restarts. -/
namespace Go.Proofs.YtnjlbgolnbdkaaaGreat
open Go.RowKit

def rstep (part : Int) (n : Int) (r : Nat → Int) : Int := if (r 1 == part && (r 4 == 4 || r 4 == 5) && decide (n < 255)) = true then n + 1 else n
def restartsOf (bs : List Int) (part : Nat) : Int :=
  if (sectorsOf bs).1 < 0 then 0 else (faultsOf bs (sectorsOf bs).1).foldl (rstep part) ((be4 (argB bs (sectorsOf bs).1.toNat % 4294967296).toNat).getD part 0)
theorem rstep_rng (part n : Int) (r : Nat → Int) (h : 0 ≤ n ∧ n ≤ 255) : 0 ≤ rstep part n r ∧ rstep part n r ≤ 255 := by
  unfold rstep
  split
  · rename_i hh
    simp at hh
    omega
  · exact h
theorem rfold_rng (part : Int) (l : List (Nat → Int)) : ∀ n, 0 ≤ n ∧ n ≤ 255 → 0 ≤ l.foldl (rstep part) n ∧ l.foldl (rstep part) n ≤ 255 := by
  induction l with
  | nil => intro n h; exact h
  | cons a l ih => intro n h; exact ih _ (rstep_rng part n a h)
theorem recs_read {base : Nat} {v : Value} {l : List (Nat → Int)} {w : World} (h : RecsV base v l w) : ∃ ad c, v = .slice ad l.length c ∧ ∀ i r, l[i]? = some r → ∃ g, ad = some ⟨g, 0, none⟩ ∧ w.cell? ⟨g, i * 5, none⟩ = some (.int .i64 (r 0)) ∧ w.cell? ⟨g, i * 5 + 1, none⟩ = some (.int .i64 (r 1)) ∧ w.cell? ⟨g, i * 5 + 2, none⟩ = some (.int .i64 (r 2)) ∧ w.cell? ⟨g, i * 5 + 3, none⟩ = some (.int .i64 (r 3)) ∧ w.cell? ⟨g, i * 5 + 4, none⟩ = some (.int .i64 (r 4)) := by
  obtain ⟨_, ad, c, hv, hr⟩ := own_read recCells (fun _ => rfl) l rfl h
  refine ⟨ad, c, hv, fun i r hi => ?_⟩
  obtain ⟨g, hg, hc⟩ := hr i r hi
  exact ⟨g, hg, by simpa [recCells] using hc 0 (by omega), by simpa [recCells] using hc 1 (by omega), by simpa [recCells] using hc 2 (by omega), by simpa [recCells] using hc 3 (by omega), by simpa [recCells] using hc 4 (by omega)⟩

set_option maxRecDepth 100000 in
set_option maxHeartbeats 4000000 in
theorem rrestarts_any (g : Nat) (bs : List Int) (left res : Int) (dead : Bool) (done : Int) (part : Nat) (w : World) (hp : part < 4) (h : FlashAt w g bs left res dead done) :
    Calls Tryz.prog 140 #[.pointer (some ⟨g, 0, none⟩), .int .i64 part] w fun e w' => e = .returned (.int .i64 (restartsOf bs part)) ∧ Below w.heap.size w w' := by
  have HBY := hide (bytes_any g bs left res dead done w h)
  have hB := h.bytes
  have hrng := sectorsOf_rng bs
  have HLO : Hid (restartsOf bs part = if (sectorsOf bs).1 < 0 then 0 else (faultsOf bs (sectorsOf bs).1).foldl (rstep part) ((be4 (argB bs (sectorsOf bs).1.toNat % 4294967296).toNat).getD part 0)) := rfl
  have hl1 := faultsOf_le bs (sectorsOf bs).1
  clear h
  go_enter Tryz.func140, Tryz.ntmps140
  go_wp2_with fail
  refine HBY.out.mono ?_
  rintro e w1 ⟨x, cap, rfl, hown, hb1⟩
  have hA := own_rarg hown hB
  have hs1 := hb1.size
  have HB1 := hide hb1
  have HS := hide (rsectors_any x cap bs w1 hA)
  have HFA : Hid (∀ W s, Below w1.heap.size w1 W → (-1 ≤ s ∧ s < 2) → Calls Tryz.prog 138 #[.slice (some ⟨x, 0, none⟩) 256 cap, .int .i64 s] W fun e w' => ∃ v, e = .returned v ∧ (RecsV W.heap.size v (faultsOf bs s) w' ∧ (faultsOf bs s = [] → v = .slice none 0 0)) ∧ Below W.heap.size W w') := fun W s hW hs => rfaults_any x cap bs s W hs (hA.below hW)
  have HHA : Hid (∀ W (s : Nat), Below w1.heap.size w1 W → s < 2 → Calls Tryz.prog 176 #[.slice (some ⟨x, 0, none⟩) 256 cap, .int .i64 s] W fun e w' => e = .returned (.tuple #[.bool (headB bs s), .int .i64 (genB bs s), .int .i64 (argB bs s)]) ∧ Below W.heap.size W w') := fun W s hW hs => rheaded_any x cap bs s W hs (hA.below hW)
  clear hown hb1 hA HBY
  generalize (sectorsOf bs).1 = a at HS HLO hrng hl1
  generalize (sectorsOf bs).2 = o at HS hrng
  go_wp2_with fail
  refine HS.out.mono ?_
  rintro e w2 ⟨rfl, hb2⟩
  have hs2 := hb2.size
  have HB2 := hide hb2
  clear hb2 HS
  by_cases ha : a < 0
  · have HEND : Hid (Below w.heap.size w w2) := HB1.out.trans (HB2.out.mono hs1)
    go_wp2
    go_ret
    exact ⟨by rw [HLO.out, if_pos ha]; rfl, HEND.out⟩
  · obtain ⟨t, rfl⟩ : ∃ t : Nat, a = (t : Int) := ⟨a.toNat, by omega⟩
    have HLO2 : Hid (restartsOf bs part = (faultsOf bs (t : Int)).foldl (rstep part) ((be4 (argB bs t % 4294967296).toNat).getD part 0)) := by show _ = _; rw [HLO.out, if_neg ha]; rfl
    have HH2 := hide (HHA.out w2 t HB2.out (by omega))
    clear HLO HHA
    generalize headB bs t = hh at HH2
    generalize genB bs t = gg at HH2
    generalize argB bs t = aa at HH2 HLO2
    go_wp2_with fail
    refine HH2.out.mono ?_
    rintro e w3 ⟨rfl, hb3⟩
    have hs3 := hb3.size
    have HB3 : Hid (Below w1.heap.size w1 w3) := HB2.out.trans (hb3.mono hs2)
    clear hb3 HH2
    go_wp2_with fail
    refine (four_any aa w3).mono ?_
    rintro e w4 ⟨rfl, rfl⟩
    have hbe : (be4 (aa % 4294967296).toNat).length = 4 := rfl
    have hbb := (be4_bytes (aa % 4294967296).toNat).getD part
    have c4 : (w3.alloc (.cells (vals (be4 (aa % 4294967296).toNat)).toArray 5)).cell? ⟨w3.heap.size, part, none⟩ = some (.int .u8 ((be4 (aa % 4294967296).toNat).getD part 0)) := by
      rw [cell_of_row _ _ _ _ _ _ (heap_alloc_new w3 _)]
      simp [vals, List.getD_eq_getElem?_getD, hbe, hp]
    have HB4 : Hid (Below w1.heap.size w1 (w3.alloc (.cells (vals (be4 (aa % 4294967296).toNat)).toArray 5))) := HB3.out.alloc (by omega) _
    have HF4 := hide (HFA.out _ (t : Int) HB4.out hrng.1)
    clear HFA HB3
    generalize vals (be4 (aa % 4294967296).toNat) = bv at c4 HB4 HF4 ⊢
    generalize (be4 (aa % 4294967296).toNat).getD part 0 = n0 at c4 HLO2 hbb
    generalize faultsOf bs (t : Int) = l at HF4 HLO2 hl1
    go_wp2_with fail
    refine HF4.out.mono ?_
    rintro e w5 ⟨v5, rfl, ⟨hV5, _⟩, hb5⟩
    have HEND : Hid (Below w.heap.size w w5) := HB1.out.trans ((HB4.out.trans (hb5.mono (by simp; omega))).mono hs1)
    obtain ⟨ad, c, rfl, hrd⟩ := recs_read hV5
    have HRD := hide hrd
    generalize hN : l.length = N at *
    have HN := hide hN
    clear hV5 hb5 HF4 HB4 c4 hrd hN
    go_wp2
    go_loop [11, 13] (fun n i => ∃ (k : Nat), k ≤ N ∧ i = .int .i64 k ∧ n = .int .i64 ((l.take k).foldl (rstep part) n0)) (fun _ i => N - (intOf i).toNat)
    case atStart => exact ⟨0, by omega, rfl, rfl⟩
    case round =>
      obtain ⟨k, hk, rfl, rfl⟩ := hrel
      by_cases hlt : k < N
      · obtain ⟨r, hr⟩ : ∃ r, l[k]? = some r := ⟨l[k]'(by rw [HN.out]; exact hlt), List.getElem?_eq_getElem _⟩
        obtain ⟨gg2, had, x0, x1, x2, x3, x4⟩ := HRD.out k r hr
        subst had
        have HT : Hid ((l.take (k + 1)).foldl (rstep part) n0 = rstep part ((l.take k).foldl (rstep part) n0) r) := by
          show _ = _
          rw [List.take_add_one, hr, List.foldl_append]
          rfl
        have hfr := rfold_rng part (l.take k) n0 (by omega)
        have HRS : Hid (∀ n, rstep part n r = if (r 1 == (part : Int) && (r 4 == 4 || r 4 == 5) && decide (n < 255)) = true then n + 1 else n) := fun n => rfl
        clear hr x0 x2 x3
        generalize (l.take k).foldl (rstep part) n0 = nn at HT hfr ⊢
        generalize r 1 = p1 at x1 HRS
        generalize r 4 = p4 at x4 HRS
        by_cases hp1 : (p1 == (part : Int)) = true
        · by_cases h4 : (p4 == 4) = true
          · by_cases hn : nn < 255
            · have HC : Hid ((p1 == (part : Int) && (p4 == 4 || p4 == 5) && decide (nn < 255)) = true) := by show _ = true; rw [hp1, h4]; simp [hn]
              go_wp2
              go_roundw
              case rel => exact ⟨k + 1, by omega, by go_num, by rw [HT.out, HRS.out, if_pos HC.out]⟩
              case measure => simp [intOf]; omega
            · have HC : Hid (¬ (p1 == (part : Int) && (p4 == 4 || p4 == 5) && decide (nn < 255)) = true) := by show ¬ _; rw [hp1, h4]; simp [hn]
              go_wp2
              go_roundw
              case rel => exact ⟨k + 1, by omega, by go_num, by rw [HT.out, HRS.out, if_neg HC.out]⟩
              case measure => simp [intOf]; omega
          · have h4f : (p4 == 4) = false := by simpa using h4
            by_cases h5 : (p4 == 5) = true
            · by_cases hn : nn < 255
              · have HC : Hid ((p1 == (part : Int) && (p4 == 4 || p4 == 5) && decide (nn < 255)) = true) := by show _ = true; rw [hp1, h5]; simp [hn]
                go_wp2
                go_roundw
                case rel => exact ⟨k + 1, by omega, by go_num, by rw [HT.out, HRS.out, if_pos HC.out]⟩
                case measure => simp [intOf]; omega
              · have HC : Hid (¬ (p1 == (part : Int) && (p4 == 4 || p4 == 5) && decide (nn < 255)) = true) := by show ¬ _; rw [hp1, h5]; simp [hn]
                go_wp2
                go_roundw
                case rel => exact ⟨k + 1, by omega, by go_num, by rw [HT.out, HRS.out, if_neg HC.out]⟩
                case measure => simp [intOf]; omega
            · have h5f : (p4 == 5) = false := by simpa using h5
              have HC : Hid (¬ (p1 == (part : Int) && (p4 == 4 || p4 == 5) && decide (nn < 255)) = true) := by show ¬ _; rw [h4f, h5f]; simp
              go_wp2
              go_roundw
              case rel => exact ⟨k + 1, by omega, by go_num, by rw [HT.out, HRS.out, if_neg HC.out]⟩
              case measure => simp [intOf]; omega
        · have hp1f : (p1 == (part : Int)) = false := by simpa using hp1
          have HC : Hid (¬ (p1 == (part : Int) && (p4 == 4 || p4 == 5) && decide (nn < 255)) = true) := by show ¬ _; rw [hp1f]; simp
          go_wp2
          go_roundw
          case rel => exact ⟨k + 1, by omega, by go_num, by rw [HT.out, HRS.out, if_neg HC.out]⟩
          case measure => simp [intOf]; omega
      · obtain rfl : k = N := by omega
        have HT : Hid (l.take k = l) := by show _ = _; rw [← HN.out]; exact List.take_length
        go_wp2
        go_ret
        exact ⟨by rw [HLO2.out]; exact congrArg _ (congrArg _ (congrArg _ HT.out)), HEND.out⟩
end Go.Proofs.YtnjlbgolnbdkaaaGreat
/- The program's journal: restarts as a sector says them; Log, Restarts, On. -/
namespace Go.Proofs.YtnjlbgolnbdkaaaGreat
open Go.RowKit

set_option maxHeartbeats 1000000 in
theorem append4_nil (n : Nat) (w : World) (hn : n < 4294967296) :
    Calls Tryz.prog 152 #[.slice none 0 0, .int .u32 n] w fun e w' => ∃ x cap, e = .returned (.slice (some ⟨x, 0, none⟩) 4 cap) ∧ w'.ownsRow w.heap.size 5 1 (.slice (some ⟨x, 0, none⟩) 4 cap) 4 (vals (be4 n)) ∧ Below w.heap.size w w' := by
  obtain ⟨i0, hi, hz0, hz1, hz2⟩ := info_parts Tryz.info5
  go_enter Tryz.func152, Tryz.ntmps152
  go_wp2_with (at_builtin; go_must (refine wpList_append_lies _ rfl (.tmp 5) (.tmp 17) 22 rfl w.heap.size 5 i0 (.int .u8 0) 1 1 Tryz.underlying22 hi hz0 hz1 hz2 rfl (by decide) (.slice none 0 0) 0 [] rfl (World.ownsRow_nil _ _ _ _) ⟨w.heap.size, 0, none⟩ 4 4 (vals (be4 n)) (by rfl) rfl (by rw [vals_be4 n hn]; exact news_at w _ 5) (vals_one _) (by omega) (by decide) (by omega) (by simp) _ rfl ?_))
  intro x cap w1 hown1 hgrow _ _
  have H1 : Hid (w1.ownsRow w.heap.size 5 1 (.slice (some ⟨x, 0, none⟩) 4 cap) 4 (vals (be4 n))) := (by simpa using hown1 : w1.ownsRow w.heap.size 5 1 (.slice (some ⟨x, 0, none⟩) 4 cap) 4 (vals (be4 n)))
  have H2 : Hid (Below w.heap.size w w1) := (Below.refl _ _).grown (grown_alloc hgrow) (Nat.le_refl _) (by simp [Value.ownBlock])
  clear hown1 hgrow
  go_wp2
  go_ret
  exact ⟨x, cap, by simp, H1.out, H2.out⟩

def pstep (part : Int) (n : Int) (r : Nat → Int) : Int := if (r 1 == part && (r 4 == 4 || r 4 == 5)) = true then n + 1 else n
def prestOf (bs : List Int) (s : Nat) (part : Nat) : Int := min ((pfOf bs s).foldl (pstep part) ((be4 (hdrOf bs s 4).toNat).getD part 0)) 255
theorem pstep_rng (part n : Int) (r : Nat → Int) : n ≤ pstep part n r ∧ pstep part n r ≤ n + 1 := by unfold pstep; split <;> omega
theorem pfold_rng (part : Int) (l : List (Nat → Int)) : ∀ n, n ≤ l.foldl (pstep part) n ∧ l.foldl (pstep part) n ≤ n + l.length := by
  induction l with
  | nil => intro n; simp
  | cons a l ih => intro n; have := ih (pstep part n a); have := pstep_rng part n a; simp only [List.foldl_cons, List.length_cons]; omega
theorem hdrOf_rng (bs : List Int) (hb : Bytes bs) (s : Nat) : 0 ≤ hdrOf bs s 4 ∧ hdrOf bs s 4 < 4294967296 := by
  unfold hdrOf
  split
  · exact rec_num bs s 0 4 hb
  · omega

set_option maxRecDepth 100000 in
set_option maxHeartbeats 4000000 in
theorem prestarts_any (x : Nat) (bs : List Int) (s part : Nat) (w : World) (hb : Bytes bs) (hp : part < 4) (h : SecAt x bs s w) :
    Calls Tryz.prog 113 #[.agg #[.int .i64 s, .slice (some ⟨x, 0, none⟩) 8 8], .int .i64 part] w fun e w' => e = .returned (.int .i64 (prestOf bs s part)) ∧ Below w.heap.size w w' := by
  obtain ⟨w1, hw1⟩ : ∃ w1, w1 = w.alloc (.cells #[.int .i64 s, .slice (some ⟨x, 0, none⟩) 8 8] 183) := ⟨_, rfl⟩
  have hb1 : Below w.heap.size w w1 := by rw [hw1]; exact (Below.refl _ _).alloc (Nat.le_refl _) _
  have hA1 : w1.heap[w.heap.size]? = some (.cells #[.int .i64 s, .slice (some ⟨x, 0, none⟩) 8 8] 183 (0, 0)) := by rw [hw1]; exact heap_alloc_new w _
  have HHD := hide (header_any x bs s w1 (h.below hb1))
  have hr := hdrOf_rng bs hb s
  have HRES : Hid (prestOf bs s part = min ((pfOf bs s).foldl (pstep part) ((be4 (hdrOf bs s 4).toNat).getD part 0)) 255) := rfl
  have HSE : Hid (∀ W, Below w1.heap.size w1 W → SecAt x bs s W) := fun W hW => (h.below hb1).below hW
  have HB1 := hide hb1
  have HA1 := hide hA1
  have HW1 := hide hw1
  have hs1 : w1.heap.size = w.heap.size + 1 := by rw [hw1]; simp
  have hl := pfOf_le bs s
  clear h hb1 hw1
  have a0 : w1.cell? ⟨w.heap.size, 0, none⟩ = some (.int .i64 s) := by rw [cell_of_row _ _ _ _ _ _ hA1]; rfl
  have a1 : w1.cell? ⟨w.heap.size, 1, none⟩ = some (.slice (some ⟨x, 0, none⟩) 8 8) := by rw [cell_of_row _ _ _ _ _ _ hA1]; rfl
  clear hA1
  generalize hdrOf bs s 0 = r0 at *
  generalize hdrOf bs s 1 = r1 at *
  generalize hdrOf bs s 2 = r2 at *
  generalize hdrOf bs s 3 = r3 at *
  generalize hdrOf bs s 4 = r4 at *
  have hfld : ∀ W : World, (Instr.field 52 (.agg #[.int .i64 r0, .int .i64 r1, .int .i64 r2, .int .i64 r3, .int .i64 r4]) 4).run Tryz.prog W = .ok (.int .i64 r4) W := fun W => by kernel_rfl
  go_enter Tryz.func113, Tryz.ntmps113
  go_wp2_with fail
  rw [← HW1.out]
  go_wp2_with fail
  refine HHD.out.mono ?_
  rintro e w2 ⟨rfl, hb2⟩
  have hs2 := hb2.size
  have HB2 := hide hb2
  obtain ⟨n4, rfl⟩ := Int.eq_ofNat_of_zero_le hr.1
  clear hb2 HHD
  go_wp2_with fail
  refine (append4_nil n4 w2 (by omega)).mono ?_
  rintro e w3 ⟨xc, cap, rfl, hown3, hb3⟩
  have hs3 := hb3.size
  have HB3 : Hid (Below w1.heap.size w1 w3) := HB2.out.trans (hb3.mono hs2)
  have hbb := (be4_bytes n4).getD part
  have c4 : w3.cell? ⟨xc, part, none⟩ = some (.int .u8 ((be4 n4).getD part 0)) := by
    have := row_of_own hown3 part (by show part < 4; exact hp)
    simpa using this
  have hc4 : 4 ≤ cap ∧ cap ≤ 9223372036854775807 := by
    rcases hown3.2 with ⟨h1, _⟩ | ⟨g, cap', cur, hv, _, _, hc, hm, _⟩
    · cases h1
    · simp at hv
      obtain ⟨rfl, rfl⟩ := hv
      exact ⟨hc, by unfold maxLen at hm; omega⟩
  have hA3 := (HB3.out.block _ (by omega)).trans HA1.out
  have b0 : w3.cell? ⟨w.heap.size, 0, none⟩ = some (.int .i64 s) := by rw [cell_of_row _ _ _ _ _ _ hA3]; rfl
  have b1 : w3.cell? ⟨w.heap.size, 1, none⟩ = some (.slice (some ⟨x, 0, none⟩) 8 8) := by rw [cell_of_row _ _ _ _ _ _ hA3]; rfl
  have HFA := hide (faults_any x bs s w3 (HSE.out w3 HB3.out))
  have HRES2 : Hid (prestOf bs s part = min ((pfOf bs s).foldl (pstep part) ((be4 n4).getD part 0)) 255) := by show _ = _; rw [HRES.out]; rfl
  clear hb3 hown3 hA3 HRES a0 a1
  generalize (be4 n4).getD part 0 = n0 at c4 HRES2 hbb
  change Hid (Calls Tryz.prog 127 #[.agg #[.int .i64 s, .slice (some ⟨x, 0, none⟩) 8 8]] w3 fun e w' => ∃ v, e = .returned v ∧ (RecsV w3.heap.size v (pfOf bs s) w' ∧ (v = .slice none 0 0 ↔ pfOf bs s = [])) ∧ Below w3.heap.size w3 w') at HFA
  generalize pfOf bs s = l at HFA HRES2 hl
  go_wp2_with fail
  refine HFA.out.mono ?_
  rintro e w4 ⟨v4, rfl, ⟨hV4, _⟩, hb4⟩
  have HB4 : Hid (Below w.heap.size w w4) := HB1.out.trans ((HB3.out.trans (hb4.mono HB3.out.size)).mono (by omega))
  obtain ⟨ad, c, rfl, hrd⟩ := recs_read hV4
  have hcell : ∀ i r, l[i]? = some r → ∃ g, ad = some ⟨g, 0, none⟩ ∧ g < w4.heap.size ∧ w4.cell? ⟨g, i * 5, none⟩ = some (.int .i64 (r 0)) ∧ w4.cell? ⟨g, i * 5 + 1, none⟩ = some (.int .i64 (r 1)) ∧ w4.cell? ⟨g, i * 5 + 2, none⟩ = some (.int .i64 (r 2)) ∧ w4.cell? ⟨g, i * 5 + 3, none⟩ = some (.int .i64 (r 3)) ∧ w4.cell? ⟨g, i * 5 + 4, none⟩ = some (.int .i64 (r 4)) := fun i r hi => by
    obtain ⟨g, h0, h1, h2⟩ := hrd i r hi
    exact ⟨g, h0, lt_of_cell h1, h1, h2⟩
  have HRD := hide hcell
  generalize hN : l.length = N at *
  have HN := hide hN
  clear hV4 hb4 HFA HB3 c4 hrd hN b0 b1 hcell
  have hs4 : w.heap.size ≤ w4.heap.size := HB4.out.size
  go_wp2
  go_loopw [6, 22] (fun n i wr => ∃ (k : Nat), k ≤ N ∧ i = .int .i64 k ∧ n = .int .i64 ((l.take k).foldl (pstep part) n0) ∧ Below w4.heap.size w4 wr) (fun _ i _ => N - (intOf i).toNat)
  case atStart => exact ⟨0, by omega, rfl, rfl, Below.refl _ _⟩
  case round =>
    obtain ⟨k, hk, rfl, rfl, hB⟩ := hrel
    by_cases hlt : k < N
    · obtain ⟨r, hr'⟩ : ∃ r, l[k]? = some r := ⟨l[k]'(by rw [HN.out]; exact hlt), List.getElem?_eq_getElem _⟩
      obtain ⟨gg2, had, hgl, x0, x1, x2, x3, x4⟩ := HRD.out k r hr'
      subst had
      have y0 := (hB.cell (p := ⟨gg2, k * 5, none⟩) hgl).trans x0
      have y1 := (hB.cell (p := ⟨gg2, k * 5 + 1, none⟩) hgl).trans x1
      have y2 := (hB.cell (p := ⟨gg2, k * 5 + 2, none⟩) hgl).trans x2
      have y3 := (hB.cell (p := ⟨gg2, k * 5 + 3, none⟩) hgl).trans x3
      have y4 := (hB.cell (p := ⟨gg2, k * 5 + 4, none⟩) hgl).trans x4
      have HT : Hid ((l.take (k + 1)).foldl (pstep part) n0 = pstep part ((l.take k).foldl (pstep part) n0) r) := by
        show _ = _
        rw [List.take_add_one, hr', List.foldl_append]
        rfl
      have hfr := pfold_rng part (l.take k) n0
      have hlk : (l.take k).length ≤ k := List.length_take_le _ _
      have HRS : Hid (∀ n, pstep part n r = if (r 1 == (part : Int) && (r 4 == 4 || r 4 == 5)) = true then n + 1 else n) := fun n => rfl
      have HEN : Hid (∀ o, Below w4.heap.size w4 (wr.alloc o)) := fun o => hB.alloc hB.size o
      clear hr' x0 x1 x2 x3 x4 hB
      generalize (l.take k).foldl (pstep part) n0 = nn at HT hfr ⊢
      generalize r 0 = p0 at y0
      generalize r 1 = p1 at y1 HRS
      generalize r 2 = p2 at y2
      generalize r 3 = p3 at y3
      generalize r 4 = p4 at y4 HRS
      by_cases hp1 : (p1 == (part : Int)) = true
      · by_cases h4 : (p4 == 4) = true
        · have HC : Hid ((p1 == (part : Int) && (p4 == 4 || p4 == 5)) = true) := by show _ = true; rw [hp1, h4]; simp
          go_wp2
          go_roundw
          case rel => exact ⟨k + 1, by omega, by go_num, by rw [HT.out, HRS.out, if_pos HC.out], HEN.out _⟩
          case measure => simp [intOf]; omega
        · have h4f : (p4 == 4) = false := by simpa using h4
          by_cases h5 : (p4 == 5) = true
          · have HC : Hid ((p1 == (part : Int) && (p4 == 4 || p4 == 5)) = true) := by show _ = true; rw [hp1, h5]; simp
            go_wp2
            go_roundw
            case rel => exact ⟨k + 1, by omega, by go_num, by rw [HT.out, HRS.out, if_pos HC.out], HEN.out _⟩
            case measure => simp [intOf]; omega
          · have h5f : (p4 == 5) = false := by simpa using h5
            have HC : Hid (¬ (p1 == (part : Int) && (p4 == 4 || p4 == 5)) = true) := by show ¬ _; rw [h4f, h5f]; simp
            go_wp2
            go_roundw
            case rel => exact ⟨k + 1, by omega, by go_num, by rw [HT.out, HRS.out, if_neg HC.out], HEN.out _⟩
            case measure => simp [intOf]; omega
      · have hp1f : (p1 == (part : Int)) = false := by simpa using hp1
        have HC : Hid (¬ (p1 == (part : Int) && (p4 == 4 || p4 == 5)) = true) := by show ¬ _; rw [hp1f]; simp
        go_wp2
        go_roundw
        case rel => exact ⟨k + 1, by omega, by go_num, by rw [HT.out, HRS.out, if_neg HC.out], HEN.out _⟩
        case measure => simp [intOf]; omega
    · obtain rfl : k = N := by omega
      have HT : Hid (l.take k = l) := by show _ = _; rw [← HN.out]; exact List.take_length
      have HEND : Hid (Below w.heap.size w wr) := HB4.out.trans (hB.mono hs4)
      clear hB
      rw [HT.out]
      generalize l.foldl (pstep part) n0 = nn at HRES2
      go_wp2
      all_goals
        go_ret
        exact ⟨ret_int (by rw [HRES2.out]; omega), HEND.out⟩
end Go.Proofs.YtnjlbgolnbdkaaaGreat
/- The journal: restarts: the program's are the document's. Plain; then Log, Restarts, On. -/
namespace Go.Proofs.YtnjlbgolnbdkaaaGreat
open Go.RowKit

theorem act_same (bs : List Int) : (headB bs (actOf bs).1 = true ∧ (sectorsOf bs).1 = ((actOf bs).1 : Int)) ∨ (headB bs (actOf bs).1 = false ∧ (sectorsOf bs).1 = -1) := by
  unfold sectorsOf
  rcases hX : headB bs 0 with _ | _ <;> rcases hY : headB bs 1 with _ | _
  · have ha : actOf bs = (1, 0) := by unfold actOf; rw [hX]; rfl
    rw [ha]
    exact .inr ⟨hY, rfl⟩
  · have ha : actOf bs = (1, 0) := by unfold actOf; rw [hX]; rfl
    rw [ha]
    exact .inl ⟨hY, rfl⟩
  · have ha : actOf bs = (0, 1) := by unfold actOf; rw [hX, hY]; rfl
    rw [ha]
    exact .inl ⟨hX, rfl⟩
  · have g0 := genOf_headed bs 0 hX
    have g1 := genOf_headed bs 1 hY
    by_cases hle : genOf bs 1 ≤ genOf bs 0
    · have ha : actOf bs = (0, 1) := by unfold actOf; rw [hX, hY, decide_eq_true hle]; rfl
      rw [ha]
      refine .inl ⟨hX, ?_⟩
      by_cases he : genB bs 0 = genB bs 1 + 1
      · rw [sect_a _ _ he]; rfl
      · rw [sect_c _ _ he (by omega) (by omega)]; rfl
    · have ha : actOf bs = (1, 0) := by unfold actOf; rw [hX, hY, decide_eq_false hle]; rfl
      rw [ha]
      refine .inl ⟨hY, ?_⟩
      by_cases he : genB bs 1 = genB bs 0 + 1
      · rw [sect_b _ _ (by omega) he]; rfl
      · rw [sect_d _ _ (by omega) he (by omega)]; rfl
theorem step_min (part n m : Int) (r : Nat → Int) (h : m = min n 255) : rstep part m r = min (pstep part n r) 255 := by
  subst h
  unfold rstep pstep
  rcases hc : (r 1 == part && (r 4 == 4 || r 4 == 5)) with _ | _
  · simp
  · by_cases h2 : n < 255
    · rw [if_pos (by simp; omega), if_pos rfl]; omega
    · rw [if_neg (by simp; omega), if_pos rfl]; omega
theorem fold_min (part : Int) (l : List (Nat → Int)) : ∀ n m, m = min n 255 → l.foldl (rstep part) m = min (l.foldl (pstep part) n) 255 := by
  induction l with
  | nil => intro n m h; exact h
  | cons a l ih => intro n m h; exact ih _ _ (step_min part n m a h)
theorem prest_same (bs : List Int) (hb : Bytes bs) (part : Nat) : prestOf bs (actOf bs).1 part = restartsOf bs part := by
  unfold prestOf restartsOf
  rcases act_same bs with ⟨hh, hs⟩ | ⟨hh, hs⟩
  · rw [hs, if_neg (by omega), pfOf_headed bs _ hh]
    have hr := rec_num bs (actOf bs).1 0 4 hb
    have e1 : hdrOf bs (actOf bs).1 4 = recOf bs (actOf bs).1 0 4 := by unfold hdrOf; rw [if_pos hh]
    have e2 : argB bs ((actOf bs).1 : Int).toNat % 4294967296 = recOf bs (actOf bs).1 0 4 := by show recOf bs (actOf bs).1 0 4 % _ = _; omega
    rw [e1, e2]
    have hb4 := (be4_bytes (recOf bs (actOf bs).1 0 4).toNat).getD part
    exact (fold_min _ _ _ _ (by omega)).symm
  · have e0 : (be4 0).getD part 0 = 0 := by
      rcases part with _ | _ | _ | _ | p <;> rfl
    have e1 : hdrOf bs (actOf bs).1 4 = 0 := by unfold hdrOf; rw [if_neg (by simp [hh])]
    rw [hs, if_pos (by omega), pfOf_not bs _ hh, e1]
    show min ((be4 0).getD part 0) 255 = 0
    rw [e0]; rfl

set_option maxHeartbeats 1000000 in
theorem on_any (g : Nat) (w : World) : Calls Tryz.prog 47 #[.pointer (some ⟨g, 0, none⟩)] w fun e w' => e = .returned (.agg #[.pointer (some ⟨g, 0, none⟩)]) ∧ Below w.heap.size w w' := by
  go_enter Tryz.func47, Tryz.ntmps47
  go_wp2
  exact bodyPost_ret (v := .agg #[.pointer (some ⟨g, 0, none⟩)]) (by simp [results, Tryz.results47, go_sem]) rfl ⟨rfl, (Below.refl _ _).alloc (Nat.le_refl _) _⟩

set_option maxRecDepth 100000 in
set_option maxHeartbeats 2000000 in
theorem jlog_any (g : Nat) (bs : List Int) (left res : Int) (dead : Bool) (done : Int) (w : World) (h : FlashAt w g bs left res dead done) :
    Calls Tryz.prog 48 #[.agg #[.pointer (some ⟨g, 0, none⟩)]] w fun e w' => ∃ v, e = .returned v ∧ (RecsV w.heap.size v (logOf bs) w' ∧ (logOf bs = [] → v = .slice none 0 0)) ∧ Below w.heap.size w w' := by
  have hb0 : Below w.heap.size w (w.alloc (.cells #[.pointer (some ⟨g, 0, none⟩)] 107)) := (Below.refl _ _).alloc (Nat.le_refl _) _
  have HS := hide (sectors_any g bs left res dead done _ (h.below hb0))
  have HN := hide (genOf_rng bs h.bytes)
  have HSA := hide (plog_same bs h.bytes)
  have HB0 := hide hb0
  clear h hb0
  generalize (actOf bs).1 = s1 at *
  generalize (actOf bs).2 = s2 at *
  go_enter Tryz.func48, Tryz.ntmps48
  go_wp2_with fail
  refine HS.out.mono ?_
  rintro e w1 ⟨x, y, rfl, hS1, hS2, hb1⟩
  have HB1 : Hid (Below w.heap.size w w1) := HB0.out.trans (hb1.mono (by simp))
  have HS1 := hide hS1
  have HS2 := hide hS2
  clear hS1 hS2 hb1 HS
  have hs1 := HB1.out.size
  go_wp2_with fail
  refine (plog_any x y bs s1 s2 _ HN.out ((HS1.out.alloc _).alloc _) ((HS2.out.alloc _).alloc _)).mono ?_
  rintro e w2 ⟨v, rfl, ⟨hV, hn⟩, hb2⟩
  have HEND : Hid ((RecsV w.heap.size v (logOf bs) w2 ∧ (logOf bs = [] → v = .slice none 0 0)) ∧ Below w.heap.size w w2) := by
    rw [HSA.out] at hV hn
    exact ⟨⟨own_low hV (by simp; omega), hn⟩, (((HB1.out.alloc hs1 _).alloc (by simp; omega) _)).trans (hb2.mono (by simp; omega))⟩
  clear hV hn hb2
  go_wp2
  go_ret
  exact ⟨v, rfl, HEND.out⟩

set_option maxRecDepth 100000 in
set_option maxHeartbeats 2000000 in
theorem jrest_any (g : Nat) (bs : List Int) (left res : Int) (dead : Bool) (done : Int) (part : Nat) (w : World) (hp : part < 4) (h : FlashAt w g bs left res dead done) :
    Calls Tryz.prog 75 #[.agg #[.pointer (some ⟨g, 0, none⟩)], .int .i64 part] w fun e w' => e = .returned (.int .i64 (restartsOf bs part)) ∧ Below w.heap.size w w' := by
  have hb0 : Below w.heap.size w (w.alloc (.cells #[.pointer (some ⟨g, 0, none⟩)] 107)) := (Below.refl _ _).alloc (Nat.le_refl _) _
  have HS := hide (sectors_any g bs left res dead done _ (h.below hb0))
  have HSA := hide (prest_same bs h.bytes part)
  have HBY := hide h.bytes
  have HB0 := hide hb0
  clear h hb0
  generalize (actOf bs).1 = s1 at *
  generalize (actOf bs).2 = s2 at *
  go_enter Tryz.func75, Tryz.ntmps75
  go_wp2_with fail
  refine HS.out.mono ?_
  rintro e w1 ⟨x, y, rfl, hS1, hS2, hb1⟩
  have HB1 : Hid (Below w.heap.size w w1) := HB0.out.trans (hb1.mono (by simp))
  have HS1 := hide hS1
  clear hS1 hS2 hb1 HS
  have hs1 := HB1.out.size
  go_wp2_with fail
  refine (prestarts_any x bs s1 part _ HBY.out hp ((HS1.out.alloc _).alloc _)).mono ?_
  rintro e w2 ⟨rfl, hb2⟩
  have HEND : Hid (Below w.heap.size w w2) := (((HB1.out.alloc hs1 _).alloc (by simp; omega) _)).trans (hb2.mono (by simp; omega))
  clear hb2
  go_wp2
  go_ret
  exact ⟨by rw [HSA.out]; rfl, HEND.out⟩
end Go.Proofs.YtnjlbgolnbdkaaaGreat
