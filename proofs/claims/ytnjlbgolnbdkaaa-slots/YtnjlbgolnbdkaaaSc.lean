/- The statement Slots: sorted. -/
import Derived.Test.YtnjlbgolnbdkaaaHf
import Derived.Deep.RegionWith
import Derived.Deep.CutRange
import Derived.OpenShut
namespace Go.Proofs.Ytnjlbgolnbdkaaa
open Go.RowKit

/- the hands, between two calls -/
structure Hands (base hb : Nat) (n : Int) (w : World) : Prop where
  bh : base ≤ hb
  ex : ∃ (vs : Nat → Value) (L : Nat → Nat) (A : List Kept), (A.length : Int) = 4 * n ∧ w.heap[hb]? = some (.cells (handCells (.slice none 0 0) (.slice none 0 0) n vs) 41 (0, 0)) ∧ L hb = 0 ∧ (∀ k, k < base → 4 ≤ L k) ∧
    Fam 24 5 (Value.int .u8) ByteC 0 L base (vs 3) (vs 4) A A w ∧ ∀ i, 5 ≤ i → vs i = .slice none 0 0
theorem Hands.below {base hb : Nat} {n : Int} {w w' : World} (h : Hands base hb n w) (b : Below w.heap.size w w') : Hands base hb n w' := by
  obtain ⟨hbh, vs, L, A, h1, h2, h3, h0, h4, h5⟩ := h
  exact ⟨hbh, vs, L, A, h1, (b.block hb (lt_of_block h2)).trans h2, h3, h0, h4.touch byteC_local (Touch.ofBelow (S := fun _ => False) b) (fun _ _ h => h.elim), h5⟩

theorem held_row {w : World} {ao : Option Addr} {n cap : Nat} {zs : List Int} (h : Held w ao n cap zs) (hn : 0 < n) : ∃ b off, ao = some ⟨b, off, none⟩ ∧ Row w b off zs := by
  cases ao with
  | none => have := h.none rfl; have := h.cap1; omega
  | some ad =>
    obtain ⟨b, off, rfl, hr⟩ := ints_at (w := w) (a := ad) (k := .u8) (zs := zs) (fun i hi => h.cells ad rfl i _ (by simp [vals, List.getD_eq_getElem?_getD, List.getElem?_eq_getElem hi])) (by rw [h.len]; exact hn)
    exact ⟨b, off, rfl, hr⟩
def kOf (n : Nat) (zs : List Int) : Int := if n = 16 then sortKind zs else 0
def rOf (n : Nat) (zs : List Int) : Nat → Int := if n = 16 then sortRec zs else fun _ => 0
def eOf (n : Nat) : Int := if n = 16 then 0 else 1
theorem sort_held (ao : Option Addr) (n cap : Nat) (zs : List Int) (w : World) (h : Held w ao n cap zs) :
    Calls Try.prog 6 #[.slice ao n cap] w fun e w' => e = .returned (.tuple #[.int .i64 (kOf n zs), aggOf (rOf n zs), .int .i64 (eOf n)]) ∧ Below w.heap.size w w' := by
  by_cases hn : n = 16
  · subst hn
    obtain ⟨b, off, rfl, hr⟩ := held_row h (by omega)
    exact bsort16_any b off cap zs w h.len h.bytes hr h.cap1 (by have := h.cap2; omega)
  · have := bsort_short ao n cap w (by rw [bne_iff_ne]; omega)
    unfold kOf rOf eOf
    simp only [hn, if_false]
    exact this
theorem rsort_held (ao : Option Addr) (n cap : Nat) (zs : List Int) (w : World) (h : Held w ao n cap zs) :
    Calls Try.prog 18 #[.slice ao n cap] w fun e w' => e = .returned (.tuple #[.int .i64 (kOf n zs), aggOf (rOf n zs), .int .i64 (eOf n)]) ∧ Below w.heap.size w w' := by
  by_cases hn : n = 16
  · subst hn
    obtain ⟨b, off, rfl, hr⟩ := held_row h (by omega)
    exact rbsort16_any b off cap zs w h.len h.bytes hr h.cap1 (by have := h.cap2; omega)
  · have := rbsort_short ao n cap w (by rw [bne_iff_ne]; omega)
    unfold kOf rOf eOf
    simp only [hn, if_false]
    exact this

theorem held_own {w : World} {base g cap : Nat} {zs : List Int} (h : w.ownsRow base 5 1 (.slice (some ⟨g, 0, none⟩) 16 cap) 16 (vals zs)) (hb : Bytes zs) (hc : cap ≤ 9223372036854775807) : Held w (some ⟨g, 0, none⟩) 16 cap zs := by
  have hl : zs.length = 16 := by have := h.1; rw [vals_length] at this; omega
  have hcap : 16 ≤ cap := by
    rcases h.2 with ⟨h1, _⟩ | ⟨g', cap', cur, hv, _, _, h1, h2, _⟩
    · simp at h1
    · simp at hv; obtain ⟨_, rfl⟩ := hv; omega
  refine ⟨hl, hcap, hc, hb, fun e => by simp at e, ?_, ?_⟩
  · intro ad e j u hu
    obtain rfl : ad = ⟨g, 0, none⟩ := by simpa using e.symm
    exact h.cells rfl j u hu
  · intro ad e _
    obtain rfl : ad = ⟨g, 0, none⟩ := by simpa using e.symm
    exact (h.lt g rfl).2
theorem conv_own {w : World} {base g cap : Nat} {zs : List Int} (h : w.ownsRow base 5 1 (.slice (some ⟨g, 0, none⟩) 16 cap) 16 (vals zs)) : (convert 24 9 (.slice (some ⟨g, 0, none⟩) 16 cap)).run Try.prog w = .ok (.string (strOf zs)) w := by
  have hl : zs.length = 16 := by have := h.1; rw [vals_length] at this; omega
  rw [run_convert_bytes_string w 24 9 5 _ _ _ Try.underlying24 Try.underlying5 Try.underlying9]
  refine run_bytesToString w ⟨g, 0, none⟩ 16 cap zs ?_
  have := run_loadCells_list (P := Try.prog) (w := w) ⟨g, 0, none⟩ (vals zs) (fun j v hv => h.cells rfl j v hv)
  rw [vals_length, hl] at this
  exact this
theorem lt_of_cell {w : World} {b o : Nat} {v : Value} (h : w.cell? ⟨b, o, none⟩ = some v) : b < w.heap.size := by
  rcases Nat.lt_or_ge b w.heap.size with h1 | h1
  · exact h1
  · simp [World.cell?, Array.getElem?_eq_none h1] at h
theorem held_lent {w : World} {x n : Nat} {zs : List Int} (hX : w.heap[x]? = some (.cells (vals (zs ++ [165, 165])).toArray 5 (0, 0))) (hl : zs.length = n) (hb : Bytes zs) (hn : n ≤ 140737488351232) : Held w (some ⟨x, 0, none⟩) n (n + 2) zs := by
  refine ⟨hl, by omega, by omega, hb, fun h => by simp at h, ?_, ?_⟩
  · intro ad e j u hu
    obtain rfl : ad = ⟨x, 0, none⟩ := by simpa using e.symm
    refine World.news_of_block hX j u ?_
    have hj : j < (vals zs).length := (List.getElem?_eq_some_iff.1 hu).1
    simp only [vals_append]
    rw [List.getElem?_append_left hj]
    exact hu
  · intro ad e _
    obtain rfl : ad = ⟨x, 0, none⟩ := by simpa using e.symm
    exact lt_of_block hX
def recObj (rr : Nat → Int) : Obj := .cells #[.int .i64 (rr 0), .int .i64 (rr 1), .int .i64 (rr 2), .int .i64 (rr 3), .int .i64 (rr 4)] 23
def SlotBox (g B : Nat) (kind part code seq arg : Int) (W : World) : Prop := W.ownsRow 0 5 1 (.slice (some ⟨g, 0, none⟩) 16 16) 16 (vals (slotOf kind part code seq arg)) ∧ W.heap[B]? = some (boxOf kind part code seq arg) ∧ B < W.heap.size

set_option maxRecDepth 100000 in
set_option maxHeartbeats 2000000 in
theorem sorted_any (base hb : Nat) (n0 : Int) (kind part code seq arg : Int) (ao : Option Addr) (n cap : Nat) (zs : List Int) (w : World) (hH : Hands base hb n0 w) (h0 : 0 ≤ n0) (h1 : n0 ≤ 100) (hz : Held w ao n cap zs) (hn : n ≤ 140737488351232) (hne : ∀ ad, ao = some ad → 0 < n → ad.block ≠ hb) :
    Calls Try.prog 8 #[.pointer (some ⟨hb, 0, none⟩), .agg #[.int .i64 kind, .int .i64 part, .int .i64 code, .int .i64 seq, .int .i64 arg], .slice ao n cap] w fun e w' => e = .returned (.bool true) ∧ Hands base hb (n0 + 1) w' ∧ Below base w w' := by
  go_enter Try.func8, Try.ntmps8
  go_wp2_with fail
  refine (bslot_any kind part code seq arg _).mono ?_
  rintro e w1 ⟨g, rfl, hown, hbel⟩
  obtain ⟨P, HP1, HPd, HPB, HP, HCV⟩ : ∃ P : World → Prop, Hid (P w1) ∧ Hid (∀ W, P W → P W.drew) ∧ Hid (∀ W W', P W → Below W.heap.size W W' → P W') ∧
      Hid (∀ W, P W → (convert 24 9 (.slice (some ⟨g, 0, none⟩) 16 16)).run Try.prog W = .ok (.string (strOf (slotOf kind part code seq arg))) W ∧ W.cell? ⟨w.heap.size, 0, none⟩ = some (.int .i64 kind) ∧ W.cell? ⟨w.heap.size, 1, none⟩ = some (.int .i64 part) ∧ W.cell? ⟨w.heap.size, 2, none⟩ = some (.int .i64 code) ∧ W.cell? ⟨w.heap.size, 3, none⟩ = some (.int .i64 seq) ∧ W.cell? ⟨w.heap.size, 4, none⟩ = some (.int .i64 arg) ∧ P W) ∧
      Hid (∀ W W' g2 cap2, W'.ownsRow (World.heap W).size 5 1 (.slice (some ⟨g2, 0, none⟩) 16 cap2) 16 (vals (slotOf kind part code seq arg)) → (convert 24 9 (.slice (some ⟨g2, 0, none⟩) 16 cap2)).run Try.prog W' = .ok (.string (strOf (slotOf kind part code seq arg))) W') := by
    refine ⟨SlotBox g w.heap.size kind part code seq arg, ?_, ?_, ?_, ?_, fun W W' g2 cap2 h => conv_own h⟩
    · exact ⟨own_base hown (by omega), (hbel.block _ (by simp)).trans (heap_alloc_new w _), by have := hbel.size; simp at this; omega⟩
    · exact fun W h => ⟨h.1, h.2.1, h.2.2⟩
    · exact fun W W' h hb => ⟨own_same h.1 (fun b e => hb.block b (h.1.lt b e).2), (hb.block _ h.2.2).trans h.2.1, Nat.lt_of_lt_of_le h.2.2 hb.size⟩
    · exact fun W h => ⟨conv_own h.1, by rw [cell_of_row _ _ _ _ _ _ h.2.1]; rfl, by rw [cell_of_row _ _ _ _ _ _ h.2.1]; rfl, by rw [cell_of_row _ _ _ _ _ _ h.2.1]; rfl, by rw [cell_of_row _ _ _ _ _ _ h.2.1]; rfl, by rw [cell_of_row _ _ _ _ _ _ h.2.1]; rfl, h⟩
  obtain ⟨hbh, vs, L, A, hAl, hB, hLb, hLB, hF, hvs⟩ := hH
  have hgw : w.heap.size < g ∧ g < w1.heap.size := by have h1 := hown.lt g rfl; simp at h1; omega
  have hX1 := (own_block hown).1
  have hb1 : Below w.heap.size w w1 := ((Below.refl _ _).alloc (Nat.le_refl _) _).trans (hbel.mono (by simp))
  have hbw := lt_of_block hB
  have HS := hide (And.intro hAl (And.intro hB (And.intro hLb (And.intro hF (And.intro hvs (And.intro hX1 (And.intro hb1 hLB)))))))
  have HZ := hide hz
  have HNE := hide hne
  have HR := hide (fun W => rslot_any kind part code seq arg W)
  clear hown hbel hz hAl hB hLb hF hvs hX1 hb1 hne hLB
  generalize strOf (slotOf kind part code seq arg) = S at HP HCV
  go_wp2_with fail
  go_cut [8] from 19 to 24 (fun s8 wx => s8 = .bool true ∧ Below w1.heap.size w1 wx)
  case first =>
    obtain ⟨cv1, b0, b1, b2, b3, b4, hPw⟩ := HP.out w1 HP1.out
    have cv1d : (convert 24 9 (.slice (some ⟨g, 0, none⟩) 16 16)).run Try.prog w1.drew = .ok (.string S) w1.drew := (HP.out _ (HPd.out _ HP1.out)).1
    clear hPw
    go_region_with (first | (go_at_call 9; refine (HR.out _).mono ?_; rintro e w2 ⟨g2, cap2, h16, hmx, rfl, hown2, hbel2⟩; have hP2 : P w2 := HPB.out _ _ (by first | exact HP1.out | exact HPd.out _ HP1.out) hbel2; have cv2 := HCV.out _ w2 g2 cap2 hown2; have cv3 := (HP.out w2 hP2).1))
    all_goals (go_wp2_with fail; go_meet; exact ⟨rfl, hbel2.os, hbel2.tape, hbel2.output, hbel2.size, hbel2.block⟩)
  case rest =>
  obtain ⟨rfl, hbc⟩ := hcut
  clear HP1 HPd HPB HP HCV HR
  obtain ⟨hAl, hB, hLb, hF, hvs, hX1, hb1, hLB⟩ := HS.out
  have hwc : Below w.heap.size w wc := hb1.trans (hbc.mono hb1.size)
  have hBc := (hwc.block hb hbw).trans hB
  have hzc := HZ.out.touch (Touch.ofBelow (S := fun _ => False) hwc) (fun _ _ _ => id)
  have hXc := (hbc.block g hgw.2).trans hX1
  have hs1 := hb1.size
  have hsc := hbc.size
  have HC := hide (And.intro hwc hXc)
  have HLEND := hide (lend_any hb n0 vs ao n cap zs wc hBc hzc hn)
  have HZC := hide hzc
  clear hAl hB hLb hF hvs hX1 hb1 hLB hwc hBc hzc hXc hbc
  go_wp2_with fail
  refine HLEND.out.mono ?_
  rintro e w3 ⟨x, a1, c1, a2, c2, rfl, hx, ha1, ha2, hX3, hC1, hC2, hB3, hT3⟩
  have hs3 := hT3.size
  have hx3 := lt_of_block hX3
  have ha13 : a1 < w3.heap.size ∧ a2 < w3.heap.size := ⟨lt_of_cell hC1, lt_of_cell hC2⟩
  have HSORT := hide (sort_held (some ⟨x, 0, none⟩) n (n + 2) zs w3 (held_lent hX3 HZ.out.len HZ.out.bytes hn))
  have H3 := hide (And.intro hX3 (And.intro hC1 (And.intro hC2 (And.intro hB3 hT3))))
  clear hX3 hC1 hC2 hB3 hT3 HLEND
  have HRS := hide (fun W (h : Held W ao n cap zs) => rsort_held ao n cap zs W h)
  generalize kOf n zs = kk at HSORT HRS
  generalize rOf n zs = rr at HSORT HRS
  generalize eOf n = ee at HSORT HRS
  go_wp2_with fail
  refine HSORT.out.mono ?_
  rintro e w4 ⟨rfl, hb4⟩
  have hs4 := hb4.size
  have HB4 := hide hb4
  clear hb4 HSORT
  simp only [aggOf] at HRS ⊢
  have HBACK : Hid (Calls Try.prog 17 #[.pointer (some ⟨hb, 0, none⟩)] (w4.alloc (recObj rr)) fun e w' => e = .returned (.bool true) ∧ w'.heap[hb]? = some (.cells (handCells (.slice none 0 0) (.slice none 0 0) n0 vs) 41 (0, 0)) ∧ Touch (fun k => k = hb ∨ k = x) (w4.alloc (recObj rr)) w') := by
    obtain ⟨hX3, hC1, hC2, hB3, hT3⟩ := H3.out
    have t : Below w3.heap.size w3 (w4.alloc (recObj rr)) := HB4.out.alloc hs4 _
    have hz3 := HZC.out.touch hT3 (fun ad e h => HNE.out ad e h)
    exact back_any hb x a1 c1 a2 c2 n0 vs ao n cap zs _ ((t.block hb (by omega)).trans hB3) (hz3.touch (Touch.ofBelow (S := fun _ => False) t) (fun _ _ _ => id)) ((t.block x hx3).trans hX3) ((t.cell (by exact ha13.1)).trans hC1) ((t.cell (by exact ha13.2)).trans hC2) (by omega) hn
  simp only [recObj] at HBACK
  go_wp2_with fail
  refine HBACK.out.mono ?_
  rintro e w6 ⟨rfl, hB6, hT6⟩
  have hs6 : w4.heap.size + 1 ≤ w6.heap.size := by have := hT6.size; simp at this; exact this
  have hz6 : Held w6 ao n cap zs := by
    obtain ⟨hX3, hC1, hC2, hB3, hT3⟩ := H3.out
    have t : Below w3.heap.size w3 (w4.alloc (recObj rr)) := HB4.out.alloc hs4 _
    have hz3 := HZC.out.touch hT3 (fun ad e h => HNE.out ad e h)
    refine (hz3.touch (Touch.ofBelow (S := fun _ => False) t) (fun _ _ _ => id)).touch hT6 (fun ad e h hs => ?_)
    rcases hs with hs | hs
    · exact HNE.out ad e h hs
    · have := HZ.out.lt ad e h
      omega
  have hr10 : w6.heap[w4.heap.size]? = some (recObj rr) := (hT6.block _ (by simp) (by rintro (h | h) <;> omega)).trans (heap_alloc_new w4 _)
  have HRS6 := hide (HRS.out w6 hz6)
  have H6 := hide (And.intro hB6 (And.intro hT6 hr10))
  clear hB6 hT6 hz6 hr10 HBACK HRS
  go_wp2_with fail
  refine HRS6.out.mono ?_
  rintro e w7 ⟨rfl, hb7⟩
  have hs7 := hb7.size
  have HB7 := hide hb7
  clear hb7 HRS6
  obtain ⟨L1, hL1⟩ : ∃ L1 : Nat → Nat, L1 = fun k => if k < w.heap.size then L k else if k = g then 3 else 4 := ⟨_, rfl⟩
  have hLold : ∀ k, k < w.heap.size → L1 k = L k := fun k hk => by rw [hL1]; simp [hk]
  have hLg : L1 g = 3 := by rw [hL1]; simp; omega
  have hL4 : ∀ k, w.heap.size ≤ k → k ≠ g → L1 k = 4 := fun k hk hne => by rw [hL1]; simp [show ¬ k < w.heap.size from by omega, hne]
  have KEEP : Hid ((∀ k, k < base → 4 ≤ L1 k) ∧ (w7.alloc (recObj rr)).heap[w4.heap.size]? = some (recObj rr) ∧ (w7.alloc (recObj rr)).heap[w7.heap.size]? = some (recObj rr) ∧ Below base w (w7.alloc (recObj rr)) ∧
      Calls Try.prog 19 #[.pointer (some ⟨hb, 0, none⟩), .slice (some ⟨g, 0, none⟩) 16 16] (w7.alloc (recObj rr)) fun e w' => ∃ vB vM L' A', e = .returned (.tuple #[]) ∧ w'.heap[hb]? = some (.cells (handCells (.slice none 0 0) (.slice none 0 0) (n0 + 1) (upd vs vB vM)) 41 (0, 0)) ∧
      (∀ k, k < (w7.alloc (recObj rr)).heap.size → L' k = L1 k) ∧ Fam 24 5 (Value.int .u8) ByteC 0 L' base vB vM A' A' w' ∧ A'.length = A.length + 4 ∧ Touch (fun k => L1 k ≤ 3) (w7.alloc (recObj rr)) w') := by
    obtain ⟨hAl, hB, hLb, hF, hvs, hX1, hb1, hLB⟩ := HS.out
    obtain ⟨hwc, hXc⟩ := HC.out
    obtain ⟨hX3, hC1, hC2, hB3, hT3⟩ := H3.out
    obtain ⟨hB6, hT6, hr10⟩ := H6.out
    have t35 : Below w3.heap.size w3 (w4.alloc (recObj rr)) := HB4.out.alloc hs4 _
    have t68 : Below w6.heap.size w6 (w7.alloc (recObj rr)) := HB7.out.alloc hs7 _
    have t36 : Touch (fun k => k = hb ∨ k = x) w3 w6 := Touch.trans (Touch.ofBelow t35) hT6 (fun i hi => .inl hi)
    have tc8 : Touch (fun k => k = hb ∨ k = x) wc (w7.alloc (recObj rr)) := Touch.trans (T := fun _ => False) (Touch.trans (hT3.mono (fun k hk => .inl hk)) t36 (fun i hi => .inl hi)) (Touch.ofBelow t68) (fun _ h => h.elim)
    have tw8 : Touch (· = hb) w (w7.alloc (recObj rr)) := Touch.trans (Touch.ofBelow hwc) tc8 (fun i hi => by rcases hi with hi | hi; exact .inl hi; exact .inr (by omega))
    have hBe : (w7.alloc (recObj rr)).heap[hb]? = some (.cells (handCells (.slice none 0 0) (.slice none 0 0) n0 vs) 41 (0, 0)) := (t68.block hb (by omega)).trans hB6
    have hX8 := (tc8.block g (by omega) (by rintro (h | h) <;> omega)).trans hXc
    have hF8 : Fam 24 5 (Value.int .u8) ByteC 0 L1 base (vs 3) (vs 4) A A (w7.alloc (recObj rr)) := (hF.relabel hLold).touch byteC_local tw8 (fun k hk hs => .inl (by rw [hs, hLold hb hbw, hLb]; omega))
    refine ⟨fun k hk => by rw [hLold k (by omega)]; exact hLB k hk, (t68.block _ (by omega)).trans hr10, heap_alloc_new w7 _, tw8.below (by omega) (fun k hk => by omega), ?_⟩
    exact keep_any hb g n0 vs L1 base A _ _ hBe (by rw [hLold hb hbw]; exact hLb) hF8 hX8 (by simp [vals_length, slotOf_length]) hLg (by omega) (fun k hk e => by have := ((hF.kept k hk).1 g e).2.2; omega) h0 (by omega) (by omega)
  have HL1 := hide (And.intro hLold (And.intro hLg hL4))
  clear hL1 hLold hLg hL4
  simp only [recObj] at KEEP
  go_wp2_with fail
  refine KEEP.out.2.2.2.2.mono ?_
  rintro e w9 ⟨vB, vM, L9, A9, rfl, hB9, hL9, hF9, hA9, hT9⟩
  have hs9 : w7.heap.size + 1 ≤ w9.heap.size := by have := hT9.size; simp at this; exact this
  have hr10' : w9.heap[w4.heap.size]? = some (recObj rr) := (hT9.block _ (by simp; omega) (by rw [HL1.out.2.2 _ (by omega) (by omega)]; omega)).trans KEEP.out.2.1
  have hr14' : w9.heap[w7.heap.size]? = some (recObj rr) := (hT9.block _ (by simp) (by rw [HL1.out.2.2 _ (by omega) (by omega)]; omega)).trans KEEP.out.2.2.1
  have HHOLD := hide (holds_bytes hb (n0 + 1) (upd vs vB vM) L9 base A9 w9 hB9 hF9 (by omega) (by have := HS.out.1; omega) (fun i hi => by unfold upd; rw [if_neg (by omega), if_neg (by omega)]; exact HS.out.2.2.2.2.1 i hi))
  have HEND : Hid (Hands base hb (n0 + 1) w9 ∧ Below base w w9) := by
    refine ⟨⟨hbh, upd vs vB vM, L9, A9, by have := HS.out.1; omega, hB9, ?_, ?_, hF9, fun i hi => by unfold upd; rw [if_neg (by omega), if_neg (by omega)]; exact HS.out.2.2.2.2.1 i hi⟩, ?_⟩
    · rw [hL9 hb (by simp; omega), HL1.out.1 hb hbw]; exact HS.out.2.2.1
    · intro k hk
      rw [hL9 k (by simp; omega)]
      exact KEEP.out.1 k hk
    · refine KEEP.out.2.2.2.1.trans (hT9.below (by simp; omega) (fun k hk => ?_))
      rcases Nat.lt_or_ge k base with h | h
      · have := KEEP.out.1 k h; omega
      · exact h
  have p0 : w9.cell? ⟨w4.heap.size, 0, none⟩ = some (.int .i64 (rr 0)) := by rw [cell_of_row _ _ _ _ _ _ hr10']; rfl
  have p1 : w9.cell? ⟨w4.heap.size, 1, none⟩ = some (.int .i64 (rr 1)) := by rw [cell_of_row _ _ _ _ _ _ hr10']; rfl
  have p2 : w9.cell? ⟨w4.heap.size, 2, none⟩ = some (.int .i64 (rr 2)) := by rw [cell_of_row _ _ _ _ _ _ hr10']; rfl
  have p3 : w9.cell? ⟨w4.heap.size, 3, none⟩ = some (.int .i64 (rr 3)) := by rw [cell_of_row _ _ _ _ _ _ hr10']; rfl
  have p4 : w9.cell? ⟨w4.heap.size, 4, none⟩ = some (.int .i64 (rr 4)) := by rw [cell_of_row _ _ _ _ _ _ hr10']; rfl
  have q0 : w9.cell? ⟨w7.heap.size, 0, none⟩ = some (.int .i64 (rr 0)) := by rw [cell_of_row _ _ _ _ _ _ hr14']; rfl
  have q1 : w9.cell? ⟨w7.heap.size, 1, none⟩ = some (.int .i64 (rr 1)) := by rw [cell_of_row _ _ _ _ _ _ hr14']; rfl
  have q2 : w9.cell? ⟨w7.heap.size, 2, none⟩ = some (.int .i64 (rr 2)) := by rw [cell_of_row _ _ _ _ _ _ hr14']; rfl
  have q3 : w9.cell? ⟨w7.heap.size, 3, none⟩ = some (.int .i64 (rr 3)) := by rw [cell_of_row _ _ _ _ _ _ hr14']; rfl
  have q4 : w9.cell? ⟨w7.heap.size, 4, none⟩ = some (.int .i64 (rr 4)) := by rw [cell_of_row _ _ _ _ _ _ hr14']; rfl
  clear hB9 hL9 hF9 hA9 hT9 hr10' hr14' KEEP HS HC H3 H6 HB4 HB7 HL1 HZ HZC HNE
  go_wp2_with fail
  refine HHOLD.out.mono ?_
  rintro e wz ⟨rfl, q, rfl⟩
  clear HHOLD
  go_wp2_with (go_at_call 21; refine (num_any _ _).mono ?_; rintro e wy ⟨rfl, rfl⟩)
  go_ret
  exact ⟨rfl, HEND.out.1.below (below_drewN (Below.refl _ _) q), below_drewN HEND.out.2 q⟩
end Go.Proofs.Ytnjlbgolnbdkaaa
