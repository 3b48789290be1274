/- Texts of the proof of Boots, one behind the other. -/
import Derived.Test.YtnjlbgolnbdkaaaGreatJ04
/- The hands: lend. -/
namespace Go.Proofs.YtnjlbgolnbdkaaaGreat
open Go.RowKit

theorem made_bytes (n : Nat) : (madeCells #[Value.int .u8 0] n).toList = List.replicate n (.int .u8 0) := by
  rw [List.eq_replicate_iff]
  refine ⟨by simp [madeCells], ?_⟩
  intro v hv
  simp only [madeCells, Array.toList_map, List.mem_map] at hv
  obtain ⟨i, _, rfl⟩ := hv
  have : i % 1 = 0 := Nat.mod_one i
  simp [this]

theorem slice_one (v : Value) (ao : Option Addr) (n c : Nat) (h : v = .slice ao n c) : ∀ u ∈ [v], u.oneCell' = true := by
  intro u hu
  simp at hu
  subst hu
  subst h
  rfl
theorem own_first {w : World} {base g cap : Nat} {e : TypeId} {v : Value} (h : w.ownsRow base e 1 (.slice (some ⟨g, 0, none⟩) 1 cap) 1 [v]) : w.cell? ⟨g, 0, none⟩ = some v := by
  have := h.cells (g := g) rfl 0 v rfl
  simpa [Addr.add] using this

set_option maxRecDepth 100000 in
set_option maxHeartbeats 1000000 in
theorem lend_any (p : Nat → Value) (hb : Nat) (n0 : Int) (vs : Nat → Value) (ao : Option Addr) (n cap : Nat) (zs : List Int) (w : World) (hB : w.heap[hb]? = some (.cells (handCells p (.slice none 0 0) (.slice none 0 0) n0 vs) 94 (0, 0))) (hz : Held w ao n cap zs) (hn' : n ≤ 140737488351232) :
    Calls Tryz.prog 58 #[.pointer (some ⟨hb, 5, none⟩), .slice ao n cap] w fun e w' => ∃ x a1 c1 a2 c2, e = .returned (.slice (some ⟨x, 0, none⟩) n (n + 2)) ∧ w.heap.size ≤ x ∧ w.heap.size ≤ a1 ∧ w.heap.size ≤ a2 ∧ 
      w'.heap[x]? = some (.cells (vals (zs ++ [165, 165])).toArray 5 (0, 0)) ∧ w'.cell? ⟨a1, 0, none⟩ = some (.slice (some ⟨x, 0, none⟩) (n + 2) (n + 2)) ∧ w'.cell? ⟨a2, 0, none⟩ = some (.slice ao n cap) ∧
      w'.heap[hb]? = some (.cells (handCells p (.slice (some ⟨a1, 0, none⟩) 1 c1) (.slice (some ⟨a2, 0, none⟩) 1 c2) n0 vs) 94 (0, 0)) ∧ Touch (· = hb) w w' := by
  obtain ⟨i0, hi, hz0, hz1, hz2⟩ := info_parts Tryz.info5
  have hn : (n : Int) ≤ 140737488351232 := by omega
  have hlt : hb < w.heap.size := by
    rcases Nat.lt_or_ge hb w.heap.size with h | h
    · exact h
    · rw [Array.getElem?_eq_none h] at hB; cases hB
  have HB := hide hB
  have HZ := hide hz
  clear hB hz
  go_enter Tryz.func58, Tryz.ntmps58
  go_wp2_with (at_make; go_must (refine wpList_make_full _ rfl _ _ 22 rfl w.heap.size 5 i0 (.int .u8 0) 1 Tryz.underlying22 hi hz0 hz1 .i64 .i64 _ _ (n + 2) rfl rfl (by omega) (by omega) (by rw [hz2]; omega) (by unfold maxLen; omega) (by omega) ?_))
  intro w1 hown1 hgrow1
  rw [made_bytes] at hown1
  have HX1 := hide (own_block hown1).1
  have HG1 := hide hgrow1
  clear hown1 hgrow1
  have HT1 : Hid (Touch (fun _ => False) w w1) := Touch.ofGrown HG1.out (by simp)
  have HZ1 := hide (HZ.out.touch HT1.out (fun _ _ _ => id))
  have hzl := HZ.out.len
  have HL : Hid (zs.length = n) := hzl
  clear hzl
  go_wp2_with (refine wpList_copy_splice rfl (.tmp 12) (.tmp 13) 22 22 rfl 5 Tryz.underlying22 (by rw [hi]; simp [hz1]) (some ⟨w.heap.size, 0, none⟩) ao (n + 2) (n + 2) n cap rfl rfl w.heap.size 0 (List.replicate (n + 2) (.int .u8 0)) 5 HX1.out (vals zs) (by rw [vals_length, HL.out]; exact (Nat.min_eq_left (by omega)).symm) (fun hp => ⟨rfl, (by cases ao with | none => exact absurd (HZ1.out.none rfl) (by have := HZ1.out.cap1; rw [vals_length, HL.out] at hp; omega) | some ad => exact ⟨ad, rfl, HZ1.out.cells ad rfl⟩)⟩) (by rw [vals_length, HL.out]; simp) (vals_one _) w.heap.size w (HT1.out.below (Nat.le_refl _) (by simp)) (Nat.le_refl _) ?_)
  intro w2 hx2 hb2
  have HX2 : Hid (w2.heap[w.heap.size]? = some (.cells (vals (zs ++ [0, 0])).toArray 5 (0, 0))) := by
    have := hx2.out
    rw [show splice (List.replicate (n + 2) (Value.int .u8 0)) 0 (vals zs) = vals (zs ++ [0, 0]) from by
      unfold splice
      rw [vals_append, vals_length, HL.out]
      simp [vals, List.drop_replicate]] at this
    exact this
  have cx0 : w2.cell? ⟨w.heap.size, n, none⟩ = some (.int .u8 0) := by
    rw [cell_of_row _ _ _ _ _ _ HX2.out]
    simp [vals, ← HL.out]
  have cx1 : w2.cell? ⟨w.heap.size, n + 1, none⟩ = some (.int .u8 0) := by
    rw [cell_of_row _ _ _ _ _ _ HX2.out]
    simp [vals, ← HL.out]
  have fx0 := free_of_block HX2.out n
  have fx1 := free_of_block HX2.out (n + 1)
  have HB2 := hide hb2
  have H2 : Hid (w2.heap[hb]? = some (.cells (handCells p (.slice none 0 0) (.slice none 0 0) n0 vs) 94 (0, 0))) := (hb2.block _ hlt).trans HB.out
  clear hx2 hb2 HX1 HG1 HT1 HZ1
  have hs2 : w.heap.size < w2.heap.size := by
    rcases Nat.lt_or_ge w.heap.size w2.heap.size with h | h
    · exact h
    · exact absurd HX2.out (by rw [Array.getElem?_eq_none h]; simp)
  have c0 : w2.cell? ⟨hb, 5, none⟩ = some (.slice none 0 0) := by rw [cell_of_row _ _ _ _ _ _ H2.out]; rfl
  have c1 : w2.cell? ⟨hb, 6, none⟩ = some (.slice none 0 0) := by rw [cell_of_row _ _ _ _ _ _ H2.out]; rfl
  have f0 := free_of_block H2.out 5
  have f1 := free_of_block H2.out 6
  have hne1 : ¬ w.heap.size = hb := by omega
  have hne2 : ¬ hb = w.heap.size := by omega
  obtain ⟨j0, hj, hj0, hj1, hj2⟩ := info_parts Tryz.info22
  obtain ⟨w3, hw3⟩ : ∃ w3, w3 = (w2.setCell ⟨w.heap.size, n, none⟩ (.int .u8 165)).setCell ⟨w.heap.size, n + 1, none⟩ (.int .u8 165) := ⟨_, rfl⟩
  have hs3 : w3.heap.size = w2.heap.size := by rw [hw3]; simp
  have HX3 : Hid (w3.heap[w.heap.size]? = some (.cells (vals (zs ++ [165, 165])).toArray 5 (0, 0))) := by
    have := block_set (block_set HX2.out n (.int .u8 165)) (n + 1) (.int .u8 165)
    rw [← hw3] at this
    rw [this]
    congr 2
    apply Array.ext'
    simp [vals, ← HL.out]
  have HT3 : Hid (Touch (· = w.heap.size) w2 w3) := by
    rw [hw3]
    exact Touch.trans (S := (· = w.heap.size)) (T := (· = w.heap.size)) (Touch.ofSet w2 w.heap.size n (.int .u8 165) rfl) (Touch.ofSet _ w.heap.size (n + 1) (.int .u8 165) rfl) (fun i hi => .inl hi)
  have H3 : Hid (w3.heap[hb]? = some (.cells (handCells p (.slice none 0 0) (.slice none 0 0) n0 vs) 94 (0, 0))) := (HT3.out.block _ (by omega) (by omega)).trans H2.out
  have HW3 := hide hw3
  clear hw3
  go_wp2_with (at_builtin; go_must (refine wpList_append_lies _ rfl (.tmp 26) (.tmp 28) 36 rfl w.heap.size 22 j0 (.slice none 0 0) 1 24 Tryz.underlying36 hj hj0 hj1 hj2 rfl (by decide) (.slice none 0 0) 0 [] rfl (World.ownsRow_nil _ _ _ _) ⟨w2.heap.size, 0, none⟩ 1 1 [.slice (some ⟨w.heap.size, 0, none⟩) (n + 2) (n + 2)] (by rfl) rfl (by rw [← HW3.out, ← hs3]; exact news_at w3 #[.slice (some ⟨w.heap.size, 0, none⟩) (n + 2) (n + 2)] 22) (slice_one _ _ _ _ rfl) (by omega) (by decide) (by omega) (by rw [← HW3.out]; simp; omega) _ rfl ?_))
  intro a1 cc1 w4 hown4 hgrow4 hat4 hlt4
  rw [← HW3.out] at hgrow4
  have ha1 : a1 = w2.heap.size + 1 := by simpa [Value.ownBlock] using hat4
  have hg4 : w3.grownBy w4 none := grown_alloc hgrow4
  have HX4 : Hid (w4.heap[w.heap.size]? = some (.cells (vals (zs ++ [165, 165])).toArray 5 (0, 0))) := (hg4.block _ (by omega) (by simp)).trans HX3.out
  have H4 : Hid (w4.heap[hb]? = some (.cells (handCells p (.slice none 0 0) (.slice none 0 0) n0 vs) 94 (0, 0))) := (hg4.block _ (by omega) (by simp)).trans H3.out
  have HC4 := hide (own_first hown4)
  have HT4 : Hid (Below w.heap.size w w4) := (HB2.out.trans (HT3.out.below (by omega) (by intro k hk; omega))).grown hg4 (by omega) (by simp)
  have d0 : w4.cell? ⟨hb, 5, none⟩ = some (.slice none 0 0) := by rw [cell_of_row _ _ _ _ _ _ H4.out]; rfl
  have d1 : w4.cell? ⟨hb, 6, none⟩ = some (.slice none 0 0) := by rw [cell_of_row _ _ _ _ _ _ H4.out]; rfl
  have e0 := free_of_block H4.out 5
  have e1 := free_of_block H4.out 6
  have hs4 : w2.heap.size + 1 < w4.heap.size := by omega
  clear hown4 hgrow4 hat4 hg4 c0 c1 f0 f1 cx0 cx1 fx0 fx1 H3 H2 HX2 HX3 HT3 HB2 HW3
  have HA1 := hide ha1
  clear ha1
  obtain ⟨w5, hw5⟩ : ∃ w5, w5 = w4.setCell ⟨hb, 5, none⟩ (.slice (some ⟨a1, 0, none⟩) 1 cc1) := ⟨_, rfl⟩
  have hs5 : w5.heap.size = w4.heap.size := by rw [hw5]; simp
  have HT5 : Hid (Touch (· = hb) w4 w5) := by
    rw [hw5]
    exact Touch.ofSet w4 hb 5 _ rfl
  have H5 : Hid (w5.heap[hb]? = some (.cells (handCells p (.slice (some ⟨a1, 0, none⟩) 1 cc1) (.slice none 0 0) n0 vs) 94 (0, 0))) := by
    rw [hw5]
    exact block_set H4.out 5 _
  have HW5 := hide hw5
  clear hw5
  go_wp2_with (at_builtin; go_must (refine wpList_append_lies _ rfl (.tmp 36) (.tmp 38) 36 rfl w.heap.size 22 j0 (.slice none 0 0) 1 24 Tryz.underlying36 hj hj0 hj1 hj2 rfl (by decide) (.slice none 0 0) 0 [] rfl (World.ownsRow_nil _ _ _ _) ⟨w4.heap.size, 0, none⟩ 1 1 [.slice ao n cap] (by rfl) rfl (by rw [← HW5.out, ← hs5]; exact news_at w5 #[.slice ao n cap] 22) (slice_one _ _ _ _ rfl) (by omega) (by decide) (by omega) (by rw [← HW5.out]; simp; omega) _ rfl ?_))
  intro a2 cc2 w6 hown6 hgrow6 hat6 hlt6
  rw [← HW5.out] at hgrow6
  have ha2 : a2 = w4.heap.size + 1 := by simpa [Value.ownBlock] using hat6
  have HA2 := hide ha2
  clear ha2
  have hg6 : w5.grownBy w6 none := grown_alloc hgrow6
  have HT6 : Hid (Touch (· = hb) w4 w6) := Touch.trans (T := fun _ => False) HT5.out (Touch.ofGrown hg6 (by simp)) (fun _ h => h.elim)
  have HX6 : Hid (w6.heap[w.heap.size]? = some (.cells (vals (zs ++ [165, 165])).toArray 5 (0, 0))) := (HT6.out.block _ (by omega) hne1).trans HX4.out
  have H6 : Hid (w6.heap[hb]? = some (.cells (handCells p (.slice (some ⟨a1, 0, none⟩) 1 cc1) (.slice none 0 0) n0 vs) 94 (0, 0))) := (hg6.block _ (by omega) (by simp)).trans H5.out
  have HC6 : Hid (w6.cell? ⟨a1, 0, none⟩ = some (.slice (some ⟨w.heap.size, 0, none⟩) (n + 2) (n + 2))) := (World.cell?_of_block (HT6.out.block a1 (by omega) (by rw [HA1.out]; omega))).trans HC4.out
  have HD6 := hide (own_first hown6)
  have HT : Hid (Touch (· = hb) w w6) := Touch.trans (S := (· = hb)) (Touch.ofBelow HT4.out) HT6.out (fun i hi => .inl hi)
  have e1' := free_of_block H6.out 6
  have d1' : w6.cell? ⟨hb, 6, none⟩ = some (.slice none 0 0) := by rw [cell_of_row _ _ _ _ _ _ H6.out]; rfl
  clear hown6 hgrow6 hat6 hg6 d0 d1 e0 e1 H4 H5 HX4 HT4 HT5 HT6 HW5
  go_wp2
  go_ret
  have hA1 := HA1.out
  have hA2 := HA2.out
  refine ⟨w.heap.size, a1, cc1, a2, cc2, rfl, Nat.le_refl _, by omega, by omega, ?_, ?_, ?_, block_set H6.out 6 _, Touch.trans (S := (· = hb)) (T := (· = hb)) HT.out (Touch.ofSet w6 hb 6 _ rfl) (fun i hi => .inl hi)⟩
  · rw [Below.heap_setCell _ _ _ _ (by exact hne1)]; exact HX6.out
  · rw [World.cell?_of_block (w := w6) (Below.heap_setCell _ _ _ _ (by show ¬ a1 = hb; omega))]; exact HC6.out
  · rw [World.cell?_of_block (w := w6) (Below.heap_setCell _ _ _ _ (by show ¬ a2 = hb; omega))]; exact HD6.out
end Go.Proofs.YtnjlbgolnbdkaaaGreat
/- The hands: back. -/
namespace Go.Proofs.YtnjlbgolnbdkaaaGreat
open Go.RowKit

def strOf (zs : List Int) : ByteArray := zs.foldl (fun r n => r.push (UInt8.ofNat n.toNat)) ByteArray.empty

theorem conv_any (w : World) (ao : Option Addr) (n cap : Nat) (zs : List Int) (h : Held w ao n cap zs) : (convert 22 9 (.slice ao n cap)).run Tryz.prog w = .ok (.string (strOf zs)) w := by
  rw [run_convert_bytes_string w 22 9 5 ao n cap Tryz.underlying22 Tryz.underlying5 Tryz.underlying9]
  cases ao with
  | none =>
    have hc := h.none rfl
    have hn : n = 0 := by have := h.cap1; omega
    have hz : zs = [] := List.eq_nil_of_length_eq_zero (by rw [h.len, hn])
    subst hz
    unfold Conv.bytesToString
    simp [Sem.run_pure, strOf]
  | some ad =>
    refine run_bytesToString w ad n cap zs ?_
    have := run_loadCells_list (P := Tryz.prog) (w := w) ad (vals zs) (h.cells ad rfl)
    rw [vals_length, h.len] at this
    exact this

theorem Held.drewN {w : World} {ao : Option Addr} {n cap : Nat} {zs : List Int} (h : Held w ao n cap zs) (k : Nat) : Held (w.drewN k) ao n cap zs := ⟨h.len, h.cap1, h.cap2, h.bytes, h.none, h.cells, h.lt⟩

set_option maxRecDepth 100000 in
set_option maxHeartbeats 1000000 in
theorem back_any (p : Nat → Value) (hb x a1 c1 a2 c2 : Nat) (n0 : Int) (vs : Nat → Value) (ao : Option Addr) (n cap : Nat) (zs : List Int) (w : World)
    (hB : w.heap[hb]? = some (.cells (handCells p (.slice (some ⟨a1, 0, none⟩) 1 c1) (.slice (some ⟨a2, 0, none⟩) 1 c2) n0 vs) 94 (0, 0))) (hz : Held w ao n cap zs)
    (hX : w.heap[x]? = some (.cells (vals (zs ++ [165, 165])).toArray 5 (0, 0))) (ca1 : w.cell? ⟨a1, 0, none⟩ = some (.slice (some ⟨x, 0, none⟩) (n + 2) (n + 2))) (ca2 : w.cell? ⟨a2, 0, none⟩ = some (.slice ao n cap)) (hxb : x ≠ hb) (hn : n ≤ 140737488351232) :
    Calls Tryz.prog 59 #[.pointer (some ⟨hb, 5, none⟩)] w fun e w' => e = .returned (.bool true) ∧ w'.heap[hb]? = some (.cells (handCells p (.slice none 0 0) (.slice none 0 0) n0 vs) 94 (0, 0)) ∧ Touch (fun k => k = hb ∨ k = x) w w' := by
  have hn1 : (n : Int) ≤ 140737488351232 := by omega
  have hn0 : (0 : Int) ≤ (n : Int) := by omega
  have hlen := hz.len
  have HX := hide hX
  have HB := hide hB
  have hl : n < (zs ++ [165, 165] : List Int).length ∧ n + 1 < (zs ++ [165, 165] : List Int).length := by simp [hlen]
  have HXR : Hid (Held w (some ⟨x, 0, none⟩) n (n + 2) zs) := by
    refine ⟨hlen, by omega, by omega, hz.bytes, fun h => by simp at h, ?_, ?_⟩
    · intro ad e j u hu
      obtain rfl : ad = ⟨x, 0, none⟩ := by simpa using e.symm
      refine World.news_of_block HX.out j u ?_
      have hj : j < (vals zs).length := (List.getElem?_eq_some_iff.1 hu).1
      simp only [vals_append]
      rw [List.getElem?_append_left hj]
      exact hu
    · intro ad e _
      obtain rfl : ad = ⟨x, 0, none⟩ := by simpa using e.symm
      rcases Nat.lt_or_ge x w.heap.size with h | h
      · exact h
      · exact absurd HX.out (by rw [Array.getElem?_eq_none h]; simp)
  have cv1 : ∀ nq, (convert 22 9 (.slice (some ⟨x, 0, none⟩) n (n + 2))).run Tryz.prog (w.drewN nq) = .ok (.string (strOf zs)) (w.drewN nq) := fun nq => conv_any _ _ _ _ _ (HXR.out.drewN nq)
  have cv2 : ∀ nq, (convert 22 9 (.slice ao n cap)).run Tryz.prog (w.drewN nq) = .ok (.string (strOf zs)) (w.drewN nq) := fun nq => conv_any _ _ _ _ _ (hz.drewN nq)
  have cx0 : w.cell? ⟨x, n, none⟩ = some (.int .u8 165) := by
    rw [cell_of_row _ _ _ _ _ _ HX.out]
    simp [vals, ← hlen]
  have cx1 : w.cell? ⟨x, n + 1, none⟩ = some (.int .u8 165) := by
    rw [cell_of_row _ _ _ _ _ _ HX.out]
    simp [vals, ← hlen]
  have c0 : w.cell? ⟨hb, 5, none⟩ = some (.slice (some ⟨a1, 0, none⟩) 1 c1) := by rw [cell_of_row _ _ _ _ _ _ HB.out]; rfl
  have c1' : w.cell? ⟨hb, 6, none⟩ = some (.slice (some ⟨a2, 0, none⟩) 1 c2) := by rw [cell_of_row _ _ _ _ _ _ HB.out]; rfl
  have HC := hide (And.intro c0 (And.intro c1' (And.intro ca1 (And.intro ca2 (And.intro cx0 (And.intro cx1 (And.intro cv1 cv2)))))))
  have HL := hide hlen
  generalize strOf zs = S at cv1 cv2 HC
  clear hB hX hz hlen c0 c1' ca1 ca2 cx0 cx1 cv1 cv2 hl
  go_enter Tryz.func59, Tryz.ntmps59
  go_wp2
  go_loopw [3, 4] (fun t i wr => t = .bool true ∧ ((i = .int .i64 0 ∧ wr = w) ∨ (i = .int .i64 1 ∧ wr.heap[hb]? = some (.cells (handCells p (.slice (some ⟨a1, 0, none⟩) 1 c1) (.slice (some ⟨a2, 0, none⟩) 1 c2) n0 vs) 94 (0, 0)) ∧ Touch (fun k => k = hb ∨ k = x) w wr)))
    (fun _ i _ => 1 - (intOf i).toNat)
  case atStart => exact ⟨rfl, .inl ⟨rfl, rfl⟩⟩
  case round =>
    obtain ⟨rfl, ⟨rfl, hw⟩ | ⟨rfl, hB1, hT⟩⟩ := hrel
    · have hw' := hw.symm
      subst hw'
      clear hw
      obtain ⟨c0, c1', ca1, ca2, cx0, cx1, cv1, cv2⟩ := HC.out
      go_wp2
      go_quiet (fail)
      clear c0 c1' ca1 ca2 cx0 cx1 cv1 cv2 HC
      go_wp2
      go_loopw [7] (fun i wq => ∃ (k : Nat) (cur : Array Value), k ≤ n + 2 ∧ i = .int .i64 k ∧ cur.size = n + 2 ∧ wq.heap[x]? = some (.cells cur 5 (0, 0)) ∧ Touch (· = x) w wq) (fun i _ => n + 2 - (intOf i).toNat)
      case atStart => exact ⟨0, _, by omega, rfl, by simp [vals_length, HL.out], HX.out, Touch.ofDrewN w nq⟩
      case round =>
        obtain ⟨k, cur, hk, rfl, hcs, hxq, hT⟩ := hrel
        have HT := hide hT
        clear hT
        by_cases hlt : k < n + 2
        · have cc : wr.cell? ⟨x, k, none⟩ = some (cur[k]'(by omega)) := by rw [cell_of_row _ _ _ _ _ _ hxq]; simp [hcs, hlt]
          have ff := free_of_block hxq k
          have HQ := hide hxq
          clear hxq
          go_wp2
          go_roundw
          case rel => exact ⟨k + 1, _, by omega, by go_num, by simp [hcs], block_set HQ.out k _, Touch.trans (T := (· = x)) HT.out (Touch.ofSet wr x k _ rfl) (fun i hi => .inl hi)⟩
          case measure => simp [intOf]; omega
        · have HF : Hid (wr.heap[hb]? = some (.cells (handCells p (.slice (some ⟨a1, 0, none⟩) 1 c1) (.slice (some ⟨a2, 0, none⟩) 1 c2) n0 vs) 94 (0, 0))) := (HT.out.block hb (lt_of_block HB.out) (fun h => hxb h.symm)).trans HB.out
          clear hxq
          go_wp2
          go_roundw
          case rel => exact ⟨rfl, .inr ⟨rfl, HF.out, HT.out.mono (fun k hk => .inr hk)⟩⟩
          case measure => simp [intOf]
    · have d0 : wr.cell? ⟨hb, 5, none⟩ = some (.slice (some ⟨a1, 0, none⟩) 1 c1) := by rw [cell_of_row _ _ _ _ _ _ hB1]; rfl
      have d1 : wr.cell? ⟨hb, 6, none⟩ = some (.slice (some ⟨a2, 0, none⟩) 1 c2) := by rw [cell_of_row _ _ _ _ _ _ hB1]; rfl
      have g0 := free_of_block hB1 5
      have g1 := free_of_block hB1 6
      have HB1 := hide hB1
      have HT := hide hT
      clear hB1 hT HC
      go_wp2
      go_ret
      exact ⟨rfl, block_set (block_set HB1.out 5 _) 6 _, Touch.trans (T := (· = hb)) (Touch.trans (T := (· = hb)) HT.out (Touch.ofSet wr hb 5 _ rfl) (fun i hi => .inl (.inl hi))) (Touch.ofSet _ hb 6 _ rfl) (fun i hi => .inl (.inl hi))⟩
end Go.Proofs.YtnjlbgolnbdkaaaGreat
/- The hands: lists that came out, with their marks: notions, and how they stand behind an append. -/
namespace Go.Proofs.YtnjlbgolnbdkaaaGreat
open Go.RowKit

structure Kept where
  v : Value
  mark : Int

/- A family of lists: vB holds the lists, vM the marks; L tells whose a block is. -/
structure Fam (eB eM : TypeId) (mv : Int → Value) (C : World → Kept → Prop) (a : Nat) (L : Nat → Nat) (base : Nat) (vB vM : Value) (A M : List Kept) (w : World) : Prop where
  own : w.ownsRow base eB 1 vB A.length (A.map Kept.v)
  lab : ∀ b, vB.ownBlock = some b → L b = a + 1
  ownM : w.ownsRow base eM 1 vM M.length (M.map fun k => mv k.mark)
  labM : ∀ b, vM.ownBlock = some b → L b = a + 2
  kept : ∀ k ∈ A, (∀ b, k.v.ownBlock = some b → L b = a + 3 ∧ base ≤ b ∧ b < w.heap.size) ∧ C w k

def Local (C : World → Kept → Prop) : Prop := ∀ (w w' : World) (k : Kept), (∀ b, k.v.ownBlock = some b → w'.heap[b]? = w.heap[b]?) → C w k → C w' k

theorem own_same {w w' : World} {base : Nat} {e : TypeId} {v : Value} {n : Nat} {xs : List Value} (h : w.ownsRow base e 1 v n xs) (hs : ∀ b, v.ownBlock = some b → w'.heap[b]? = w.heap[b]?) : w'.ownsRow base e 1 v n xs := by
  obtain ⟨h1, h2⟩ := h
  rcases h2 with h2 | ⟨g, cap, cur, hv, hb, hh, r⟩
  · exact ⟨h1, .inl h2⟩
  · exact ⟨h1, .inr ⟨g, cap, cur, hv, hb, by rw [hs g (by rw [hv]; rfl)]; exact hh, r⟩⟩

variable {eB eM : TypeId} {mv : Int → Value} {C : World → Kept → Prop} {a : Nat} {L L' : Nat → Nat} {base : Nat} {vB vM : Value} {A M : List Kept} {w w' : World}

/- what is not of the family may turn -/
theorem Fam.touch {S : Nat → Prop} (h : Fam eB eM mv C a L base vB vM A M w) (hC : Local C) (t : Touch S w w') (hS : ∀ k, k < w.heap.size → S k → L k ≤ a ∨ a + 3 < L k) : Fam eB eM mv C a L base vB vM A M w' := by
  have same : ∀ b, b < w.heap.size → (L b = a + 1 ∨ L b = a + 2 ∨ L b = a + 3) → w'.heap[b]? = w.heap[b]? := fun b hb hl => t.block b hb (fun hs => by have := hS b hb hs; omega)
  refine ⟨own_same h.own fun b e => same b (h.own.lt b e).2 (.inl (h.lab b e)), h.lab, own_same h.ownM fun b e => same b (h.ownM.lt b e).2 (.inr (.inl (h.labM b e))), h.labM, ?_⟩
  intro k hk
  obtain ⟨h1, h2⟩ := h.kept k hk
  refine ⟨fun b e => ⟨(h1 b e).1, (h1 b e).2.1, Nat.lt_of_lt_of_le (h1 b e).2.2 t.size⟩, hC w w' k (fun b e => same b (h1 b e).2.2 (.inr (.inr (h1 b e).1))) h2⟩

/- .. and a list of the family's kind that is not held -/
theorem Fam.touch' {S : Nat → Prop} (h : Fam eB eM mv C a L base vB vM A M w) (hC : Local C) (t : Touch S w w') (hS : ∀ k, k < w.heap.size → S k → (L k ≠ a + 1 ∧ L k ≠ a + 2) ∧ ∀ e ∈ A, e.v.ownBlock ≠ some k) : Fam eB eM mv C a L base vB vM A M w' := by
  refine ⟨own_same h.own fun b e => t.block b (h.own.lt b e).2 (fun hs => (hS b (h.own.lt b e).2 hs).1.1 (h.lab b e)), h.lab, own_same h.ownM fun b e => t.block b (h.ownM.lt b e).2 (fun hs => (hS b (h.ownM.lt b e).2 hs).1.2 (h.labM b e)), h.labM, ?_⟩
  intro k hk
  obtain ⟨h1, h2⟩ := h.kept k hk
  exact ⟨fun b e => ⟨(h1 b e).1, (h1 b e).2.1, Nat.lt_of_lt_of_le (h1 b e).2.2 t.size⟩, hC w w' k (fun b e => t.block b (h1 b e).2.2 (fun hs => (hS b (h1 b e).2.2 hs).2 k hk e)) h2⟩

/- blocks that are not there yet may be told anew whose they are -/
theorem Fam.relabel (h : Fam eB eM mv C a L base vB vM A M w) (hL : ∀ k, k < w.heap.size → L' k = L k) : Fam eB eM mv C a L' base vB vM A M w :=
  ⟨h.own, fun b e => by rw [hL b (h.own.lt b e).2]; exact h.lab b e, h.ownM, fun b e => by rw [hL b (h.ownM.lt b e).2]; exact h.labM b e,
    fun k hk => ⟨fun b e => by rw [hL b ((h.kept k hk).1 b e).2.2]; exact (h.kept k hk).1 b e, (h.kept k hk).2⟩⟩

/- one list more is held: behind 'append' (o: the block of the one element; g: where it lies now) -/
theorem Fam.more {w1 : World} {o : Obj} {g cap : Nat} {k0 : Kept} (h : Fam eB eM mv C a L base vB vM A M w) (hC : Local C)
    (hk0 : (∀ b, k0.v.ownBlock = some b → L b = a + 3 ∧ base ≤ b ∧ b < w.heap.size) ∧ C w k0)
    (hown : w1.ownsRow base eB 1 (.slice (some ⟨g, 0, none⟩) (A.length + 1) cap) (A.length + 1) (A.map Kept.v ++ [k0.v])) (hg : (w.alloc o).grownBy w1 vB.ownBlock) (hat : vB.ownBlock = some g ∨ g = w.heap.size + 1) :
    ∃ L', (∀ k, k < w.heap.size → L' k = L k) ∧ Fam eB eM mv C a L' base (.slice (some ⟨g, 0, none⟩) (A.length + 1) cap) vM (A ++ [k0]) M w1 ∧ Touch (fun k => L k = a + 1) w w1 := by
  have t : Touch (fun k => L k = a + 1) w w1 := Touch.ofGrown (grown_alloc hg) (fun k e => .inl (h.lab k e))
  have hs : w.heap.size < w1.heap.size := by have := hg.size; simp at this; omega
  refine ⟨fun k => if k < w.heap.size then L k else a + 1, fun k hk => by simp [hk], ?_, t⟩
  have same : ∀ b, b < w.heap.size → (L b = a + 2 ∨ L b = a + 3) → w1.heap[b]? = w.heap[b]? := fun b hb hl => t.block b hb (fun hs => by omega)
  refine ⟨by simpa using hown, ?_, own_same h.ownM fun b e => same b (h.ownM.lt b e).2 (.inl (h.labM b e)), fun b e => by simp only [(h.ownM.lt b e).2, if_true]; exact h.labM b e, ?_⟩
  · intro b e
    simp [Value.ownBlock] at e
    subst e
    rcases hat with hat | hat
    · simp only [(h.own.lt g hat).2, if_true]; exact h.lab g hat
    · rw [if_neg (by omega)]
  · intro k hk
    have hkk : (∀ b, k.v.ownBlock = some b → L b = a + 3 ∧ base ≤ b ∧ b < w.heap.size) ∧ C w k := by
      rcases List.mem_append.1 hk with hk | hk
      · exact h.kept k hk
      · simp at hk; subst hk; exact hk0
    refine ⟨fun b e => ?_, hC w w1 k (fun b e => same b (hkk.1 b e).2.2 (.inr (hkk.1 b e).1)) hkk.2⟩
    have := hkk.1 b e
    exact ⟨by simp only [this.2.2, if_true]; exact this.1, this.2.1, by omega⟩

/- one mark more -/
theorem Fam.moreM {w1 : World} {o : Obj} {g cap : Nat} {k0 : Kept} (h : Fam eB eM mv C a L base vB vM A M w) (hC : Local C)
    (hown : w1.ownsRow base eM 1 (.slice (some ⟨g, 0, none⟩) (M.length + 1) cap) (M.length + 1) ((M.map fun k => mv k.mark) ++ [mv k0.mark])) (hg : (w.alloc o).grownBy w1 vM.ownBlock) (hat : vM.ownBlock = some g ∨ g = w.heap.size + 1) :
    ∃ L', (∀ k, k < w.heap.size → L' k = L k) ∧ Fam eB eM mv C a L' base vB (.slice (some ⟨g, 0, none⟩) (M.length + 1) cap) A (M ++ [k0]) w1 ∧ Touch (fun k => L k = a + 2) w w1 := by
  have t : Touch (fun k => L k = a + 2) w w1 := Touch.ofGrown (grown_alloc hg) (fun k e => .inl (h.labM k e))
  have hs : w.heap.size < w1.heap.size := by have := hg.size; simp at this; omega
  refine ⟨fun k => if k < w.heap.size then L k else a + 2, fun k hk => by simp [hk], ?_, t⟩
  have same : ∀ b, b < w.heap.size → (L b = a + 1 ∨ L b = a + 3) → w1.heap[b]? = w.heap[b]? := fun b hb hl => t.block b hb (fun hs => by omega)
  refine ⟨own_same h.own fun b e => same b (h.own.lt b e).2 (.inl (h.lab b e)), fun b e => by simp only [(h.own.lt b e).2, if_true]; exact h.lab b e, by simpa using hown, ?_, ?_⟩
  · intro b e
    simp [Value.ownBlock] at e
    subst e
    rcases hat with hat | hat
    · simp only [(h.ownM.lt g hat).2, if_true]; exact h.labM g hat
    · rw [if_neg (by omega)]
  · intro k hk
    obtain ⟨h1, h2⟩ := h.kept k hk
    refine ⟨fun b e => ?_, hC w w1 k (fun b e => same b (h1 b e).2.2 (.inr (h1 b e).1)) h2⟩
    have := h1 b e
    exact ⟨by simp only [this.2.2, if_true]; exact this.1, this.2.1, by omega⟩
end Go.Proofs.YtnjlbgolnbdkaaaGreat
