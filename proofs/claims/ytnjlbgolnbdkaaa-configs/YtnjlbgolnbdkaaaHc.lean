/- The hands: back. -/
import Derived.Test.YtnjlbgolnbdkaaaHb
namespace Go.Proofs.Ytnjlbgolnbdkaaa
open Go.RowKit

def strOf (zs : List Int) : ByteArray := zs.foldl (fun r n => r.push (UInt8.ofNat n.toNat)) ByteArray.empty

theorem conv_any (w : World) (ao : Option Addr) (n cap : Nat) (zs : List Int) (h : Held w ao n cap zs) : (convert 24 9 (.slice ao n cap)).run Try.prog w = .ok (.string (strOf zs)) w := by
  rw [run_convert_bytes_string w 24 9 5 ao n cap Try.underlying24 Try.underlying5 Try.underlying9]
  cases ao with
  | none =>
    have hc := h.none rfl
    have hn : n = 0 := by have := h.cap1; omega
    have hz : zs = [] := List.eq_nil_of_length_eq_zero (by rw [h.len, hn])
    subst hz
    unfold Conv.bytesToString
    simp [Sem.run_pure, strOf]
  | some ad =>
    refine run_bytesToString w ad n cap zs ?_
    have := run_loadCells_list (P := Try.prog) (w := w) ad (vals zs) (h.cells ad rfl)
    rw [vals_length, h.len] at this
    exact this

theorem Held.drewN {w : World} {ao : Option Addr} {n cap : Nat} {zs : List Int} (h : Held w ao n cap zs) (k : Nat) : Held (w.drewN k) ao n cap zs := ⟨h.len, h.cap1, h.cap2, h.bytes, h.none, h.cells, h.lt⟩

set_option maxRecDepth 100000 in
set_option maxHeartbeats 1000000 in
theorem back_any (hb x a1 c1 a2 c2 : Nat) (n0 : Int) (vs : Nat → Value) (ao : Option Addr) (n cap : Nat) (zs : List Int) (w : World)
    (hB : w.heap[hb]? = some (.cells (handCells (.slice (some ⟨a1, 0, none⟩) 1 c1) (.slice (some ⟨a2, 0, none⟩) 1 c2) n0 vs) 41 (0, 0))) (hz : Held w ao n cap zs)
    (hX : w.heap[x]? = some (.cells (vals (zs ++ [165, 165])).toArray 5 (0, 0))) (ca1 : w.cell? ⟨a1, 0, none⟩ = some (.slice (some ⟨x, 0, none⟩) (n + 2) (n + 2))) (ca2 : w.cell? ⟨a2, 0, none⟩ = some (.slice ao n cap)) (hxb : x ≠ hb) (hn : n ≤ 140737488351232) :
    Calls Try.prog 17 #[.pointer (some ⟨hb, 0, none⟩)] w fun e w' => e = .returned (.bool true) ∧ w'.heap[hb]? = some (.cells (handCells (.slice none 0 0) (.slice none 0 0) n0 vs) 41 (0, 0)) ∧ Touch (fun k => k = hb ∨ k = x) w w' := by
  have hn1 : (n : Int) ≤ 140737488351232 := by omega
  have hn0 : (0 : Int) ≤ (n : Int) := by omega
  have hlen := hz.len
  have HX := hide hX
  have HB := hide hB
  have hl : n < (zs ++ [165, 165] : List Int).length ∧ n + 1 < (zs ++ [165, 165] : List Int).length := by simp [hlen]
  have HXR : Hid (Held w (some ⟨x, 0, none⟩) n (n + 2) zs) := by
    refine ⟨hlen, by omega, by omega, hz.bytes, fun h => by simp at h, ?_, ?_⟩
    · intro ad e j u hu
      obtain rfl : ad = ⟨x, 0, none⟩ := by simpa using e.symm
      refine World.news_of_block HX.out j u ?_
      have hj : j < (vals zs).length := (List.getElem?_eq_some_iff.1 hu).1
      simp only [vals_append]
      rw [List.getElem?_append_left hj]
      exact hu
    · intro ad e _
      obtain rfl : ad = ⟨x, 0, none⟩ := by simpa using e.symm
      rcases Nat.lt_or_ge x w.heap.size with h | h
      · exact h
      · exact absurd HX.out (by rw [Array.getElem?_eq_none h]; simp)
  have cv1 : ∀ nq, (convert 24 9 (.slice (some ⟨x, 0, none⟩) n (n + 2))).run Try.prog (w.drewN nq) = .ok (.string (strOf zs)) (w.drewN nq) := fun nq => conv_any _ _ _ _ _ (HXR.out.drewN nq)
  have cv2 : ∀ nq, (convert 24 9 (.slice ao n cap)).run Try.prog (w.drewN nq) = .ok (.string (strOf zs)) (w.drewN nq) := fun nq => conv_any _ _ _ _ _ (hz.drewN nq)
  have cx0 : w.cell? ⟨x, n, none⟩ = some (.int .u8 165) := by
    rw [cell_of_row _ _ _ _ _ _ HX.out]
    simp [vals, ← hlen]
  have cx1 : w.cell? ⟨x, n + 1, none⟩ = some (.int .u8 165) := by
    rw [cell_of_row _ _ _ _ _ _ HX.out]
    simp [vals, ← hlen]
  have c0 : w.cell? ⟨hb, 0, none⟩ = some (.slice (some ⟨a1, 0, none⟩) 1 c1) := by rw [cell_of_row _ _ _ _ _ _ HB.out]; rfl
  have c1' : w.cell? ⟨hb, 1, none⟩ = some (.slice (some ⟨a2, 0, none⟩) 1 c2) := by rw [cell_of_row _ _ _ _ _ _ HB.out]; rfl
  have HC := hide (And.intro c0 (And.intro c1' (And.intro ca1 (And.intro ca2 (And.intro cx0 (And.intro cx1 (And.intro cv1 cv2)))))))
  have HL := hide hlen
  generalize strOf zs = S at cv1 cv2 HC
  clear hB hX hz hlen c0 c1' ca1 ca2 cx0 cx1 cv1 cv2 hl
  go_enter Try.func17, Try.ntmps17
  go_wp2
  go_loopw [3, 4] (fun t i wr => t = .bool true ∧ ((i = .int .i64 0 ∧ wr = w) ∨ (i = .int .i64 1 ∧ wr.heap[hb]? = some (.cells (handCells (.slice (some ⟨a1, 0, none⟩) 1 c1) (.slice (some ⟨a2, 0, none⟩) 1 c2) n0 vs) 41 (0, 0)) ∧ Touch (fun k => k = hb ∨ k = x) w wr)))
    (fun _ i _ => 1 - (intOf i).toNat)
  case atStart => exact ⟨rfl, .inl ⟨rfl, rfl⟩⟩
  case round =>
    obtain ⟨rfl, ⟨rfl, hw⟩ | ⟨rfl, hB1, hT⟩⟩ := hrel
    · have hw' := hw.symm
      subst hw'
      clear hw
      obtain ⟨c0, c1', ca1, ca2, cx0, cx1, cv1, cv2⟩ := HC.out
      go_wp2
      go_quiet (fail)
      clear c0 c1' ca1 ca2 cx0 cx1 cv1 cv2 HC
      go_wp2
      go_loopw [7] (fun i wq => ∃ (k : Nat) (cur : Array Value), k ≤ n + 2 ∧ i = .int .i64 k ∧ cur.size = n + 2 ∧ wq.heap[x]? = some (.cells cur 5 (0, 0)) ∧ Touch (· = x) w wq) (fun i _ => n + 2 - (intOf i).toNat)
      case atStart => exact ⟨0, _, by omega, rfl, by simp [vals_length, HL.out], HX.out, Touch.ofDrewN w nq⟩
      case round =>
        obtain ⟨k, cur, hk, rfl, hcs, hxq, hT⟩ := hrel
        have HT := hide hT
        clear hT
        by_cases hlt : k < n + 2
        · have cc : wr.cell? ⟨x, k, none⟩ = some (cur[k]'(by omega)) := by rw [cell_of_row _ _ _ _ _ _ hxq]; simp [hcs, hlt]
          have ff := free_of_block hxq k
          have HQ := hide hxq
          clear hxq
          go_wp2
          go_roundw
          case rel => exact ⟨k + 1, _, by omega, by go_num, by simp [hcs], block_set HQ.out k _, Touch.trans (T := (· = x)) HT.out (Touch.ofSet wr x k _ rfl) (fun i hi => .inl hi)⟩
          case measure => simp [intOf]; omega
        · have HF : Hid (wr.heap[hb]? = some (.cells (handCells (.slice (some ⟨a1, 0, none⟩) 1 c1) (.slice (some ⟨a2, 0, none⟩) 1 c2) n0 vs) 41 (0, 0))) := (HT.out.block hb (lt_of_block HB.out) (fun h => hxb h.symm)).trans HB.out
          clear hxq
          go_wp2
          go_roundw
          case rel => exact ⟨rfl, .inr ⟨rfl, HF.out, HT.out.mono (fun k hk => .inr hk)⟩⟩
          case measure => simp [intOf]
    · have d0 : wr.cell? ⟨hb, 0, none⟩ = some (.slice (some ⟨a1, 0, none⟩) 1 c1) := by rw [cell_of_row _ _ _ _ _ _ hB1]; rfl
      have d1 : wr.cell? ⟨hb, 1, none⟩ = some (.slice (some ⟨a2, 0, none⟩) 1 c2) := by rw [cell_of_row _ _ _ _ _ _ hB1]; rfl
      have g0 := free_of_block hB1 0
      have g1 := free_of_block hB1 1
      have HB1 := hide hB1
      have HT := hide hT
      clear hB1 hT HC
      go_wp2
      go_ret
      exact ⟨rfl, block_set (block_set HB1.out 0 _) 1 _, Touch.trans (T := (· = hb)) (Touch.trans (T := (· = hb)) HT.out (Touch.ofSet wr hb 0 _ rfl) (fun i hi => .inl (.inl hi))) (Touch.ofSet _ hb 1 _ rfl) (fun i hi => .inl (.inl hi))⟩
end Go.Proofs.Ytnjlbgolnbdkaaa
