/- The hands: holds. -/
import Derived.Test.YtnjlbgolnbdkaaaHe
namespace Go.Proofs.Ytnjlbgolnbdkaaa
open Go.RowKit

set_option maxRecDepth 100000 in
set_option maxHeartbeats 2000000 in
theorem configs_nil (hb : Nat) (w : World) (c11 : w.cell? ⟨hb, 11, none⟩ = some (.slice none 0 0)) (c13 : w.cell? ⟨hb, 13, none⟩ = some (.slice none 0 0)) (c15 : w.cell? ⟨hb, 15, none⟩ = some (.slice none 0 0))
    (c17 : w.cell? ⟨hb, 17, none⟩ = some (.slice none 0 0)) (c19 : w.cell? ⟨hb, 19, none⟩ = some (.slice none 0 0)) :
    Calls Try.prog 35 #[.pointer (some ⟨hb, 0, none⟩)] w fun e w' => e = .returned (.bool true) ∧ w' = w := by
  go_enter Try.func35, Try.ntmps35
  go_wp2
  go_loop [3, 4] (fun t i => t = .bool true ∧ i = .int .i64 0) (fun _ _ => 0)
  case atStart => exact ⟨rfl, rfl⟩
  case round =>
    obtain ⟨rfl, rfl⟩ := hrel
    go_wp2
    go_loop [3, 6] (fun t i => t = .bool true ∧ i = .int .i64 0) (fun _ _ => 0)
    case atStart => exact ⟨rfl, rfl⟩
    case round =>
      obtain ⟨rfl, rfl⟩ := hrel
      go_wp2
      go_loop [3, 8] (fun t i => t = .bool true ∧ i = .int .i64 0) (fun _ _ => 0)
      case atStart => exact ⟨rfl, rfl⟩
      case round =>
        obtain ⟨rfl, rfl⟩ := hrel
        go_wp2
        go_loop [3, 10] (fun t i => t = .bool true ∧ i = .int .i64 0) (fun _ _ => 0)
        case atStart => exact ⟨rfl, rfl⟩
        case round =>
          obtain ⟨rfl, rfl⟩ := hrel
          go_wp2
          go_loop [3, 12] (fun t i => t = .bool true ∧ i = .int .i64 0) (fun _ _ => 0)
          case atStart => exact ⟨rfl, rfl⟩
          case round =>
            obtain ⟨rfl, rfl⟩ := hrel
            go_wp2
            go_ret
            exact ⟨rfl, rfl⟩

theorem own_at {w : World} {base g cap : Nat} {e : TypeId} {n : Nat} {xs : List Value} (h : w.ownsRow base e 1 (.slice (some ⟨g, 0, none⟩) n cap) n xs) (k : Nat) (u : Value) (hk : xs[k]? = some u) : w.cell? ⟨g, k, none⟩ = some u := by
  have := h.cells (g := g) rfl k u hk
  have e : (⟨g, 0, none⟩ : Addr).add k = ⟨g, k, none⟩ := by unfold Addr.add; split <;> simp_all
  rw [← e]
  exact this

set_option maxRecDepth 100000 in
set_option maxHeartbeats 2000000 in
theorem holds_bytes (hb : Nat) (n : Int) (vs : Nat → Value) (L : Nat → Nat) (base : Nat) (A : List Kept) (w : World)
    (hB : w.heap[hb]? = some (.cells (handCells (.slice none 0 0) (.slice none 0 0) n vs) 41 (0, 0))) (hF : Fam 24 5 (Value.int .u8) ByteC 0 L base (vs 3) (vs 4) A A w) (hA0 : 0 < A.length) (hA : A.length ≤ 1000)
    (hv : ∀ i, 5 ≤ i → vs i = .slice none 0 0) :
    Calls Try.prog 20 #[.pointer (some ⟨hb, 0, none⟩)] w fun e w' => e = .returned (.bool true) ∧ ∃ q, w' = w.drewN q := by
  obtain ⟨gB, cB, hvB, _, _⟩ := hF.own.form hA0
  obtain ⟨gM, cM, hvM, _, _⟩ := hF.ownM.form hA0
  have c3 : w.cell? ⟨hb, 3, none⟩ = some (.slice (some ⟨gB, 0, none⟩) A.length cB) := by rw [cell_of_row _ _ _ _ _ _ hB, ← hvB]; rfl
  have c4 : w.cell? ⟨hb, 4, none⟩ = some (.slice (some ⟨gM, 0, none⟩) A.length cM) := by rw [cell_of_row _ _ _ _ _ _ hB, ← hvM]; rfl
  have cn : ∀ i, 5 ≤ i → i ≤ 20 → w.cell? ⟨hb, i, none⟩ = some (.slice none 0 0) := by
    intro i h5 h20
    rw [cell_of_row _ _ _ _ _ _ hB, ← hv i h5]
    rcases (show i = 5 ∨ i = 6 ∨ i = 7 ∨ i = 8 ∨ i = 9 ∨ i = 10 ∨ i = 11 ∨ i = 12 ∨ i = 13 ∨ i = 14 ∨ i = 15 ∨ i = 16 ∨ i = 17 ∨ i = 18 ∨ i = 19 ∨ i = 20 from by omega) with rfl | rfl | rfl | rfl | rfl | rfl | rfl | rfl | rfl | rfl | rfl | rfl | rfl | rfl | rfl | rfl <;> rfl
  have c5 := cn 5 (by omega) (by omega)
  have c7 := cn 7 (by omega) (by omega)
  have c9 := cn 9 (by omega) (by omega)
  have HK : Hid (∀ k, k < A.length → ∃ b nn cc m, nn ≤ 1000000 ∧ w.cell? ⟨gB, k, none⟩ = some (.slice (some ⟨b, 0, none⟩) nn cc) ∧ w.cell? ⟨gM, k, none⟩ = some (.int .u8 m) ∧ ∀ j, j < nn → w.cell? ⟨b, j, none⟩ = some (.int .u8 m)) := by
    intro k hk
    have hown := hF.own
    have hownM := hF.ownM
    rw [hvB] at hown
    rw [hvM] at hownM
    obtain ⟨b, nn, cc, hkv, hnn, _, hr⟩ := (hF.kept _ (List.getElem_mem hk)).2
    refine ⟨b, nn, cc, (A[k]).mark, hnn, ?_, ?_, ?_⟩
    · exact own_at hown k _ (by rw [List.getElem?_map, List.getElem?_eq_getElem hk, ← hkv]; rfl)
    · exact own_at hownM k _ (by rw [List.getElem?_map, List.getElem?_eq_getElem hk]; rfl)
    · intro j hj
      have := hr j (by simpa using hj)
      simpa [hj] using this
  have HC := hide (fun W (h : ∀ i, W.cell? ⟨hb, i, none⟩ = w.cell? ⟨hb, i, none⟩) => configs_nil hb W ((h 11).trans (cn 11 (by omega) (by omega))) ((h 13).trans (cn 13 (by omega) (by omega))) ((h 15).trans (cn 15 (by omega) (by omega))) ((h 17).trans (cn 17 (by omega) (by omega))) ((h 19).trans (cn 19 (by omega) (by omega))))
  clear hB hF hv cn hvB hvM
  generalize A.length = N at *
  go_enter Try.func20, Try.ntmps20
  go_wp2
  go_loopw [3, 4] (fun t i wr => ∃ k q : Nat, k ≤ N ∧ t = .bool true ∧ i = .int .i64 k ∧ wr = w.drewN q) (fun _ i _ => N - (intOf i).toNat)
  case atStart => exact ⟨0, 0, by omega, rfl, rfl, rfl⟩
  case round =>
    obtain ⟨k, q, hk, rfl, rfl, rfl⟩ := hrel
    by_cases hlt : k < N
    · obtain ⟨b, nn, cc, m, hnn, cB1, cM1, hcells⟩ := HK.out k hlt
      have HCE := hide hcells
      clear hcells
      go_wp2
      go_loopw [3, 5] (fun t i wr => ∃ j q : Nat, j ≤ nn ∧ t = .bool true ∧ i = .int .i64 j ∧ wr = w.drewN q) (fun _ i _ => nn - (intOf i).toNat)
      case atStart => exact ⟨0, q, by omega, rfl, rfl, rfl⟩
      case round =>
        obtain ⟨j, q', hj, rfl, rfl, rfl⟩ := hrel
        by_cases hlt2 : j < nn
        · have cj := HCE.out j hlt2
          go_wp2
          go_quiet (fail)
          go_wp2
          go_roundw
          case rel => exact ⟨j + 1, _, by omega, rfl, by go_num, rfl⟩
          case measure => simp [intOf]; omega
        · go_wp2
          go_roundw
          case rel => exact ⟨k + 1, q', by omega, rfl, by go_num, rfl⟩
          case measure => simp [intOf]; omega
    · go_wp2
      go_loop [3, 6] (fun t i => t = .bool true ∧ i = .int .i64 0) (fun _ _ => 0)
      case atStart => exact ⟨rfl, rfl⟩
      case round =>
        obtain ⟨rfl, rfl⟩ := hrel
        go_wp2
        go_loop [3, 8] (fun t i => t = .bool true ∧ i = .int .i64 0) (fun _ _ => 0)
        case atStart => exact ⟨rfl, rfl⟩
        case round =>
          obtain ⟨rfl, rfl⟩ := hrel
          go_wp2
          go_loop [3, 10] (fun t i => t = .bool true ∧ i = .int .i64 0) (fun _ _ => 0)
          case atStart => exact ⟨rfl, rfl⟩
          case round =>
            obtain ⟨rfl, rfl⟩ := hrel
            go_wp2_with fail
            refine (HC.out (w.drewN q) (fun _ => rfl)).mono ?_
            rintro e wz ⟨rfl, rfl⟩
            go_wp2
            go_ret
            exact ⟨rfl, q, rfl⟩
end Go.Proofs.Ytnjlbgolnbdkaaa
