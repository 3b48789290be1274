/- The hands: holds. -/
import Derived.Test.YtnjlbgolnbdkaaaKf
namespace Go.Proofs.Ytnjlbgolnbdkaaa
open Go.RowKit

theorem Hnd.drewN {L : Nat → Nat} {hb : Nat} {n : Int} {vs : Nat → Value} {A M : Nat → List Kept} {w : World} (h : Hnd L hb n vs A M w) (q : Nat) : Hnd L hb n vs A M (w.drewN q) := h.touch (S := fun _ => False) (Touch.ofDrewN w q) (fun _ _ hk => hk.elim)
set_option maxRecDepth 100000 in
set_option maxHeartbeats 8000000 in
theorem holds_any (L : Nat → Nat) (hb : Nat) (n : Int) (vs : Nat → Value) (A : Nat → List Kept) (w : World) (h : Hnd L hb n vs A A w) (hA : ∀ f, (A f).length ≤ 1000000) :
    Calls Try.prog 20 #[.pointer (some ⟨hb, 0, none⟩)] w fun e w' => e = .returned (.bool true) ∧ ∃ q, w' = w.drewN q := by
  have HC : Hid (∀ q, Calls Try.prog 35 #[.pointer (some ⟨hb, 0, none⟩)] (w.drewN q) fun e w' => e = .returned (.bool true) ∧ ∃ p, w' = w.drewN p) := fun q => (configs_any L hb n vs A (w.drewN q) (h.drewN q) hA).mono (fun e w' ⟨h1, p, h2⟩ => ⟨h1, _, h2.trans (World.drewN_drewN w q p)⟩)
  obtain ⟨aB0, cB0, aM0, cM0, hB0, hM0, hR0⟩ := (h.read 0 (by omega)).ex
  have c3 : w.cell? ⟨hb, 3, none⟩ = some (.slice aB0 (A 0).length cB0) := by rw [← hB0]; exact h.cell 3 (by omega) (by omega)
  have c4 : w.cell? ⟨hb, 4, none⟩ = some (.slice aM0 (A 0).length cM0) := by rw [← hM0]; exact h.cell 4 (by omega) (by omega)
  have HR0 := hide hR0
  have hA0 := hA 0
  clear hB0 hM0 hR0
  generalize (A 0).length = N0 at *
  obtain ⟨aB1, cB1, aM1, cM1, hB1, hM1, hR1⟩ := (h.read 1 (by omega)).ex
  have c5 : w.cell? ⟨hb, 5, none⟩ = some (.slice aB1 (A 1).length cB1) := by rw [← hB1]; exact h.cell 5 (by omega) (by omega)
  have c6 : w.cell? ⟨hb, 6, none⟩ = some (.slice aM1 (A 1).length cM1) := by rw [← hM1]; exact h.cell 6 (by omega) (by omega)
  have HR1 := hide hR1
  have hA1 := hA 1
  clear hB1 hM1 hR1
  generalize (A 1).length = N1 at *
  obtain ⟨aB2, cB2, aM2, cM2, hB2, hM2, hR2⟩ := (h.read 2 (by omega)).ex
  have c7 : w.cell? ⟨hb, 7, none⟩ = some (.slice aB2 (A 2).length cB2) := by rw [← hB2]; exact h.cell 7 (by omega) (by omega)
  have c8 : w.cell? ⟨hb, 8, none⟩ = some (.slice aM2 (A 2).length cM2) := by rw [← hM2]; exact h.cell 8 (by omega) (by omega)
  have HR2 := hide hR2
  have hA2 := hA 2
  clear hB2 hM2 hR2
  generalize (A 2).length = N2 at *
  obtain ⟨aB3, cB3, aM3, cM3, hB3, hM3, hR3⟩ := (h.read 3 (by omega)).ex
  have c9 : w.cell? ⟨hb, 9, none⟩ = some (.slice aB3 (A 3).length cB3) := by rw [← hB3]; exact h.cell 9 (by omega) (by omega)
  have c10 : w.cell? ⟨hb, 10, none⟩ = some (.slice aM3 (A 3).length cM3) := by rw [← hM3]; exact h.cell 10 (by omega) (by omega)
  have HR3 := hide hR3
  have hA3 := hA 3
  clear hB3 hM3 hR3
  generalize (A 3).length = N3 at *
  clear h hA
  go_enter Try.func20, Try.ntmps20
  go_wp2
  go_loopw [3, 4] (fun t i wr => ∃ k q : Nat, k ≤ N0 ∧ t = .bool true ∧ i = .int .i64 k ∧ wr = w.drewN q) (fun _ i _ => N0 - (intOf i).toNat)
  case atStart => exact ⟨0, 0, by omega, rfl, rfl, rfl⟩
  case round =>
    obtain ⟨k, q, hk, rfl, rfl, rfl⟩ := hrel
    by_cases hlt : k < N0
    · obtain ⟨gB, gM, ad, nn, cc, m, haB, haM, hnn, cB1, cM1, hcells⟩ := HR0.out k hlt
      have HCE := hide hcells
      simp only [haB] at c3
      simp only [haM] at c4
      have cM2 : w.cell? ⟨gM, k, none⟩ = some (.int .u8 m) := cM1
      clear hcells cM1
      go_wp2
      go_loopw [3, 5] (fun t i wr => ∃ j q : Nat, j ≤ nn ∧ t = .bool true ∧ i = .int .i64 j ∧ wr = w.drewN q) (fun _ i _ => nn - (intOf i).toNat)
      case atStart => exact ⟨0, q, by omega, rfl, rfl, rfl⟩
      case round =>
        obtain ⟨j, q', hj, rfl, rfl, rfl⟩ := hrel
        by_cases hlt2 : j < nn
        · obtain ⟨g, had, hcc⟩ := HCE.out j hlt2
          simp only [had] at cB1
          have x0 : w.cell? ⟨g, j, none⟩ = some (.int .u8 m) := by have := hcc 0 (by decide); simpa [elm, esz] using this
          clear hcc
          go_wp2
          go_quiet (fail)
          go_wp2
          go_roundw
          case rel => exact ⟨j + 1, _, by omega, rfl, by go_num, rfl⟩
          case measure => simp [intOf]; omega
        · go_wp2
          go_roundw
          case rel => exact ⟨k + 1, q', by omega, rfl, by go_num, rfl⟩
          case measure => simp [intOf]; omega
    · clear HR0
      go_wp2
      go_loopw [3, 6] (fun t i wr => ∃ k q : Nat, k ≤ N1 ∧ t = .bool true ∧ i = .int .i64 k ∧ wr = w.drewN q) (fun _ i _ => N1 - (intOf i).toNat)
      case atStart => exact ⟨0, q, by omega, rfl, rfl, rfl⟩
      case round =>
        obtain ⟨k, q, hk, rfl, rfl, rfl⟩ := hrel
        by_cases hlt : k < N1
        · obtain ⟨gB, gM, ad, nn, cc, m, haB, haM, hnn, cB1, cM1, hcells⟩ := HR1.out k hlt
          have HCE := hide hcells
          simp only [haB] at c5
          simp only [haM] at c6
          have cM2 : w.cell? ⟨gM, k, none⟩ = some (.int .i64 m) := cM1
          clear hcells cM1
          go_wp2
          go_loopw [3, 7] (fun t i wr => ∃ j q : Nat, j ≤ nn ∧ t = .bool true ∧ i = .int .i64 j ∧ wr = w.drewN q) (fun _ i _ => nn - (intOf i).toNat)
          case atStart => exact ⟨0, q, by omega, rfl, rfl, rfl⟩
          case round =>
            obtain ⟨j, q', hj, rfl, rfl, rfl⟩ := hrel
            by_cases hlt2 : j < nn
            · obtain ⟨g, had, hcc⟩ := HCE.out j hlt2
              simp only [had] at cB1
              have x0 : w.cell? ⟨g, j, none⟩ = some (.int .i64 m) := by have := hcc 0 (by decide); simpa [elm, esz] using this
              clear hcc
              go_wp2
              go_quiet (fail)
              go_wp2
              go_roundw
              case rel => exact ⟨j + 1, _, by omega, rfl, by go_num, rfl⟩
              case measure => simp [intOf]; omega
            · go_wp2
              go_roundw
              case rel => exact ⟨k + 1, q', by omega, rfl, by go_num, rfl⟩
              case measure => simp [intOf]; omega
        · clear HR1
          go_wp2
          go_loopw [3, 8] (fun t i wr => ∃ k q : Nat, k ≤ N2 ∧ t = .bool true ∧ i = .int .i64 k ∧ wr = w.drewN q) (fun _ i _ => N2 - (intOf i).toNat)
          case atStart => exact ⟨0, q, by omega, rfl, rfl, rfl⟩
          case round =>
            obtain ⟨k, q, hk, rfl, rfl, rfl⟩ := hrel
            by_cases hlt : k < N2
            · obtain ⟨gB, gM, ad, nn, cc, m, haB, haM, hnn, cB1, cM1, hcells⟩ := HR2.out k hlt
              have HCE := hide hcells
              simp only [haB] at c7
              simp only [haM] at c8
              have cM2 : w.cell? ⟨gM, k, none⟩ = some (.int .i64 m) := cM1
              clear hcells cM1
              go_wp2
              go_loopw [3, 9] (fun t i wr => ∃ j q : Nat, j ≤ nn ∧ t = .bool true ∧ i = .int .i64 j ∧ wr = w.drewN q) (fun _ i _ => nn - (intOf i).toNat)
              case atStart => exact ⟨0, q, by omega, rfl, rfl, rfl⟩
              case round =>
                obtain ⟨j, q', hj, rfl, rfl, rfl⟩ := hrel
                by_cases hlt2 : j < nn
                · obtain ⟨g, had, hcc⟩ := HCE.out j hlt2
                  simp only [had] at cB1
                  have x0 : w.cell? ⟨g, j * 5, none⟩ = some (.int .i64 m) := by have := hcc 0 (by decide); simpa [elm, esz] using this
                  have x1 : w.cell? ⟨g, j * 5 + 1, none⟩ = some (.int .i64 0) := by have := hcc 1 (by decide); simpa [elm, esz] using this
                  have x2 : w.cell? ⟨g, j * 5 + 2, none⟩ = some (.int .i64 0) := by have := hcc 2 (by decide); simpa [elm, esz] using this
                  have x3 : w.cell? ⟨g, j * 5 + 3, none⟩ = some (.int .i64 0) := by have := hcc 3 (by decide); simpa [elm, esz] using this
                  have x4 : w.cell? ⟨g, j * 5 + 4, none⟩ = some (.int .i64 0) := by have := hcc 4 (by decide); simpa [elm, esz] using this
                  clear hcc
                  go_wp2
                  go_quiet (fail)
                  go_wp2
                  go_roundw
                  case rel => exact ⟨j + 1, _, by omega, rfl, by go_num, rfl⟩
                  case measure => simp [intOf]; omega
                · go_wp2
                  go_roundw
                  case rel => exact ⟨k + 1, q', by omega, rfl, by go_num, rfl⟩
                  case measure => simp [intOf]; omega
            · clear HR2
              go_wp2
              go_loopw [3, 10] (fun t i wr => ∃ k q : Nat, k ≤ N3 ∧ t = .bool true ∧ i = .int .i64 k ∧ wr = w.drewN q) (fun _ i _ => N3 - (intOf i).toNat)
              case atStart => exact ⟨0, q, by omega, rfl, rfl, rfl⟩
              case round =>
                obtain ⟨k, q, hk, rfl, rfl, rfl⟩ := hrel
                by_cases hlt : k < N3
                · obtain ⟨gB, gM, ad, nn, cc, m, haB, haM, hnn, cB1, cM1, hcells⟩ := HR3.out k hlt
                  have HCE := hide hcells
                  simp only [haB] at c9
                  simp only [haM] at c10
                  have cM2 : w.cell? ⟨gM, k, none⟩ = some (.int .i64 m) := cM1
                  clear hcells cM1
                  go_wp2
                  go_loopw [3, 11] (fun t i wr => ∃ j q : Nat, j ≤ nn ∧ t = .bool true ∧ i = .int .i64 j ∧ wr = w.drewN q) (fun _ i _ => nn - (intOf i).toNat)
                  case atStart => exact ⟨0, q, by omega, rfl, rfl, rfl⟩
                  case round =>
                    obtain ⟨j, q', hj, rfl, rfl, rfl⟩ := hrel
                    by_cases hlt2 : j < nn
                    · obtain ⟨g, had, hcc⟩ := HCE.out j hlt2
                      simp only [had] at cB1
                      have x0 : w.cell? ⟨g, j * 3, none⟩ = some (.int .i64 0) := by have := hcc 0 (by decide); simpa [elm, esz] using this
                      have x1 : w.cell? ⟨g, j * 3 + 1, none⟩ = some (.int .i64 m) := by have := hcc 1 (by decide); simpa [elm, esz] using this
                      have x2 : w.cell? ⟨g, j * 3 + 2, none⟩ = some (.bool false) := by have := hcc 2 (by decide); simpa [elm, esz] using this
                      clear hcc
                      go_wp2
                      go_quiet (fail)
                      go_wp2
                      go_roundw
                      case rel => exact ⟨j + 1, _, by omega, rfl, by go_num, rfl⟩
                      case measure => simp [intOf]; omega
                    · go_wp2
                      go_roundw
                      case rel => exact ⟨k + 1, q', by omega, rfl, by go_num, rfl⟩
                      case measure => simp [intOf]; omega
                · clear HR3
                  go_wp2_with fail
                  refine (HC.out q).mono ?_
                  rintro e wz ⟨rfl, p, rfl⟩
                  go_wp2
                  go_ret
                  exact ⟨rfl, p, rfl⟩
end Go.Proofs.Ytnjlbgolnbdkaaa
