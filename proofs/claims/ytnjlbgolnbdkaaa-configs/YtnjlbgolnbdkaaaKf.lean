/- The hands: configs and holds: all lists that came out still read as they were written. -/
import Derived.Test.YtnjlbgolnbdkaaaKa
import Derived.Test.YtnjlbgolnbdkaaaTa
namespace Go.Proofs.Ytnjlbgolnbdkaaa
open Go.RowKit

/- how a family reads -/
structure FRead (f : Nat) (vB vM : Value) (N : Nat) (w : World) : Prop where
  ex : ∃ aB cB aM cM, vB = .slice aB N cB ∧ vM = .slice aM N cM ∧ ∀ i, i < N → ∃ gB gM ad nn cc m, aB = some ⟨gB, 0, none⟩ ∧ aM = some ⟨gM, 0, none⟩ ∧ nn ≤ 1000000 ∧ w.cell? ⟨gB, i, none⟩ = some (.slice ad nn cc) ∧ w.cell? ⟨gM, i, none⟩ = some (mvK f m) ∧ ∀ j, j < nn → ∃ g, ad = some ⟨g, 0, none⟩ ∧ ∀ o, o < esz f → w.cell? ⟨g, j * esz f + o, none⟩ = (elm f m)[o]?
theorem own_one {w : World} {e : TypeId} {v : Value} {N : Nat} {xs : List Value} (h : w.ownsRow 0 e 1 v N xs) : ∃ ad c, v = .slice ad N c ∧ ∀ i u, xs[i]? = some u → ∃ g, ad = some ⟨g, 0, none⟩ ∧ w.cell? ⟨g, i, none⟩ = some u := by
  rcases h.2 with ⟨h1, h2⟩ | ⟨g, cap, cur, hv, _⟩
  · refine ⟨none, 0, by rw [h1, h2], fun i u hi => ?_⟩
    have h3 := h.1
    rw [h2, Nat.zero_mul] at h3
    rw [List.length_eq_zero_iff.1 h3] at hi
    simp at hi
  · refine ⟨_, _, hv, fun i u hi => ⟨g, rfl, ?_⟩⟩
    subst hv
    have e : (⟨g, 0, none⟩ : Addr).add i = ⟨g, i, none⟩ := by unfold Addr.add; split <;> simp_all
    rw [← e]
    exact h.cells (g := g) rfl i u hi
theorem Hnd.read {L : Nat → Nat} {hb : Nat} {n : Int} {vs : Nat → Value} {A : Nat → List Kept} {w : World} (h : Hnd L hb n vs A A w) (f : Nat) (hf : f < 9) : FRead f (vs (3 + 2 * f)) (vs (4 + 2 * f)) (A f).length w := by
  have hF := h.fam f hf
  obtain ⟨aB, cB, hB, hBr⟩ := own_one hF.own
  obtain ⟨aM, cM, hM, hMr⟩ := own_one hF.ownM
  refine ⟨aB, cB, aM, cM, hB, hM, fun i hi => ?_⟩
  obtain ⟨gB, hgB, hcB⟩ := hBr i (A f)[i].v (by rw [List.getElem?_map, List.getElem?_eq_getElem hi]; rfl)
  obtain ⟨gM, hgM, hcM⟩ := hMr i (mvK f (A f)[i].mark) (by rw [List.getElem?_map, List.getElem?_eq_getElem hi]; rfl)
  obtain ⟨nn, hnn, hown⟩ := (hF.kept _ (List.getElem_mem hi)).2
  obtain ⟨_, ad, cc, hv, hr⟩ := own_read (fun _ : Unit => elm f (A f)[i].mark) (fun _ => elm_length f _) (List.replicate nn ()) (by simp) hown
  refine ⟨gB, gM, ad, nn, cc, (A f)[i].mark, hgB, hgM, hnn, by rw [hcB, hv], hcM, fun j hj => ?_⟩
  exact hr j () (by simp [hj])

set_option maxRecDepth 100000 in
set_option maxHeartbeats 8000000 in
theorem configs_any (L : Nat → Nat) (hb : Nat) (n : Int) (vs : Nat → Value) (A : Nat → List Kept) (w : World) (h : Hnd L hb n vs A A w) (hA : ∀ f, (A f).length ≤ 1000000) :
    Calls Try.prog 35 #[.pointer (some ⟨hb, 0, none⟩)] w fun e w' => e = .returned (.bool true) ∧ ∃ q, w' = w.drewN q := by
  obtain ⟨aB6, cB6, aM6, cM6, hB6, hM6, hR6⟩ := (h.read 6 (by omega)).ex
  have c15 : w.cell? ⟨hb, 15, none⟩ = some (.slice aB6 (A 6).length cB6) := by rw [← hB6]; exact h.cell 15 (by omega) (by omega)
  have c16 : w.cell? ⟨hb, 16, none⟩ = some (.slice aM6 (A 6).length cM6) := by rw [← hM6]; exact h.cell 16 (by omega) (by omega)
  have HR6 := hide hR6
  have hA6 := hA 6
  clear hB6 hM6 hR6
  generalize (A 6).length = N6 at *
  obtain ⟨aB5, cB5, aM5, cM5, hB5, hM5, hR5⟩ := (h.read 5 (by omega)).ex
  have c13 : w.cell? ⟨hb, 13, none⟩ = some (.slice aB5 (A 5).length cB5) := by rw [← hB5]; exact h.cell 13 (by omega) (by omega)
  have c14 : w.cell? ⟨hb, 14, none⟩ = some (.slice aM5 (A 5).length cM5) := by rw [← hM5]; exact h.cell 14 (by omega) (by omega)
  have HR5 := hide hR5
  have hA5 := hA 5
  clear hB5 hM5 hR5
  generalize (A 5).length = N5 at *
  obtain ⟨aB4, cB4, aM4, cM4, hB4, hM4, hR4⟩ := (h.read 4 (by omega)).ex
  have c11 : w.cell? ⟨hb, 11, none⟩ = some (.slice aB4 (A 4).length cB4) := by rw [← hB4]; exact h.cell 11 (by omega) (by omega)
  have c12 : w.cell? ⟨hb, 12, none⟩ = some (.slice aM4 (A 4).length cM4) := by rw [← hM4]; exact h.cell 12 (by omega) (by omega)
  have HR4 := hide hR4
  have hA4 := hA 4
  clear hB4 hM4 hR4
  generalize (A 4).length = N4 at *
  obtain ⟨aB7, cB7, aM7, cM7, hB7, hM7, hR7⟩ := (h.read 7 (by omega)).ex
  have c17 : w.cell? ⟨hb, 17, none⟩ = some (.slice aB7 (A 7).length cB7) := by rw [← hB7]; exact h.cell 17 (by omega) (by omega)
  have c18 : w.cell? ⟨hb, 18, none⟩ = some (.slice aM7 (A 7).length cM7) := by rw [← hM7]; exact h.cell 18 (by omega) (by omega)
  have HR7 := hide hR7
  have hA7 := hA 7
  clear hB7 hM7 hR7
  generalize (A 7).length = N7 at *
  obtain ⟨aB8, cB8, aM8, cM8, hB8, hM8, hR8⟩ := (h.read 8 (by omega)).ex
  have c19 : w.cell? ⟨hb, 19, none⟩ = some (.slice aB8 (A 8).length cB8) := by rw [← hB8]; exact h.cell 19 (by omega) (by omega)
  have c20 : w.cell? ⟨hb, 20, none⟩ = some (.slice aM8 (A 8).length cM8) := by rw [← hM8]; exact h.cell 20 (by omega) (by omega)
  have HR8 := hide hR8
  have hA8 := hA 8
  clear hB8 hM8 hR8
  generalize (A 8).length = N8 at *
  clear h hA
  go_enter Try.func35, Try.ntmps35
  go_wp2
  go_loopw [3, 4] (fun t i wr => ∃ k q : Nat, k ≤ N6 ∧ t = .bool true ∧ i = .int .i64 k ∧ wr = w.drewN q) (fun _ i _ => N6 - (intOf i).toNat)
  case atStart => exact ⟨0, 0, by omega, rfl, rfl, rfl⟩
  case round =>
    obtain ⟨k, q, hk, rfl, rfl, rfl⟩ := hrel
    by_cases hlt : k < N6
    · obtain ⟨gB, gM, ad, nn, cc, m, haB, haM, hnn, cB1, cM1, hcells⟩ := HR6.out k hlt
      have HCE := hide hcells
      simp only [haB] at c15
      simp only [haM] at c16
      have cM2 : w.cell? ⟨gM, k, none⟩ = some (.int .i64 m) := cM1
      clear hcells cM1
      go_wp2
      go_loopw [3, 5] (fun t i wr => ∃ j q : Nat, j ≤ nn ∧ t = .bool true ∧ i = .int .i64 j ∧ wr = w.drewN q) (fun _ i _ => nn - (intOf i).toNat)
      case atStart => exact ⟨0, q, by omega, rfl, rfl, rfl⟩
      case round =>
        obtain ⟨j, q', hj, rfl, rfl, rfl⟩ := hrel
        by_cases hlt2 : j < nn
        · obtain ⟨g, had, hcc⟩ := HCE.out j hlt2
          simp only [had] at cB1
          have x0 : w.cell? ⟨g, j * 2, none⟩ = some (.int .i64 m) := by have := hcc 0 (by decide); simpa [elm, esz] using this
          have x1 : w.cell? ⟨g, j * 2 + 1, none⟩ = some (.int .i64 0) := by have := hcc 1 (by decide); simpa [elm, esz] using this
          clear hcc
          go_wp2
          go_quiet (fail)
          go_wp2
          go_roundw
          case rel => exact ⟨j + 1, _, by omega, rfl, by go_num, rfl⟩
          case measure => simp [intOf]; omega
        · go_wp2
          go_roundw
          case rel => exact ⟨k + 1, q', by omega, rfl, by go_num, rfl⟩
          case measure => simp [intOf]; omega
    · clear HR6
      go_wp2
      go_loopw [3, 6] (fun t i wr => ∃ k q : Nat, k ≤ N5 ∧ t = .bool true ∧ i = .int .i64 k ∧ wr = w.drewN q) (fun _ i _ => N5 - (intOf i).toNat)
      case atStart => exact ⟨0, q, by omega, rfl, rfl, rfl⟩
      case round =>
        obtain ⟨k, q, hk, rfl, rfl, rfl⟩ := hrel
        by_cases hlt : k < N5
        · obtain ⟨gB, gM, ad, nn, cc, m, haB, haM, hnn, cB1, cM1, hcells⟩ := HR5.out k hlt
          have HCE := hide hcells
          simp only [haB] at c13
          simp only [haM] at c14
          have cM2 : w.cell? ⟨gM, k, none⟩ = some (.int .i64 m) := cM1
          clear hcells cM1
          go_wp2
          go_loopw [3, 7] (fun t i wr => ∃ j q : Nat, j ≤ nn ∧ t = .bool true ∧ i = .int .i64 j ∧ wr = w.drewN q) (fun _ i _ => nn - (intOf i).toNat)
          case atStart => exact ⟨0, q, by omega, rfl, rfl, rfl⟩
          case round =>
            obtain ⟨j, q', hj, rfl, rfl, rfl⟩ := hrel
            by_cases hlt2 : j < nn
            · obtain ⟨g, had, hcc⟩ := HCE.out j hlt2
              simp only [had] at cB1
              have x0 : w.cell? ⟨g, j * 2, none⟩ = some (.int .i64 m) := by have := hcc 0 (by decide); simpa [elm, esz] using this
              have x1 : w.cell? ⟨g, j * 2 + 1, none⟩ = some (.slice none 0 0) := by have := hcc 1 (by decide); simpa [elm, esz] using this
              clear hcc
              go_wp2
              go_quiet (fail)
              go_wp2
              go_roundw
              case rel => exact ⟨j + 1, _, by omega, rfl, by go_num, rfl⟩
              case measure => simp [intOf]; omega
            · go_wp2
              go_roundw
              case rel => exact ⟨k + 1, q', by omega, rfl, by go_num, rfl⟩
              case measure => simp [intOf]; omega
        · clear HR5
          go_wp2
          go_loopw [3, 8] (fun t i wr => ∃ k q : Nat, k ≤ N4 ∧ t = .bool true ∧ i = .int .i64 k ∧ wr = w.drewN q) (fun _ i _ => N4 - (intOf i).toNat)
          case atStart => exact ⟨0, q, by omega, rfl, rfl, rfl⟩
          case round =>
            obtain ⟨k, q, hk, rfl, rfl, rfl⟩ := hrel
            by_cases hlt : k < N4
            · obtain ⟨gB, gM, ad, nn, cc, m, haB, haM, hnn, cB1, cM1, hcells⟩ := HR4.out k hlt
              have HCE := hide hcells
              simp only [haB] at c11
              simp only [haM] at c12
              have cM2 : w.cell? ⟨gM, k, none⟩ = some (.int .i64 m) := cM1
              clear hcells cM1
              go_wp2
              go_loopw [3, 9] (fun t i wr => ∃ j q : Nat, j ≤ nn ∧ t = .bool true ∧ i = .int .i64 j ∧ wr = w.drewN q) (fun _ i _ => nn - (intOf i).toNat)
              case atStart => exact ⟨0, q, by omega, rfl, rfl, rfl⟩
              case round =>
                obtain ⟨j, q', hj, rfl, rfl, rfl⟩ := hrel
                by_cases hlt2 : j < nn
                · obtain ⟨g, had, hcc⟩ := HCE.out j hlt2
                  simp only [had] at cB1
                  have x1 : w.cell? ⟨g, j * 10 + 1, none⟩ = some (.int .i64 m) := by have := hcc 1 (by decide); simpa [elm, esz] using this
                  have x9 : w.cell? ⟨g, j * 10 + 9, none⟩ = some (.slice none 0 0) := by have := hcc 9 (by decide); simpa [elm, esz] using this
                  clear hcc
                  go_wp2
                  go_quiet (fail)
                  go_wp2
                  go_roundw
                  case rel => exact ⟨j + 1, _, by omega, rfl, by go_num, rfl⟩
                  case measure => simp [intOf]; omega
                · go_wp2
                  go_roundw
                  case rel => exact ⟨k + 1, q', by omega, rfl, by go_num, rfl⟩
                  case measure => simp [intOf]; omega
            · clear HR4
              go_wp2
              go_loopw [3, 10] (fun t i wr => ∃ k q : Nat, k ≤ N7 ∧ t = .bool true ∧ i = .int .i64 k ∧ wr = w.drewN q) (fun _ i _ => N7 - (intOf i).toNat)
              case atStart => exact ⟨0, q, by omega, rfl, rfl, rfl⟩
              case round =>
                obtain ⟨k, q, hk, rfl, rfl, rfl⟩ := hrel
                by_cases hlt : k < N7
                · obtain ⟨gB, gM, ad, nn, cc, m, haB, haM, hnn, cB1, cM1, hcells⟩ := HR7.out k hlt
                  have HCE := hide hcells
                  simp only [haB] at c17
                  simp only [haM] at c18
                  have cM2 : w.cell? ⟨gM, k, none⟩ = some (.int .i64 m) := cM1
                  clear hcells cM1
                  go_wp2
                  go_loopw [3, 11] (fun t i wr => ∃ j q : Nat, j ≤ nn ∧ t = .bool true ∧ i = .int .i64 j ∧ wr = w.drewN q) (fun _ i _ => nn - (intOf i).toNat)
                  case atStart => exact ⟨0, q, by omega, rfl, rfl, rfl⟩
                  case round =>
                    obtain ⟨j, q', hj, rfl, rfl, rfl⟩ := hrel
                    by_cases hlt2 : j < nn
                    · obtain ⟨g, had, hcc⟩ := HCE.out j hlt2
                      simp only [had] at cB1
                      have x0 : w.cell? ⟨g, j * 3, none⟩ = some (.int .i64 m) := by have := hcc 0 (by decide); simpa [elm, esz] using this
                      have x1 : w.cell? ⟨g, j * 3 + 1, none⟩ = some (.int .i64 0) := by have := hcc 1 (by decide); simpa [elm, esz] using this
                      have x2 : w.cell? ⟨g, j * 3 + 2, none⟩ = some (.int .i64 0) := by have := hcc 2 (by decide); simpa [elm, esz] using this
                      clear hcc
                      go_wp2
                      go_quiet (fail)
                      go_wp2
                      go_roundw
                      case rel => exact ⟨j + 1, _, by omega, rfl, by go_num, rfl⟩
                      case measure => simp [intOf]; omega
                    · go_wp2
                      go_roundw
                      case rel => exact ⟨k + 1, q', by omega, rfl, by go_num, rfl⟩
                      case measure => simp [intOf]; omega
                · clear HR7
                  go_wp2
                  go_loopw [3, 12] (fun t i wr => ∃ k q : Nat, k ≤ N8 ∧ t = .bool true ∧ i = .int .i64 k ∧ wr = w.drewN q) (fun _ i _ => N8 - (intOf i).toNat)
                  case atStart => exact ⟨0, q, by omega, rfl, rfl, rfl⟩
                  case round =>
                    obtain ⟨k, q, hk, rfl, rfl, rfl⟩ := hrel
                    by_cases hlt : k < N8
                    · obtain ⟨gB, gM, ad, nn, cc, m, haB, haM, hnn, cB1, cM1, hcells⟩ := HR8.out k hlt
                      have HCE := hide hcells
                      simp only [haB] at c19
                      simp only [haM] at c20
                      have cM2 : w.cell? ⟨gM, k, none⟩ = some (.int .i64 m) := cM1
                      clear hcells cM1
                      go_wp2
                      go_loopw [3, 13] (fun t i wr => ∃ j q : Nat, j ≤ nn ∧ t = .bool true ∧ i = .int .i64 j ∧ wr = w.drewN q) (fun _ i _ => nn - (intOf i).toNat)
                      case atStart => exact ⟨0, q, by omega, rfl, rfl, rfl⟩
                      case round =>
                        obtain ⟨j, q', hj, rfl, rfl, rfl⟩ := hrel
                        by_cases hlt2 : j < nn
                        · obtain ⟨g, had, hcc⟩ := HCE.out j hlt2
                          simp only [had] at cB1
                          have x0 : w.cell? ⟨g, j * 3, none⟩ = some (.int .i64 m) := by have := hcc 0 (by decide); simpa [elm, esz] using this
                          have x1 : w.cell? ⟨g, j * 3 + 1, none⟩ = some (.int .i64 0) := by have := hcc 1 (by decide); simpa [elm, esz] using this
                          have x2 : w.cell? ⟨g, j * 3 + 2, none⟩ = some (.int .i64 0) := by have := hcc 2 (by decide); simpa [elm, esz] using this
                          clear hcc
                          go_wp2
                          go_quiet (fail)
                          go_wp2
                          go_roundw
                          case rel => exact ⟨j + 1, _, by omega, rfl, by go_num, rfl⟩
                          case measure => simp [intOf]; omega
                        · go_wp2
                          go_roundw
                          case rel => exact ⟨k + 1, q', by omega, rfl, by go_num, rfl⟩
                          case measure => simp [intOf]; omega
                    · clear HR8
                      go_wp2
                      go_ret
                      exact ⟨rfl, q, rfl⟩
end Go.Proofs.Ytnjlbgolnbdkaaa
