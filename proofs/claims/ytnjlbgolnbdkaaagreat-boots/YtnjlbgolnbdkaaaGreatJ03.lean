/- Texts of the proof of Boots, one behind the other. -/
import Derived.Test.YtnjlbgolnbdkaaaGreatJ02
/- The document's own answer: sort and Sort: the same kinds and records as the program's. -/
namespace Go.Proofs.YtnjlbgolnbdkaaaGreat
open Go.RowKit

theorem blank_take (zs : List Int) (k : Nat) (h : k < zs.length) : blankB (zs.take (k + 1)) = (blankB (zs.take k) && (zs.getD k 0 == 255)) := by
  rw [take_snoc zs k h]
  unfold blankB
  rw [List.all_append]
  simp

def zeros : Obj := .cells #[.int .i64 0, .int .i64 0, .int .i64 0, .int .i64 0, .int .i64 0] 52
theorem Row.setCell {w : World} {b off g : Nat} {zs : List Int} (hr : Row w b off zs) (hne : b ≠ g) (o : Nat) (v : Value) : Row (w.setCell ⟨g, o, none⟩ v) b off zs := fun i hi => (World.cell?_of_block (Below.heap_setCell w ⟨g, o, none⟩ v b hne)).trans (hr i hi)
theorem tuple2_eq {k1 k2 : Int} {r1 r2 : Nat → Int} (hk : k1 = k2) (hr : r1 = r2) : Ending.returned (.tuple #[.int .i64 k1, aggOf r1]) = .returned (.tuple #[.int .i64 k2, aggOf r2]) := by rw [hk, hr]

set_option maxHeartbeats 2000000 in
theorem rsort_any (b off cap : Nat) (zs : List Int) (w : World) (hl : zs.length = 16) (hz : Bytes zs) (hr : Row w b off zs) (hcap : 16 ≤ cap) (hc2 : cap ≤ 9223372036854775807) :
    Calls Tryz.prog 202 #[.slice (some ⟨b, off, none⟩) 16 cap] w fun e w' => e = .returned (.tuple #[.int .i64 (sortKind zs), aggOf (sortRec zs)]) ∧ Below w.heap.size w w' := by
  have HR : Hid (Row w b off zs) := hr
  have hnone : Hid (sortKind zs ≠ 3 → (fun _ => 0) = sortRec zs) := fun h => by funext i; simp [sortRec, h]
  clear hr
  go_enter Tryz.func202, Tryz.ntmps202
  go_wp2
  go_loop [4, 5] (fun t i => ∃ k : Nat, k ≤ 16 ∧ i = .int .i64 k ∧ t = .bool (blankB (zs.take k))) (fun _ i => 16 - (intOf i).toNat)
  case atStart => exact ⟨0, by omega, rfl, rfl⟩
  case round =>
    obtain ⟨k, hk, rfl, rfl⟩ := hrel
    by_cases hlt : k < 16
    · have hc := (HR.out.alloc zeros) k (by omega)
      simp only [zeros] at hc
      have HS := hide (blank_take zs k (by omega))
      have hzb := hz.getD k
      generalize zs.getD k 0 = z at hc HS hzb
      generalize hbb : blankB (zs.take k) = bb at HS ⊢
      clear hbb
      cases bb
      · go_wp2
        go_round
        case rel => exact ⟨k + 1, by omega, by go_num, by rw [HS.out]; rfl⟩
        case measure => simp [intOf]; omega
      · go_wp2
        go_round
        case rel => exact ⟨k + 1, by omega, by go_num, by rw [HS.out]; rfl⟩
        case measure => simp [intOf]; omega
    · obtain rfl : k = 16 := by omega
      have ht : zs.take 16 = zs := List.take_of_length_le (by omega)
      rw [ht]
      have hc := (HR.out.alloc zeros) 0 (by omega)
      simp only [zeros, Nat.add_zero] at hc
      by_cases h1 : blankB zs = true
      · have HK : Hid (sortKind zs = 0) := by show _ = _; simp [sortKind, h1]
        have HB := hide h1
        clear h1 ht
        rw [HB.out]
        go_wp2
        refine bodyPost_ret (v := .tuple #[.int .i64 0, aggOf fun _ => 0]) (by simp [results, Tryz.results202, go_sem, aggOf]) rfl ⟨tuple2_eq HK.out.symm (hnone.out (by rw [HK.out]; omega)), ?_⟩
        exact (Below.refl _ _).alloc (Nat.le_refl _) _
      · have h1' : blankB zs = false := by simpa using h1
        clear h1
        rw [h1']
        by_cases h2 : zs.getD 0 0 = 0
        · rw [h2] at hc
          have k1 : (12 : Int) ≤ (cap : Int) := by omega
          have k2 : (16 : Int) ≤ (cap : Int) := by omega
          have k3 : ¬ cap = 12 := by omega
          have k4 : ¬ cap = 1 := by omega
          have k5 : (8 : Int) ≤ (cap : Int) := by omega
          have k6 : ¬ cap = 4 := by omega
          have k7 : ¬ cap = 8 := by omega
          have HRA : Hid (Row (w.alloc zeros) b off zs) := HR.out.alloc zeros
          have HN : Hid (∀ i, i + 4 ≤ 16 → ∀ W c, Row W b off zs → Calls Tryz.prog 135 #[.slice (some ⟨b, off + i, none⟩) 4 c] W fun e w' => e = .returned (.int .i64 (numFrom 0 ((zs.drop i).take 4) : Nat)) ∧ ∃ n, w' = W.drewN n) := fun i hi W c h => rnumber_piece b off i c zs W hz h (by omega)
          have HC : Hid (∀ W c, Row W b off zs → Calls Tryz.prog 136 #[.slice (some ⟨b, off + 1, none⟩) 11 c] W fun e w' => e = .returned (.int .i64 (crcOf ((zs.drop 1).take 11) : Nat)) ∧ w' = W) := fun W c h => rcheck_piece b off 1 11 c zs W hz h (by omega) (by omega)
          by_cases h3 : goodB zs = true
          · have HK : Hid (sortKind zs = 3) := by show _ = _; simp only [sortKind, h1', h2, h3]; decide
            have hne : (((crcOf ((zs.drop 1).take 11) : Nat) : Int) != ((numFrom 0 ((zs.drop 12).take 4) : Nat) : Int)) = false := by
              have := beq_iff_eq.1 h3
              simp [this]
            obtain ⟨F, hF⟩ : ∃ F : Nat → Nat, ∀ i, numFrom 0 ((zs.drop i).take 4) = F i := ⟨_, fun _ => rfl⟩
            have HRec : Hid (sortRec zs = fun i => match i with | 0 => zs.getD 1 0 | 1 => zs.getD 2 0 | 2 => zs.getD 3 0 | 3 => (F 4 : Int) | _ => (F 8 : Int)) := by
              show _ = _
              funext i
              simp only [sortRec, HK.out, if_true]
              match i with
              | 0 => rfl
              | 1 => rfl
              | 2 => rfl
              | 3 => show ((numFrom 0 _ : Nat) : Int) = ((F 4 : Nat) : Int); rw [hF]
              | n + 4 => show ((numFrom 0 _ : Nat) : Int) = ((F 8 : Nat) : Int); rw [hF]
            rw [hF] at hne
            have HN' : Hid (∀ i, i + 4 ≤ 16 → ∀ W c, Row W b off zs → Calls Tryz.prog 135 #[.slice (some ⟨b, off + i, none⟩) 4 c] W fun e w' => e = .returned (.int .i64 (F i : Nat)) ∧ ∃ n, w' = W.drewN n) := fun i hi W c h => by
              rw [← hF]
              exact HN.out i hi W c h
            have HN12 : Hid (∀ W c, Row W b off zs → Calls Tryz.prog 135 #[.slice (some ⟨b, off + 12, none⟩) 4 c] W fun e w' => e = .returned (.int .i64 (F 12 : Nat)) ∧ ∃ n, w' = W.drewN n) := HN'.out 12 (by omega)
            have b1 := hz.getD 1
            have b2 := hz.getD 2
            have b3 := hz.getD 3
            obtain ⟨P, HPS, HPA, HPd, HPD, HP, HNP, HN12', HC'⟩ : ∃ P : World → Prop, Hid (∀ W o v, P W → P (W.setCell ⟨w.heap.size, o, none⟩ v)) ∧ Hid (P (w.alloc (.cells #[.int .i64 0, .int .i64 0, .int .i64 0, .int .i64 0, .int .i64 0] 52))) ∧ Hid (∀ W, P W → P W.drew) ∧ Hid (∀ W n, P W → P (W.drewN n)) ∧
                Hid (∀ W, P W → W.cell? ⟨b, off + 1, none⟩ = some (.int .u8 (zs.getD 1 0)) ∧ W.cell? ⟨b, off + 2, none⟩ = some (.int .u8 (zs.getD 2 0)) ∧ W.cell? ⟨b, off + 3, none⟩ = some (.int .u8 (zs.getD 3 0)) ∧ P W) ∧
                Hid (∀ i, i + 4 ≤ 16 → ∀ W c, P W → Calls Tryz.prog 135 #[.slice (some ⟨b, off + i, none⟩) 4 c] W fun e w' => e = .returned (.int .i64 (F i : Nat)) ∧ ∃ n, w' = W.drewN n) ∧
                Hid (∀ W c, P W → Calls Tryz.prog 135 #[.slice (some ⟨b, off + 12, none⟩) 4 c] W fun e w' => e = .returned (.int .i64 (F 12 : Nat)) ∧ ∃ n, w' = W.drewN n) ∧
                Hid (∀ W c, P W → Calls Tryz.prog 136 #[.slice (some ⟨b, off + 1, none⟩) 11 c] W fun e w' => e = .returned (.int .i64 (crcOf ((zs.drop 1).take 11) : Nat)) ∧ w' = W) :=
              ⟨fun W => Row W b off zs, fun W o v h => h.setCell (by have := row_lt HR.out (by omega); omega) _ _, HR.out.alloc zeros, fun W h => h.drew, fun W n h => h.drewN n, fun W h => ⟨h 1 (by omega), h 2 (by omega), h 3 (by omega), h⟩, HN'.out, HN12.out, HC.out⟩
            clear HN HN' HN12 HC HRA HR h1' h2 h3 ht hF hz hl
            generalize crcOf ((zs.drop 1).take 11) = q at hne HC'
            generalize zs.getD 1 0 = z1 at b1 HP HRec
            generalize zs.getD 2 0 = z2 at b2 HP HRec
            generalize zs.getD 3 0 = z3 at b3 HP HRec
            have e1 : IntKind.i64.wrap z1 = z1 := wrap_small _ (by omega) (by omega)
            have e2 : IntKind.i64.wrap z2 = z2 := wrap_small _ (by omega) (by omega)
            have e3 : IntKind.i64.wrap z3 = z3 := wrap_small _ (by omega) (by omega)
            go_wp2
            go_quiet ((first | (go_at_call 135; exact Calls.quiet_of (HN12'.out _ _ (HPD.out _ _ HPA.out))) | (go_at_call 136; exact Calls.quiet_of_same (HC'.out _ _ (HPD.out _ _ HPA.out)))))
            go_wp2
            go_region_held3 (fun w' => w'.cell? ⟨b, off + 1, none⟩ = some (.int .u8 z1) ∧ w'.cell? ⟨b, off + 2, none⟩ = some (.int .u8 z2) ∧ w'.cell? ⟨b, off + 3, none⟩ = some (.int .u8 z3) ∧ P w')
              ((refine HP.out _ ?_; repeat (first | exact HPA.out | refine HPS.out _ _ _ ?_ | refine HPd.out _ ?_ | refine HPD.out _ _ ?_)))
              (first | (go_at_call 135; refine (HNP.out _ (by omega) _ _ (by repeat (first | exact HPA.out | refine HPS.out _ _ _ ?_ | refine HPd.out _ ?_ | refine HPD.out _ _ ?_))).mono ?_; rintro e w' ⟨rfl, n, rfl⟩))
            all_goals
              go_wp2
              refine bodyPost_ret (v := .tuple #[.int .i64 3, .agg #[.int .i64 z1, .int .i64 z2, .int .i64 z3, .int .i64 (F 4), .int .i64 (F 8)]]) (by simp [results, Tryz.results202, go_sem]) rfl ⟨tuple2_eq (r1 := fun i => match i with | 0 => z1 | 1 => z2 | 2 => z3 | 3 => (F 4 : Int) | _ => (F 8 : Int)) HK.out.symm HRec.out.symm, ?_⟩
              exact (((((below_drewN ((Below.refl _ _).alloc (Nat.le_refl _) _) _).setCell (Nat.le_refl _) _).setCell (Nat.le_refl _) _).setCell (Nat.le_refl _) _).setCell (Nat.le_refl _) _).setCell (Nat.le_refl _) _
          · have h3' : goodB zs = false := by simpa using h3
            have HK : Hid (sortKind zs = 2) := by show _ = _; simp only [sortKind, h1', h2, h3']; decide
            have hne : (((crcOf ((zs.drop 1).take 11) : Nat) : Int) != ((numFrom 0 ((zs.drop 12).take 4) : Nat) : Int)) = true := by
              have := beq_eq_false_iff_ne.1 h3'
              rw [bne_iff_ne]
              omega
            have HN12 : Hid (∀ W c, Row W b off zs → Calls Tryz.prog 135 #[.slice (some ⟨b, off + 12, none⟩) 4 c] W fun e w' => e = .returned (.int .i64 (numFrom 0 ((zs.drop 12).take 4) : Nat)) ∧ ∃ n, w' = W.drewN n) := HN.out 12 (by omega)
            clear HN h1' h2 h3 h3' ht
            generalize numFrom 0 ((zs.drop 12).take 4) = p at hne HN12
            generalize crcOf ((zs.drop 1).take 11) = q at hne HC
            go_wp2
            go_quiet ((first | (go_at_call 135; exact Calls.quiet_of (HN12.out _ _ HRA.out)) | (go_at_call 136; exact Calls.quiet_of_same (HC.out _ _ HRA.out))))
            go_wp2
            refine bodyPost_ret (v := .tuple #[.int .i64 2, aggOf fun _ => 0]) (by simp [results, Tryz.results202, go_sem, aggOf]) rfl ⟨tuple2_eq HK.out.symm (hnone.out (by rw [HK.out]; omega)), ?_⟩
            exact (((((below_drewN ((Below.refl _ _).alloc (Nat.le_refl _) _) nq).setCell (Nat.le_refl _) _).setCell (Nat.le_refl _) _).setCell (Nat.le_refl _) _).setCell (Nat.le_refl _) _).setCell (Nat.le_refl _) _
        · have HK : Hid (sortKind zs = 1) := by show _ = _; unfold sortKind; rw [h1', if_neg (by decide), if_pos h2]
          have h2' : (zs.getD 0 0 != 0) = true := by simpa using h2
          clear h1' h2 ht
          generalize zs.getD 0 0 = z at hc h2'
          go_wp2
          refine bodyPost_ret (v := .tuple #[.int .i64 1, aggOf fun _ => 0]) (by simp [results, Tryz.results202, go_sem, aggOf]) rfl ⟨tuple2_eq HK.out.symm (hnone.out (by rw [HK.out]; omega)), ?_⟩
          exact (Below.refl _ _).alloc (Nat.le_refl _) _
end Go.Proofs.YtnjlbgolnbdkaaaGreat
