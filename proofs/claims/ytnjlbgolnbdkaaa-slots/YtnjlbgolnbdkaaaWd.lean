/- journal.Sort, whole; the calls Slot and Sort of package bulwark. -/
import Derived.Test.YtnjlbgolnbdkaaaWc
namespace Go.Proofs.Ytnjlbgolnbdkaaa
open Go.RowKit

theorem bcell {W w1 : World} (hb : Below W.heap.size W w1) : (∀ b o, b < W.heap.size → w1.cell? ⟨b, o, none⟩ = W.cell? ⟨b, o, none⟩) ∧ (∀ b o, b < W.heap.size → w1.frozen? ⟨b, o, none⟩ = W.frozen? ⟨b, o, none⟩) :=
  ⟨fun b o h => hb.cell (p := ⟨b, o, none⟩) h, fun b o h => hb.frozen (p := ⟨b, o, none⟩) h⟩

set_option maxHeartbeats 1000000 in
theorem sort_good_core (b off cap : Nat) (zs : List Int) (r1 r2 r3 r4 r5 : Int) (w : World) (hl : zs.length = 16) (hz : Bytes zs) (hr : Row w b off zs) (hcap : 16 ≤ cap) (hc2 : cap ≤ 9223372036854775807) (hb : blankB zs = false) (h0 : zs.getD 0 0 = 0) (hg : goodB zs = true)
    (hrec : ∀ W, Row W b off zs → Calls Try.prog 31 #[.slice (some ⟨b, off, none⟩) 16 cap] W fun e w' => e = .returned (.agg #[.int .i64 r1, .int .i64 r2, .int .i64 r3, .int .i64 r4, .int .i64 r5]) ∧ Below W.heap.size W w') :
    Calls Try.prog 14 #[.slice (some ⟨b, off, none⟩) 16 cap] w fun e w' => e = .returned (.tuple #[.int .i64 3, .agg #[.int .i64 r1, .int .i64 r2, .int .i64 r3, .int .i64 r4, .int .i64 r5], .int .i64 0]) ∧ Below w.heap.size w w' := by
  have HB : Hid (blankB zs = false) := hb
  have HR : Hid (Row w b off zs) := hr
  have HREC : Hid (∀ W, Row W b off zs → Calls Try.prog 31 #[.slice (some ⟨b, off, none⟩) 16 cap] W fun e w' => e = .returned (.agg #[.int .i64 r1, .int .i64 r2, .int .i64 r3, .int .i64 r4, .int .i64 r5]) ∧ Below W.heap.size W w') := hrec
  have c0 : ∀ o, (w.alloc o).cell? ⟨b, off, none⟩ = some (.int .u8 0) := fun o => by rw [← h0]; exact hr.alloc o 0 (by omega)
  have k1 : (12 : Int) ≤ (cap : Int) := by omega
  have k2 : (16 : Int) ≤ (cap : Int) := by omega
  have k3 : ¬ cap = 12 := by omega
  have k4 : ¬ cap = 1 := by omega
  have hne := eq_u32 _ _ hg
  have HN : Hid (∀ W c, Row W b off zs → Calls Try.prog 29 #[.slice (some ⟨b, off + 12, none⟩) 4 c] W fun e w' => e = .returned (.int .u32 (numFrom 0 ((zs.drop 12).take 4) : Nat)) ∧ w' = W) := fun W c h => number_piece b off 12 4 c zs W hz h (by omega) (by omega)
  have HC : Hid (∀ W c, Row W b off zs → Calls Try.prog 30 #[.slice (some ⟨b, off + 1, none⟩) 11 c] W fun e w' => e = .returned (.int .u32 (crcOf ((zs.drop 1).take 11) : Nat)) ∧ w' = W) := fun W c h => check_piece b off 1 11 c zs W hz h (by omega) (by omega)
  generalize numFrom 0 ((zs.drop 12).take 4) = p at hne HN
  generalize crcOf ((zs.drop 1).take 11) = q at hne HC
  clear hb hr hg h0 hrec
  go_enter Try.func14, Try.ntmps14
  go_wp2_with (go_at_call 28; refine (blank_at b off 16 cap zs _ hl hz (HR.out.alloc _) (by omega)).mono ?_; rintro e w' ⟨rfl, rfl⟩; rw [HB.out])
  go_quiet ((first | (go_at_call 29; exact Calls.quiet_of_same (HN.out _ _ (HR.out.alloc _))) | (go_at_call 30; exact Calls.quiet_of_same (HC.out _ _ (HR.out.alloc _)))))
  go_wp2_with fail
  refine (HREC.out _ ((HR.out.alloc _).drewN nq)).mono ?_
  rintro e w1 ⟨rfl, hbel⟩
  obtain ⟨hc, hf⟩ := bcell hbel
  have HB1 : Hid (Below w.heap.size w w1) := ((below_drewN ((Below.refl _ _).alloc (Nat.le_refl _) _) nq).trans (hbel.mono (by simp)))
  have hz1 : w.heap.size < w1.heap.size := by have := hbel.size; simp at this; omega
  clear hbel
  go_wp2
  refine bodyPost_ret (v := .tuple #[.int .i64 3, .agg #[.int .i64 r1, .int .i64 r2, .int .i64 r3, .int .i64 r4, .int .i64 r5], .int .i64 0]) (by simp [results, Try.results14, go_sem, hc]) rfl ⟨rfl, ?_⟩
  exact ((((HB1.out.setCell (Nat.le_refl _) _).setCell (Nat.le_refl _) _).setCell (Nat.le_refl _) _).setCell (Nat.le_refl _) _).setCell (Nat.le_refl _) _

/- the record of a slot, its five numbers; noughts, if it is not good -/
def recAt (zs : List Int) : Nat → Int
  | 0 => zs.getD 1 0
  | 1 => zs.getD 2 0
  | 2 => zs.getD 3 0
  | 3 => (numFrom 0 ((zs.drop 4).take 4) : Nat)
  | _ => (numFrom 0 ((zs.drop 8).take 4) : Nat)
def sortRec (zs : List Int) (i : Nat) : Int := if sortKind zs = 3 then recAt zs i else 0
def aggOf (r : Nat → Int) : Value := .agg #[.int .i64 (r 0), .int .i64 (r 1), .int .i64 (r 2), .int .i64 (r 3), .int .i64 (r 4)]
theorem tuple_eq {k1 k2 : Int} {r1 r2 : Nat → Int} {e : Int} (hk : k1 = k2) (hr : r1 = r2) : Ending.returned (.tuple #[.int .i64 k1, aggOf r1, .int .i64 e]) = .returned (.tuple #[.int .i64 k2, aggOf r2, .int .i64 e]) := by rw [hk, hr]

theorem sort16_any (b off cap : Nat) (zs : List Int) (w : World) (hl : zs.length = 16) (hz : Bytes zs) (hr : Row w b off zs) (hcap : 16 ≤ cap) (hc2 : cap ≤ 9223372036854775807) :
    Calls Try.prog 14 #[.slice (some ⟨b, off, none⟩) 16 cap] w fun e w' => e = .returned (.tuple #[.int .i64 (sortKind zs), aggOf (sortRec zs), .int .i64 0]) ∧ Below w.heap.size w w' := by
  have none : sortKind zs ≠ 3 → (fun _ => 0) = sortRec zs := fun h => by funext i; simp [sortRec, h]
  by_cases h1 : blankB zs = true
  · have hk : sortKind zs = 0 := by simp [sortKind, h1]
    refine (sort_blank b off cap zs w hl hz hr h1).mono ?_
    rintro e w' ⟨rfl, hb⟩
    exact ⟨tuple_eq hk.symm (none (by omega)), hb⟩
  · have h1' : blankB zs = false := by simpa using h1
    by_cases h2 : zs.getD 0 0 = 0
    · by_cases h3 : goodB zs = true
      · have hk : sortKind zs = 3 := by simp only [sortKind, h1', h2, h3]; decide
        refine (sort_good_core b off cap zs _ _ _ _ _ w hl hz hr hcap hc2 h1' h2 h3 (fun W h => record_any b off cap zs W hl hz h hcap hc2)).mono ?_
        rintro e w' ⟨rfl, hb⟩
        exact ⟨tuple_eq (r1 := recAt zs) hk.symm (by funext i; simp [sortRec, hk]), hb⟩
      · have h3' : goodB zs = false := by simpa using h3
        have hk : sortKind zs = 2 := by simp only [sortKind, h1', h2, h3']; decide
        refine (sort_corrupt b off cap zs w hl hz hr hcap hc2 h1' h2 h3').mono ?_
        rintro e w' ⟨rfl, hb⟩
        exact ⟨tuple_eq hk.symm (none (by omega)), hb⟩
    · have hk : sortKind zs = 1 := by unfold sortKind; rw [h1', if_neg (by decide), if_pos h2]
      refine (sort_torn b off cap zs w hl hz hr h1' (by simpa using h2)).mono ?_
      rintro e w' ⟨rfl, hb⟩
      exact ⟨tuple_eq hk.symm (none (by omega)), hb⟩

/- package bulwark's Sort hands on what journal's Sort answers -/
set_option maxHeartbeats 1000000 in
theorem bsort_core (v : Value) (k e r1 r2 r3 r4 r5 : Int) (P : World → Prop) (w : World) (hA : ∀ o, P (w.alloc o))
    (h : ∀ W, P W → Calls Try.prog 14 #[v] W fun e' w' => e' = .returned (.tuple #[.int .i64 k, .agg #[.int .i64 r1, .int .i64 r2, .int .i64 r3, .int .i64 r4, .int .i64 r5], .int .i64 e]) ∧ Below W.heap.size W w') :
    Calls Try.prog 6 #[v] w fun e' w' => e' = .returned (.tuple #[.int .i64 k, .agg #[.int .i64 r1, .int .i64 r2, .int .i64 r3, .int .i64 r4, .int .i64 r5], .int .i64 e]) ∧ Below w.heap.size w w' := by
  have H := hide h
  have HA := hide hA
  clear h hA
  go_enter Try.func6, Try.ntmps6
  go_wp2_with fail
  refine (H.out _ (HA.out _)).mono ?_
  rintro e' w1 ⟨rfl, hbel⟩
  obtain ⟨hc, hf⟩ := bcell hbel
  have HB1 : Hid (Below w.heap.size w w1) := (((Below.refl _ _).alloc (Nat.le_refl _) _).trans (hbel.mono (by simp)))
  have hz1 : w.heap.size < w1.heap.size := by have := hbel.size; simp at this; omega
  clear hbel
  go_wp2
  refine bodyPost_ret (v := .tuple #[.int .i64 k, .agg #[.int .i64 r1, .int .i64 r2, .int .i64 r3, .int .i64 r4, .int .i64 r5], .int .i64 e]) (by simp [results, Try.results6, go_sem, hc]) rfl ⟨rfl, ?_⟩
  exact ((((HB1.out.setCell (Nat.le_refl _) _).setCell (Nat.le_refl _) _).setCell (Nat.le_refl _) _).setCell (Nat.le_refl _) _).setCell (Nat.le_refl _) _

theorem bsort16_any (b off cap : Nat) (zs : List Int) (w : World) (hl : zs.length = 16) (hz : Bytes zs) (hr : Row w b off zs) (hcap : 16 ≤ cap) (hc2 : cap ≤ 9223372036854775807) :
    Calls Try.prog 6 #[.slice (some ⟨b, off, none⟩) 16 cap] w fun e w' => e = .returned (.tuple #[.int .i64 (sortKind zs), aggOf (sortRec zs), .int .i64 0]) ∧ Below w.heap.size w w' :=
  bsort_core _ _ _ _ _ _ _ _ (fun W => Row W b off zs) w (fun o => hr.alloc o) (fun W h => sort16_any b off cap zs W hl hz h hcap hc2)
theorem bsort_short (ao : Option Addr) (n cap : Nat) (w : World) (h : ((n : Int) != 16) = true) :
    Calls Try.prog 6 #[.slice ao n cap] w fun e w' => e = .returned (.tuple #[.int .i64 0, aggOf (fun _ => 0), .int .i64 1]) ∧ Below w.heap.size w w' :=
  bsort_core _ _ _ _ _ _ _ _ (fun _ => True) w (fun _ => trivial) (fun W _ => sort_short ao n cap W h)

/- package bulwark's Slot hands on what journal's Slot answers -/
set_option maxHeartbeats 1000000 in
theorem bslot_any (kind part code seq arg : Int) (w : World) :
    Calls Try.prog 7 #[.agg #[.int .i64 kind, .int .i64 part, .int .i64 code, .int .i64 seq, .int .i64 arg]] w fun e w' => ∃ g, e = .returned (.slice (some ⟨g, 0, none⟩) 16 16) ∧
      w'.ownsRow w.heap.size 5 1 (.slice (some ⟨g, 0, none⟩) 16 16) 16 (vals (slotOf kind part code seq arg)) ∧ Below w.heap.size w w' := by
  go_enter Try.func7, Try.ntmps7
  go_wp2_with fail
  refine (slot_any kind part code seq arg _).mono ?_
  rintro e w1 ⟨g, rfl, hown, hbel⟩
  have HO : Hid (w1.ownsRow w.heap.size 5 1 (.slice (some ⟨g, 0, none⟩) 16 16) 16 (vals (slotOf kind part code seq arg))) := by
    obtain ⟨h1, h2⟩ := hown
    rcases h2 with h2 | ⟨g', cap, cur, hv, hb, r⟩
    · exact ⟨h1, .inl h2⟩
    · exact ⟨h1, .inr ⟨g', cap, cur, hv, by simp at hb; omega, r⟩⟩
  have HB : Hid (Below w.heap.size w w1) := (((Below.refl _ _).alloc (Nat.le_refl _) _).trans (hbel.mono (by simp)))
  clear hown hbel
  go_wp2
  go_ret
  exact ⟨g, rfl, HO.out, HB.out⟩
end Go.Proofs.Ytnjlbgolnbdkaaa
