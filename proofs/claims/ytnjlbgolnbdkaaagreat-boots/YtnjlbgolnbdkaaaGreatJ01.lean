/- Texts of the proof of Boots, one behind the other. -/
import Derived.Test.YtnjlbgolnbdkaaaGreatJ00
import Derived.Deep.RegionHeld3
import Derived.Deep.DrawnRows
import Derived.Deep.QuietTactic
import Derived.BigQuiet
import Derived.WalkSmall
/- journal.record and journal.Sort: what sixteen bytes are. -/
namespace Go.Proofs.YtnjlbgolnbdkaaaGreat
open Go.RowKit

theorem number_piece (b off i m cap : Nat) (zs : List Int) (w : World) (hz : Bytes zs) (hr : Row w b off zs) (hm : i + m ≤ zs.length) (hn : m ≤ 9223372036854775807) :
    Calls Tryz.prog 87 #[.slice (some ⟨b, off + i, none⟩) m cap] w fun e w' => e = .returned (.int .u32 (numFrom 0 ((zs.drop i).take m) : Nat)) ∧ w' = w :=
  number_at b (off + i) m cap _ w (by simp; omega) ((hz.drop i).take m) (hr.piece i m) hn
theorem check_piece (b off i m cap : Nat) (zs : List Int) (w : World) (hz : Bytes zs) (hr : Row w b off zs) (hm : i + m ≤ zs.length) (hn : m ≤ 9223372036854775807) :
    Calls Tryz.prog 88 #[.slice (some ⟨b, off + i, none⟩) m cap] w fun e w' => e = .returned (.int .u32 (crcOf ((zs.drop i).take m) : Nat)) ∧ w' = w :=
  check_at b (off + i) m cap _ w (by simp; omega) ((hz.drop i).take m) (hr.piece i m) hn

theorem row_lt {w : World} {b off : Nat} {zs : List Int} (hr : Row w b off zs) (h : 0 < zs.length) : b < w.heap.size := by
  have := hr 0 h
  rcases Nat.lt_or_ge b w.heap.size with h1 | h1
  · exact h1
  · simp [World.cell?, Array.getElem?_eq_none h1] at this
theorem Row.alloc {w : World} {b off : Nat} {zs : List Int} (hr : Row w b off zs) (o : Obj) : Row (w.alloc o) b off zs := by
  intro i hi
  have hb := row_lt hr (by omega)
  rw [World.cell?_alloc_past _ _ _ hb]
  exact hr i hi
theorem Row.drew {w : World} {b off : Nat} {zs : List Int} (hr : Row w b off zs) : Row w.drew b off zs := hr
theorem Row.drewN {w : World} {b off : Nat} {zs : List Int} (hr : Row w b off zs) (n : Nat) : Row (w.drewN n) b off zs := hr
theorem Row.below {w w' : World} {B b off : Nat} {zs : List Int} (hr : Row w b off zs) (hb : Below B w w') (hlt : b < B) : Row w' b off zs := fun i hi => (hb.cell (by exact hlt)).trans (hr i hi)

/- a record, out of a slot's bytes -/
def recAgg (zs : List Int) : Value := .agg #[.int .i64 (zs.getD 1 0), .int .i64 (zs.getD 2 0), .int .i64 (zs.getD 3 0), .int .i64 (numFrom 0 ((zs.drop 4).take 4) : Nat), .int .i64 (numFrom 0 ((zs.drop 8).take 4) : Nat)]

theorem wrap_small (n : Int) (h0 : 0 ≤ n) (h1 : n < 4294967296) : IntKind.i64.wrap n = n := by
  rw [IntKind.wrap_i64]; omega

attribute [local go_sem ↓] Go.wp_at_zero Go.wp_at_succ
set_option maxHeartbeats 1000000 in
theorem record_core (b off cap : Nat) (z1 z2 z3 : Int) (F : Nat → Nat) (P : World → Prop) (w : World) (hcap : 16 ≤ cap) (hc2 : cap ≤ 9223372036854775807)
    (b1 : 0 ≤ z1 ∧ z1 < 256) (b2 : 0 ≤ z2 ∧ z2 < 256) (b3 : 0 ≤ z3 ∧ z3 < 256) (h4 : F 4 < 4294967296) (h8 : F 8 < 4294967296)
    (hP : ∀ W, P W → W.cell? ⟨b, off + 1, none⟩ = some (.int .u8 z1) ∧ W.cell? ⟨b, off + 2, none⟩ = some (.int .u8 z2) ∧ W.cell? ⟨b, off + 3, none⟩ = some (.int .u8 z3) ∧ P W)
    (hA : ∀ o, P (w.alloc o)) (hD : ∀ W, P W → P W.drew)
    (g : ∀ i, i + 4 ≤ 12 → ∀ W c, P W → Calls Tryz.prog 87 #[.slice (some ⟨b, off + i, none⟩) 4 c] W fun e w' => e = .returned (.int .u32 (F i)) ∧ w' = W) :
    Calls Tryz.prog 197 #[.slice (some ⟨b, off, none⟩) 16 cap] w fun e w' => e = .returned (.agg #[.int .i64 z1, .int .i64 z2, .int .i64 z3, .int .i64 (F 4), .int .i64 (F 8)]) ∧ Below w.heap.size w w' := by
  have e1 : IntKind.i64.wrap z1 = z1 := wrap_small _ (by omega) (by omega)
  have e2 : IntKind.i64.wrap z2 = z2 := wrap_small _ (by omega) (by omega)
  have e3 : IntKind.i64.wrap z3 = z3 := wrap_small _ (by omega) (by omega)
  have e4 : IntKind.i64.wrap (F 4 : Int) = F 4 := wrap_small _ (by omega) (by omega)
  have e8 : IntKind.i64.wrap (F 8 : Int) = F 8 := wrap_small _ (by omega) (by omega)
  have k1 : (8 : Int) ≤ (cap : Int) := by omega
  have k2 : (12 : Int) ≤ (cap : Int) := by omega
  have k3 : ¬ cap = 4 := by omega
  have k4 : ¬ cap = 8 := by omega
  have k5 : (4 : Int) ≤ 8 := by omega
  have k6 : (8 : Int) ≤ 12 := by omega
  have HP : Hid _ := hP
  have HA : Hid _ := hA
  have HD : Hid _ := hD
  have HG : Hid _ := g
  clear hP hA hD g
  go_enter Tryz.func197, Tryz.ntmps197
  go_wp2
  go_region_held3 (fun w' => w'.cell? ⟨b, off + 1, none⟩ = some (.int .u8 z1) ∧ w'.cell? ⟨b, off + 2, none⟩ = some (.int .u8 z2) ∧ w'.cell? ⟨b, off + 3, none⟩ = some (.int .u8 z3) ∧ P w')
    (first | exact HP.out _ (HA.out _) | exact HP.out _ (HD.out _ (HA.out _)) | (refine HP.out _ ?_; assumption))
    (first | (go_at_call 87; refine (HG.out _ (by omega) _ _ (by first | exact HA.out _ | exact HD.out _ (HA.out _))).mono ?_; rintro e w' ⟨rfl, rfl⟩))
  go_wp2
  exact bodyPost_ret (v := .agg #[.int .i64 z1, .int .i64 z2, .int .i64 z3, .int .i64 (F 4), .int .i64 (F 8)]) (by simp [results, Tryz.results197, go_sem]) rfl ⟨rfl, ((Below.refl _ _).alloc (Nat.le_refl _) _).drew⟩

theorem record_any (b off cap : Nat) (zs : List Int) (w : World) (hl : zs.length = 16) (hz : Bytes zs) (hr : Row w b off zs) (hcap : 16 ≤ cap) (hc2 : cap ≤ 9223372036854775807) :
    Calls Tryz.prog 197 #[.slice (some ⟨b, off, none⟩) 16 cap] w fun e w' => e = .returned (recAgg zs) ∧ Below w.heap.size w w' :=
  record_core b off cap (zs.getD 1 0) (zs.getD 2 0) (zs.getD 3 0) (fun i => numFrom 0 ((zs.drop i).take 4)) (fun W => Row W b off zs) w hcap hc2 (hz.getD 1) (hz.getD 2) (hz.getD 3)
    (numFrom_lt _ 0 (by omega)) (numFrom_lt _ 0 (by omega)) (fun W h => ⟨h 1 (by omega), h 2 (by omega), h 3 (by omega), h⟩) (fun o => hr.alloc o) (fun W h => h.drew)
    (fun i hi W c h => number_piece b off i 4 c zs W hz h (by omega) (by omega))

/- what sixteen bytes are -/
def zeroAgg : Value := .agg #[.int .i64 0, .int .i64 0, .int .i64 0, .int .i64 0, .int .i64 0]
def goodB (zs : List Int) : Bool := numFrom 0 ((zs.drop 12).take 4) == crcOf ((zs.drop 1).take 11)
def sortKind (zs : List Int) : Int := if blankB zs = true then 0 else if zs.getD 0 0 ≠ 0 then 1 else if goodB zs = false then 2 else 3
def sortAgg (zs : List Int) : Value := if sortKind zs = 3 then recAgg zs else zeroAgg

/- not sixteen bytes -/
set_option maxHeartbeats 1000000 in
theorem sort_short (ao : Option Addr) (n cap : Nat) (w : World) (h : ((n : Int) != 16) = true) :
    Calls Tryz.prog 168 #[.slice ao n cap] w fun e w' => e = .returned (.tuple #[.int .i64 0, zeroAgg, .int .i64 1]) ∧ Below w.heap.size w w' := by
  go_enter Tryz.func168, Tryz.ntmps168
  go_wp2
  exact bodyPost_ret (v := .tuple #[.int .i64 0, zeroAgg, .int .i64 1]) (by simp [results, Tryz.results168, go_sem, zeroAgg]) rfl ⟨rfl, ((Below.refl _ _).alloc (Nat.le_refl _) _)⟩

set_option maxHeartbeats 1000000 in
theorem sort_blank (b off cap : Nat) (zs : List Int) (w : World) (hl : zs.length = 16) (hz : Bytes zs) (hr : Row w b off zs) (hb : blankB zs = true) :
    Calls Tryz.prog 168 #[.slice (some ⟨b, off, none⟩) 16 cap] w fun e w' => e = .returned (.tuple #[.int .i64 0, zeroAgg, .int .i64 0]) ∧ Below w.heap.size w w' := by
  have HB : Hid _ := hb
  clear hb
  go_enter Tryz.func168, Tryz.ntmps168
  go_wp2_with (go_at_call 196; refine (blank_at b off 16 cap zs _ hl hz (hr.alloc _) (by omega)).mono ?_; rintro e w' ⟨rfl, rfl⟩; rw [HB.out])
  exact bodyPost_ret (v := .tuple #[.int .i64 0, zeroAgg, .int .i64 0]) (by simp [results, Tryz.results168, go_sem, zeroAgg]) rfl ⟨rfl, ((Below.refl _ _).alloc (Nat.le_refl _) _)⟩

set_option maxHeartbeats 1000000 in
theorem sort_torn (b off cap : Nat) (zs : List Int) (w : World) (hl : zs.length = 16) (hz : Bytes zs) (hr : Row w b off zs) (hb : blankB zs = false) (h0 : (zs.getD 0 0 != 0) = true) :
    Calls Tryz.prog 168 #[.slice (some ⟨b, off, none⟩) 16 cap] w fun e w' => e = .returned (.tuple #[.int .i64 1, zeroAgg, .int .i64 0]) ∧ Below w.heap.size w w' := by
  have HB : Hid _ := hb
  have HR : Hid (Row w b off zs) := hr
  have c0 : ∀ o, (w.alloc o).cell? ⟨b, off, none⟩ = some (.int .u8 (zs.getD 0 0)) := fun o => hr.alloc o 0 (by omega)
  clear hb hr
  generalize zs.getD 0 0 = z at h0 c0
  go_enter Tryz.func168, Tryz.ntmps168
  go_wp2_with (go_at_call 196; refine (blank_at b off 16 cap zs _ hl hz (HR.out.alloc _) (by omega)).mono ?_; rintro e w' ⟨rfl, rfl⟩; rw [HB.out])
  exact bodyPost_ret (v := .tuple #[.int .i64 1, zeroAgg, .int .i64 0]) (by simp [results, Tryz.results168, go_sem, zeroAgg]) rfl ⟨rfl, ((Below.refl _ _).alloc (Nat.le_refl _) _)⟩

theorem ne_u32 (a b : Nat) (h : (a == b) = false) : ((a : Int) != (b : Int)) = true := by
  have := beq_eq_false_iff_ne.1 h
  rw [bne_iff_ne]
  omega
theorem eq_u32 (a b : Nat) (h : (a == b) = true) : ((a : Int) != (b : Int)) = false := by
  have := beq_iff_eq.1 h
  simp [this]

set_option maxHeartbeats 1000000 in
theorem sort_corrupt (b off cap : Nat) (zs : List Int) (w : World) (hl : zs.length = 16) (hz : Bytes zs) (hr : Row w b off zs) (hcap : 16 ≤ cap) (hc2 : cap ≤ 9223372036854775807) (hb : blankB zs = false) (h0 : zs.getD 0 0 = 0) (hg : goodB zs = false) :
    Calls Tryz.prog 168 #[.slice (some ⟨b, off, none⟩) 16 cap] w fun e w' => e = .returned (.tuple #[.int .i64 2, zeroAgg, .int .i64 0]) ∧ Below w.heap.size w w' := by
  have HB : Hid (blankB zs = false) := hb
  have HR : Hid (Row w b off zs) := hr
  have c0 : ∀ o, (w.alloc o).cell? ⟨b, off, none⟩ = some (.int .u8 0) := fun o => by rw [← h0]; exact hr.alloc o 0 (by omega)
  have k1 : (12 : Int) ≤ (cap : Int) := by omega
  have k2 : (16 : Int) ≤ (cap : Int) := by omega
  have k3 : ¬ cap = 12 := by omega
  have k4 : ¬ cap = 1 := by omega
  have hne := ne_u32 _ _ hg
  have HN : Hid (∀ W c, Row W b off zs → Calls Tryz.prog 87 #[.slice (some ⟨b, off + 12, none⟩) 4 c] W fun e w' => e = .returned (.int .u32 (numFrom 0 ((zs.drop 12).take 4) : Nat)) ∧ w' = W) := fun W c h => number_piece b off 12 4 c zs W hz h (by omega) (by omega)
  have HC : Hid (∀ W c, Row W b off zs → Calls Tryz.prog 88 #[.slice (some ⟨b, off + 1, none⟩) 11 c] W fun e w' => e = .returned (.int .u32 (crcOf ((zs.drop 1).take 11) : Nat)) ∧ w' = W) := fun W c h => check_piece b off 1 11 c zs W hz h (by omega) (by omega)
  generalize numFrom 0 ((zs.drop 12).take 4) = p at hne HN
  generalize crcOf ((zs.drop 1).take 11) = q at hne HC
  clear hb hr hg h0
  go_enter Tryz.func168, Tryz.ntmps168
  go_wp2_with (go_at_call 196; refine (blank_at b off 16 cap zs _ hl hz (HR.out.alloc _) (by omega)).mono ?_; rintro e w' ⟨rfl, rfl⟩; rw [HB.out])
  go_quiet ((first | (go_at_call 87; exact Calls.quiet_of_same (HN.out _ _ (HR.out.alloc _))) | (go_at_call 88; exact Calls.quiet_of_same (HC.out _ _ (HR.out.alloc _)))))
  go_wp2
  refine bodyPost_ret (v := .tuple #[.int .i64 2, zeroAgg, .int .i64 0]) (by simp [results, Tryz.results168, go_sem, zeroAgg]) rfl ⟨rfl, ?_⟩
  exact (((((below_drewN ((Below.refl _ _).alloc (Nat.le_refl _) _) nq).setCell (Nat.le_refl _) _).setCell (Nat.le_refl _) _).setCell (Nat.le_refl _) _).setCell (Nat.le_refl _) _).setCell (Nat.le_refl _) _

end Go.Proofs.YtnjlbgolnbdkaaaGreat
/- journal.Sort, whole; the calls Slot and Sort of package bulwark. -/
namespace Go.Proofs.YtnjlbgolnbdkaaaGreat
open Go.RowKit

theorem bcell {W w1 : World} (hb : Below W.heap.size W w1) : (∀ b o, b < W.heap.size → w1.cell? ⟨b, o, none⟩ = W.cell? ⟨b, o, none⟩) ∧ (∀ b o, b < W.heap.size → w1.frozen? ⟨b, o, none⟩ = W.frozen? ⟨b, o, none⟩) :=
  ⟨fun b o h => hb.cell (p := ⟨b, o, none⟩) h, fun b o h => hb.frozen (p := ⟨b, o, none⟩) h⟩

set_option maxHeartbeats 1000000 in
theorem sort_good_core (b off cap : Nat) (zs : List Int) (r1 r2 r3 r4 r5 : Int) (w : World) (hl : zs.length = 16) (hz : Bytes zs) (hr : Row w b off zs) (hcap : 16 ≤ cap) (hc2 : cap ≤ 9223372036854775807) (hb : blankB zs = false) (h0 : zs.getD 0 0 = 0) (hg : goodB zs = true)
    (hrec : ∀ W, Row W b off zs → Calls Tryz.prog 197 #[.slice (some ⟨b, off, none⟩) 16 cap] W fun e w' => e = .returned (.agg #[.int .i64 r1, .int .i64 r2, .int .i64 r3, .int .i64 r4, .int .i64 r5]) ∧ Below W.heap.size W w') :
    Calls Tryz.prog 168 #[.slice (some ⟨b, off, none⟩) 16 cap] w fun e w' => e = .returned (.tuple #[.int .i64 3, .agg #[.int .i64 r1, .int .i64 r2, .int .i64 r3, .int .i64 r4, .int .i64 r5], .int .i64 0]) ∧ Below w.heap.size w w' := by
  have HB : Hid (blankB zs = false) := hb
  have HR : Hid (Row w b off zs) := hr
  have HREC : Hid (∀ W, Row W b off zs → Calls Tryz.prog 197 #[.slice (some ⟨b, off, none⟩) 16 cap] W fun e w' => e = .returned (.agg #[.int .i64 r1, .int .i64 r2, .int .i64 r3, .int .i64 r4, .int .i64 r5]) ∧ Below W.heap.size W w') := hrec
  have c0 : ∀ o, (w.alloc o).cell? ⟨b, off, none⟩ = some (.int .u8 0) := fun o => by rw [← h0]; exact hr.alloc o 0 (by omega)
  have k1 : (12 : Int) ≤ (cap : Int) := by omega
  have k2 : (16 : Int) ≤ (cap : Int) := by omega
  have k3 : ¬ cap = 12 := by omega
  have k4 : ¬ cap = 1 := by omega
  have hne := eq_u32 _ _ hg
  have HN : Hid (∀ W c, Row W b off zs → Calls Tryz.prog 87 #[.slice (some ⟨b, off + 12, none⟩) 4 c] W fun e w' => e = .returned (.int .u32 (numFrom 0 ((zs.drop 12).take 4) : Nat)) ∧ w' = W) := fun W c h => number_piece b off 12 4 c zs W hz h (by omega) (by omega)
  have HC : Hid (∀ W c, Row W b off zs → Calls Tryz.prog 88 #[.slice (some ⟨b, off + 1, none⟩) 11 c] W fun e w' => e = .returned (.int .u32 (crcOf ((zs.drop 1).take 11) : Nat)) ∧ w' = W) := fun W c h => check_piece b off 1 11 c zs W hz h (by omega) (by omega)
  generalize numFrom 0 ((zs.drop 12).take 4) = p at hne HN
  generalize crcOf ((zs.drop 1).take 11) = q at hne HC
  clear hb hr hg h0 hrec
  go_enter Tryz.func168, Tryz.ntmps168
  go_wp2_with (go_at_call 196; refine (blank_at b off 16 cap zs _ hl hz (HR.out.alloc _) (by omega)).mono ?_; rintro e w' ⟨rfl, rfl⟩; rw [HB.out])
  go_quiet ((first | (go_at_call 87; exact Calls.quiet_of_same (HN.out _ _ (HR.out.alloc _))) | (go_at_call 88; exact Calls.quiet_of_same (HC.out _ _ (HR.out.alloc _)))))
  go_wp2_with fail
  refine (HREC.out _ ((HR.out.alloc _).drewN nq)).mono ?_
  rintro e w1 ⟨rfl, hbel⟩
  obtain ⟨hc, hf⟩ := bcell hbel
  have HB1 : Hid (Below w.heap.size w w1) := ((below_drewN ((Below.refl _ _).alloc (Nat.le_refl _) _) nq).trans (hbel.mono (by simp)))
  have hz1 : w.heap.size < w1.heap.size := by have := hbel.size; simp at this; omega
  clear hbel
  go_wp2
  refine bodyPost_ret (v := .tuple #[.int .i64 3, .agg #[.int .i64 r1, .int .i64 r2, .int .i64 r3, .int .i64 r4, .int .i64 r5], .int .i64 0]) (by simp [results, Tryz.results168, go_sem, hc]) rfl ⟨rfl, ?_⟩
  exact ((((HB1.out.setCell (Nat.le_refl _) _).setCell (Nat.le_refl _) _).setCell (Nat.le_refl _) _).setCell (Nat.le_refl _) _).setCell (Nat.le_refl _) _

/- the record of a slot, its five numbers; noughts, if it is not good -/
def recAt (zs : List Int) : Nat → Int
  | 0 => zs.getD 1 0
  | 1 => zs.getD 2 0
  | 2 => zs.getD 3 0
  | 3 => (numFrom 0 ((zs.drop 4).take 4) : Nat)
  | _ => (numFrom 0 ((zs.drop 8).take 4) : Nat)
def sortRec (zs : List Int) (i : Nat) : Int := if sortKind zs = 3 then recAt zs i else 0
def aggOf (r : Nat → Int) : Value := .agg #[.int .i64 (r 0), .int .i64 (r 1), .int .i64 (r 2), .int .i64 (r 3), .int .i64 (r 4)]
theorem tuple_eq {k1 k2 : Int} {r1 r2 : Nat → Int} {e : Int} (hk : k1 = k2) (hr : r1 = r2) : Ending.returned (.tuple #[.int .i64 k1, aggOf r1, .int .i64 e]) = .returned (.tuple #[.int .i64 k2, aggOf r2, .int .i64 e]) := by rw [hk, hr]

theorem sort16_any (b off cap : Nat) (zs : List Int) (w : World) (hl : zs.length = 16) (hz : Bytes zs) (hr : Row w b off zs) (hcap : 16 ≤ cap) (hc2 : cap ≤ 9223372036854775807) :
    Calls Tryz.prog 168 #[.slice (some ⟨b, off, none⟩) 16 cap] w fun e w' => e = .returned (.tuple #[.int .i64 (sortKind zs), aggOf (sortRec zs), .int .i64 0]) ∧ Below w.heap.size w w' := by
  have none : sortKind zs ≠ 3 → (fun _ => 0) = sortRec zs := fun h => by funext i; simp [sortRec, h]
  by_cases h1 : blankB zs = true
  · have hk : sortKind zs = 0 := by simp [sortKind, h1]
    refine (sort_blank b off cap zs w hl hz hr h1).mono ?_
    rintro e w' ⟨rfl, hb⟩
    exact ⟨tuple_eq hk.symm (none (by omega)), hb⟩
  · have h1' : blankB zs = false := by simpa using h1
    by_cases h2 : zs.getD 0 0 = 0
    · by_cases h3 : goodB zs = true
      · have hk : sortKind zs = 3 := by simp only [sortKind, h1', h2, h3]; decide
        refine (sort_good_core b off cap zs _ _ _ _ _ w hl hz hr hcap hc2 h1' h2 h3 (fun W h => record_any b off cap zs W hl hz h hcap hc2)).mono ?_
        rintro e w' ⟨rfl, hb⟩
        exact ⟨tuple_eq (r1 := recAt zs) hk.symm (by funext i; simp [sortRec, hk]), hb⟩
      · have h3' : goodB zs = false := by simpa using h3
        have hk : sortKind zs = 2 := by simp only [sortKind, h1', h2, h3']; decide
        refine (sort_corrupt b off cap zs w hl hz hr hcap hc2 h1' h2 h3').mono ?_
        rintro e w' ⟨rfl, hb⟩
        exact ⟨tuple_eq hk.symm (none (by omega)), hb⟩
    · have hk : sortKind zs = 1 := by unfold sortKind; rw [h1', if_neg (by decide), if_pos h2]
      refine (sort_torn b off cap zs w hl hz hr h1' (by simpa using h2)).mono ?_
      rintro e w' ⟨rfl, hb⟩
      exact ⟨tuple_eq hk.symm (none (by omega)), hb⟩

end Go.Proofs.YtnjlbgolnbdkaaaGreat
/- Facts about slots that were laid as a whole, or not: plain lists. -/
namespace Go.Proofs.YtnjlbgolnbdkaaaGreat
open Go.RowKit

theorem slotOf_bytes (kind part code seq arg : Int) : Bytes (slotOf kind part code seq arg) := by
  intro z hz
  simp only [slotOf, List.cons_append, List.mem_cons, List.mem_append] at hz
  rcases hz with hz | hz | hz
  · omega
  · exact slotHead_bytes _ _ _ _ _ z hz
  · exact be4_bytes _ z hz
theorem slotOf_length (kind part code seq arg : Int) : (slotOf kind part code seq arg).length = 16 := rfl
theorem slotOf_kind (kind part code seq arg : Int) : sortKind (slotOf kind part code seq arg) = 3 := by
  have h1 : blankB (slotOf kind part code seq arg) = false := rfl
  have h2 : (slotOf kind part code seq arg).getD 0 0 = 0 := rfl
  have h3 : goodB (slotOf kind part code seq arg) = true := by
    have e1 : ((slotOf kind part code seq arg).drop 12).take 4 = be4 (crcOf (slotHead kind part code seq arg)) := rfl
    have e2 : ((slotOf kind part code seq arg).drop 1).take 11 = slotHead kind part code seq arg := rfl
    unfold goodB
    rw [e1, e2, numFrom_be4 _ (crcOf_lt _)]
    simp
  simp only [sortKind, h1, h2, h3]
  decide
theorem slotOf_rec (kind part code seq arg : Int) (i : Nat) : sortRec (slotOf kind part code seq arg) i = match i with | 0 => kind % 256 | 1 => part % 256 | 2 => code % 256 | 3 => seq % 4294967296 | _ => arg % 4294967296 := by
  unfold sortRec
  rw [if_pos (slotOf_kind kind part code seq arg)]
  have e3 : ((slotOf kind part code seq arg).drop 4).take 4 = be4 (seq % 4294967296).toNat := rfl
  have e4 : ((slotOf kind part code seq arg).drop 8).take 4 = be4 (arg % 4294967296).toNat := rfl
  match i with
  | 0 => rfl
  | 1 => rfl
  | 2 => rfl
  | 3 => show ((numFrom 0 _ : Nat) : Int) = _; rw [e3, numFrom_be4 _ (by omega)]; show ((seq % 4294967296).toNat : Int) = seq % 4294967296; omega
  | n + 4 => show ((numFrom 0 _ : Nat) : Int) = _; rw [e4, numFrom_be4 _ (by omega)]; show ((arg % 4294967296).toNat : Int) = arg % 4294967296; omega
/- a slot whose first byte is not 0 is blank or torn -/
theorem torn_kind (zs : List Int) (h : zs.getD 0 0 = 255) : (sortKind zs = 0 ∨ sortKind zs = 1) ∧ sortRec zs = fun _ => 0 := by
  have hk : sortKind zs = 0 ∨ sortKind zs = 1 := by
    unfold sortKind
    by_cases h1 : blankB zs = true
    · left; rw [if_pos h1]
    · right; rw [if_neg h1, if_pos (by rw [h]; decide)]
  refine ⟨hk, ?_⟩
  funext i
  unfold sortRec
  rw [if_neg (by omega)]
end Go.Proofs.YtnjlbgolnbdkaaaGreat
