/- Texts of the proofs of Watched and Clocked, one behind the other. -/
import Derived.Test.YtnjlbgolnbdkaaaGreatM03
import Derived.Test.YtnjlbgolnbdkaaaGreatM04
import Derived.Test.YtnjlbgolnbdkaaaGreatM09
import Derived.Test.YtnjlbgolnbdkaaaGreatM08
import Derived.Test.YtnjlbgolnbdkaaaGreatM05
import Derived.Laws.Rows
import Derived.Deep.MidRow
/- Texts of the proof of Boots, one behind the other. -/
namespace Go.Proofs.YtnjlbgolnbdkaaaGreat
open Go.RowKit

structure El where
  i : Nat → Int
  b : Bool
  ad : Nat → Option Addr
  n : Nat → Nat
  c : Nat → Nat
  ch : Option Nat
def mkiC (x : Int) : List Value := [.int .i64 x]
def mkisC (l : List Int) : List Value := l.flatMap mkiC
set_option maxRecDepth 100000 in
set_option maxHeartbeats 4000000 in
theorem makeInt0_any (many : Nat) (hm : many ≤ 255) (S : Nat → Prop) (w : World) (hS : ∀ b, S b → b < w.heap.size) (I : Nat → List Int → World → Prop)
    (hkeep : ∀ j l wr w', I j l wr → Touch (fun b => w.heap.size ≤ b ∧ b < w.heap.size + 3) wr w' → I j l w')
    (hstep : ∀ j l wr, j < many → I j l wr → w.heap.size + 3 ≤ wr.heap.size → Calls Tryz.prog 92 #[.int .i64 j] wr fun e w' => ∃ x : Int, e = .returned (.int .i64 x) ∧ I (j + 1) (l ++ [x]) w' ∧ Touch S wr w')
    (h0 : I 0 [] w) : Calls Tryz.prog 91 #[.int .i64 many, .func (.func 92) #[] #[]] w fun e w' => ∃ x l, e = .returned (.agg #[.slice (some ⟨x, 0, none⟩) many many]) ∧ I many l w' ∧ l.length = many ∧ w'.ownsRow w.heap.size 3 1 (.slice (some ⟨x, 0, none⟩) many many) many (mkisC l) := by
  obtain ⟨i0, hi, hz0, hz1, hz2⟩ := info_parts Tryz.info3
  have hmk : ∀ W : World, (Instr.makeSlice 40 (.int .i64 (many : Int)) (.int .i64 (many : Int))).run Tryz.prog W = .ok (.slice (some ⟨W.heap.size, 0, none⟩) many many) (W.alloc (.cells (madeCells #[.int .i64 0] (many * 1)) 3)) := by
    intro W
    have := run_make (P := Tryz.prog) (w := W) 40 3 i0 _ Tryz.underlying40 hi hz0 .i64 .i64 (many : Int) (many : Int) (by omega) (by omega) (by rw [hz2]; omega) (by omega)
    simpa [hz1, Value.cells] using this
  generalize hM : madeCells #[.int .i64 0] (many * 1) = M at hmk
  have hMs : M.size = many * 1 := by rw [← hM]; simp [madeCells]
  have HK := hide hkeep
  have HS := hide hS
  have HST := hide hstep
  have H0 := hide h0
  clear hkeep hS hstep h0 hM
  have HINIT := hide (mk_init w 115 3 1 many M hm hMs)
  go_enter Tryz.func91, Tryz.ntmps91
  go_wp2
  go_loopw [13] (fun t wr => ∃ (k : Nat) (l : List Int) (rest : List Value), k ≤ many ∧ t = .int .i64 k ∧ l.length = k ∧ I k l wr ∧ w.heap.size + 3 ≤ wr.heap.size ∧ wr.heap[w.heap.size]? = some (.cells #[.slice none 0 0] 115 (0, 0)) ∧ wr.heap[w.heap.size + 2]? = some (.cells #[.slice (some ⟨w.heap.size + 1, 0, none⟩) many many] 115 (0, 0)) ∧ wr.ownsRow w.heap.size 3 1 (.slice (some ⟨w.heap.size + 1, 0, none⟩) many many) many (mkisC l ++ rest) ∧ rest.length = (many - k) * 1) (fun t _ => many - (intOf t).toNat)
  case atStart =>
    obtain ⟨h1, h2, h3, h4, h5⟩ := HINIT.out _ rfl
    exact ⟨0, [], M.toList, by omega, rfl, rfl, HK.out _ _ _ _ H0.out (h1.mono (fun _ h => h.elim)), by omega, h3, h4, h5, by simp [hMs]⟩
  case round =>
    obtain ⟨k, l, rest, hk, rfl, hl, hI, hsz, hres, hbox, hrow, hrest⟩ := hrel
    have bx : wr.cell? ⟨w.heap.size + 2, 0, none⟩ = some (.slice (some ⟨w.heap.size + 1, 0, none⟩) many many) := by rw [cell_of_row _ _ _ _ _ _ hbox]; rfl
    by_cases hlt : k < many
    · have HB := hide (HST.out k l wr.drew hlt (HK.out _ _ _ _ hI ⟨rfl, rfl, rfl, Nat.le_refl _, fun _ _ _ => rfl⟩) (by show w.heap.size + 3 ≤ wr.heap.size; omega))
      have HAF := hide (mk_after mkiC 1 (fun _ => rfl) 115 3 w many k S HS.out I HK.out l rest wr hlt hl hsz hres hbox hrow hrest)
      rw [Nat.mul_one] at HAF
      have HR6 : Hid ((rest.drop 1).length = (many - (k + 1)) * 1) := by show _ = _; rw [List.length_drop, hrest]; omega
      have HLL : Hid (∀ x : Int, (l ++ [x]).length = k + 1) := fun x => by rw [List.length_append, hl]; rfl
      clear hI hres hbox hrow hl hrest
      go_wp2_with fail
      go_region_law (go_simp; (with_reducible show Calls Tryz.prog 92 _ _ _); refine HB.out.mono ?_; rintro e w2 ⟨x, rfl, hI2, ht2⟩; obtain ⟨bx2, ⟨u, hu⟩, hff, h5⟩ := HAF.out x w2 hI2 ht2; have H5 := hide h5; have q0 : w2.cell? ⟨w.heap.size + 1, k, none⟩ = some (u 0) := hu 0 (by omega); have f0 := hff k; clear hI2 ht2 hu hff h5)
      all_goals (
        go_wp2
        go_roundw
        case rel => exact ⟨k + 1, l ++ [x], rest.drop 1, by omega, by go_num, HLL.out x, H5.out.1, H5.out.2.1, H5.out.2.2.1, H5.out.2.2.2.1, H5.out.2.2.2.2, HR6.out⟩
        case measure => simp [intOf]; omega)
    · obtain rfl : k = many := by omega
      obtain rfl : rest = [] := List.eq_nil_of_length_eq_zero (by rw [hrest, Nat.sub_self, Nat.zero_mul])
      rw [List.append_nil] at hrow
      have r0 : wr.cell? ⟨w.heap.size, 0, none⟩ = some (.slice none 0 0) := by rw [cell_of_row _ _ _ _ _ _ hres]; rfl
      have fr0 := free_of_block hres 0
      obtain ⟨wF, hwF⟩ : ∃ wF, wF = wr.setCell ⟨w.heap.size, 0, none⟩ (.slice (some ⟨w.heap.size + 1, 0, none⟩) k k) := ⟨_, rfl⟩
      have hFB : wF.heap[w.heap.size]? = some (.cells #[.slice (some ⟨w.heap.size + 1, 0, none⟩) k k] 115 (0, 0)) := by rw [hwF]; exact block_set hres 0 _
      have y0 : wF.cell? ⟨w.heap.size, 0, none⟩ = some (.slice (some ⟨w.heap.size + 1, 0, none⟩) k k) := by rw [cell_of_row _ _ _ _ _ _ hFB]; rfl
      have tF : Touch (· = w.heap.size) wr wF := by rw [hwF]; exact Touch.ofSet _ _ _ _ rfl
      have HEND : Hid (I k l wF ∧ l.length = k ∧ wF.ownsRow w.heap.size 3 1 (.slice (some ⟨w.heap.size + 1, 0, none⟩) k k) k (mkisC l)) := ⟨HK.out _ _ _ _ hI (tF.mono (fun b hb => by rw [hb]; omega)), hl, own_keep hrow (fun b e => tF.block b (World.ownsRow.lt hrow b e).2 (by simp [Value.ownBlock] at e; omega))⟩
      have HWF := hide hwF
      clear hI hres hbox hrow hl hrest hFB tF hwF
      go_wp2
      rw [← HWF.out]
      refine bodyPost_ret (v := .agg #[.slice (some ⟨w.heap.size + 1, 0, none⟩) k k]) (by simp [results, Tryz.results91, go_sem, y0]) rfl ?_
      exact ⟨_, l, rfl, HEND.out⟩
set_option maxRecDepth 100000 in
set_option maxHeartbeats 4000000 in
theorem makeInt1_any (cb : Nat) (many : Nat) (hm : many ≤ 255) (S : Nat → Prop) (w : World) (hS : ∀ b, S b → b < w.heap.size) (I : Nat → List Int → World → Prop)
    (hkeep : ∀ j l wr w', I j l wr → Touch (fun b => w.heap.size ≤ b ∧ b < w.heap.size + 3) wr w' → I j l w')
    (hstep : ∀ j l wr, j < many → I j l wr → w.heap.size + 3 ≤ wr.heap.size → Calls Tryz.prog 131 #[.int .i64 j, .pointer (some ⟨cb, 0, none⟩)] wr fun e w' => ∃ x : Int, e = .returned (.int .i64 x) ∧ I (j + 1) (l ++ [x]) w' ∧ Touch S wr w')
    (h0 : I 0 [] w) : Calls Tryz.prog 91 #[.int .i64 many, .func (.func 131) #[] #[.pointer (some ⟨cb, 0, none⟩)]] w fun e w' => ∃ x l, e = .returned (.agg #[.slice (some ⟨x, 0, none⟩) many many]) ∧ I many l w' ∧ l.length = many ∧ w'.ownsRow w.heap.size 3 1 (.slice (some ⟨x, 0, none⟩) many many) many (mkisC l) := by
  obtain ⟨i0, hi, hz0, hz1, hz2⟩ := info_parts Tryz.info3
  have hmk : ∀ W : World, (Instr.makeSlice 40 (.int .i64 (many : Int)) (.int .i64 (many : Int))).run Tryz.prog W = .ok (.slice (some ⟨W.heap.size, 0, none⟩) many many) (W.alloc (.cells (madeCells #[.int .i64 0] (many * 1)) 3)) := by
    intro W
    have := run_make (P := Tryz.prog) (w := W) 40 3 i0 _ Tryz.underlying40 hi hz0 .i64 .i64 (many : Int) (many : Int) (by omega) (by omega) (by rw [hz2]; omega) (by omega)
    simpa [hz1, Value.cells] using this
  generalize hM : madeCells #[.int .i64 0] (many * 1) = M at hmk
  have hMs : M.size = many * 1 := by rw [← hM]; simp [madeCells]
  have HK := hide hkeep
  have HS := hide hS
  have HST := hide hstep
  have H0 := hide h0
  clear hkeep hS hstep h0 hM
  have HINIT := hide (mk_init w 115 3 1 many M hm hMs)
  go_enter Tryz.func91, Tryz.ntmps91
  go_wp2
  go_loopw [13] (fun t wr => ∃ (k : Nat) (l : List Int) (rest : List Value), k ≤ many ∧ t = .int .i64 k ∧ l.length = k ∧ I k l wr ∧ w.heap.size + 3 ≤ wr.heap.size ∧ wr.heap[w.heap.size]? = some (.cells #[.slice none 0 0] 115 (0, 0)) ∧ wr.heap[w.heap.size + 2]? = some (.cells #[.slice (some ⟨w.heap.size + 1, 0, none⟩) many many] 115 (0, 0)) ∧ wr.ownsRow w.heap.size 3 1 (.slice (some ⟨w.heap.size + 1, 0, none⟩) many many) many (mkisC l ++ rest) ∧ rest.length = (many - k) * 1) (fun t _ => many - (intOf t).toNat)
  case atStart =>
    obtain ⟨h1, h2, h3, h4, h5⟩ := HINIT.out _ rfl
    exact ⟨0, [], M.toList, by omega, rfl, rfl, HK.out _ _ _ _ H0.out (h1.mono (fun _ h => h.elim)), by omega, h3, h4, h5, by simp [hMs]⟩
  case round =>
    obtain ⟨k, l, rest, hk, rfl, hl, hI, hsz, hres, hbox, hrow, hrest⟩ := hrel
    have bx : wr.cell? ⟨w.heap.size + 2, 0, none⟩ = some (.slice (some ⟨w.heap.size + 1, 0, none⟩) many many) := by rw [cell_of_row _ _ _ _ _ _ hbox]; rfl
    by_cases hlt : k < many
    · have HB := hide (HST.out k l wr.drew hlt (HK.out _ _ _ _ hI ⟨rfl, rfl, rfl, Nat.le_refl _, fun _ _ _ => rfl⟩) (by show w.heap.size + 3 ≤ wr.heap.size; omega))
      have HAF := hide (mk_after mkiC 1 (fun _ => rfl) 115 3 w many k S HS.out I HK.out l rest wr hlt hl hsz hres hbox hrow hrest)
      rw [Nat.mul_one] at HAF
      have HR6 : Hid ((rest.drop 1).length = (many - (k + 1)) * 1) := by show _ = _; rw [List.length_drop, hrest]; omega
      have HLL : Hid (∀ x : Int, (l ++ [x]).length = k + 1) := fun x => by rw [List.length_append, hl]; rfl
      clear hI hres hbox hrow hl hrest
      go_wp2_with fail
      go_region_law (go_simp; (with_reducible show Calls Tryz.prog 131 _ _ _); refine HB.out.mono ?_; rintro e w2 ⟨x, rfl, hI2, ht2⟩; obtain ⟨bx2, ⟨u, hu⟩, hff, h5⟩ := HAF.out x w2 hI2 ht2; have H5 := hide h5; have q0 : w2.cell? ⟨w.heap.size + 1, k, none⟩ = some (u 0) := hu 0 (by omega); have f0 := hff k; clear hI2 ht2 hu hff h5)
      all_goals (
        go_wp2
        go_roundw
        case rel => exact ⟨k + 1, l ++ [x], rest.drop 1, by omega, by go_num, HLL.out x, H5.out.1, H5.out.2.1, H5.out.2.2.1, H5.out.2.2.2.1, H5.out.2.2.2.2, HR6.out⟩
        case measure => simp [intOf]; omega)
    · obtain rfl : k = many := by omega
      obtain rfl : rest = [] := List.eq_nil_of_length_eq_zero (by rw [hrest, Nat.sub_self, Nat.zero_mul])
      rw [List.append_nil] at hrow
      have r0 : wr.cell? ⟨w.heap.size, 0, none⟩ = some (.slice none 0 0) := by rw [cell_of_row _ _ _ _ _ _ hres]; rfl
      have fr0 := free_of_block hres 0
      obtain ⟨wF, hwF⟩ : ∃ wF, wF = wr.setCell ⟨w.heap.size, 0, none⟩ (.slice (some ⟨w.heap.size + 1, 0, none⟩) k k) := ⟨_, rfl⟩
      have hFB : wF.heap[w.heap.size]? = some (.cells #[.slice (some ⟨w.heap.size + 1, 0, none⟩) k k] 115 (0, 0)) := by rw [hwF]; exact block_set hres 0 _
      have y0 : wF.cell? ⟨w.heap.size, 0, none⟩ = some (.slice (some ⟨w.heap.size + 1, 0, none⟩) k k) := by rw [cell_of_row _ _ _ _ _ _ hFB]; rfl
      have tF : Touch (· = w.heap.size) wr wF := by rw [hwF]; exact Touch.ofSet _ _ _ _ rfl
      have HEND : Hid (I k l wF ∧ l.length = k ∧ wF.ownsRow w.heap.size 3 1 (.slice (some ⟨w.heap.size + 1, 0, none⟩) k k) k (mkisC l)) := ⟨HK.out _ _ _ _ hI (tF.mono (fun b hb => by rw [hb]; omega)), hl, own_keep hrow (fun b e => tF.block b (World.ownsRow.lt hrow b e).2 (by simp [Value.ownBlock] at e; omega))⟩
      have HWF := hide hwF
      clear hI hres hbox hrow hl hrest hFB tF hwF
      go_wp2
      rw [← HWF.out]
      refine bodyPost_ret (v := .agg #[.slice (some ⟨w.heap.size + 1, 0, none⟩) k k]) (by simp [results, Tryz.results91, go_sem, y0]) rfl ?_
      exact ⟨_, l, rfl, HEND.out⟩
end Go.Proofs.YtnjlbgolnbdkaaaGreat
namespace Go.Proofs.YtnjlbgolnbdkaaaGreat
open Go.RowKit

set_option maxHeartbeats 1000000 in
theorem pickTurn_any (cb x n j : Nat) (val : Int) (w : World) (h0 : w.cell? ⟨cb, 0, none⟩ = some (.slice (some ⟨x, 0, none⟩) n n)) (h1 : w.cell? ⟨x, j, none⟩ = some (.int .i64 val)) (hj : j < n) :
    Calls Tryz.prog 131 #[.int .i64 j, .pointer (some ⟨cb, 0, none⟩)] w fun e w' => e = .returned (.int .i64 val) ∧ w' = w := by
  go_enter Tryz.func131, Tryz.ntmps131
  go_wp2
  go_ret
  exact ⟨rfl, rfl⟩
theorem cell_same {w w' : World} {b : Nat} (h : w'.heap[b]? = w.heap[b]?) (o : Nat) : w'.cell? ⟨b, o, none⟩ = w.cell? ⟨b, o, none⟩ := World.cell?_of_block h
def turnI (n : Nat) (prio : Nat → Int) : List Int := if n = 1 then [0] else if turned prio then [1, 0] else [0, 1]
theorem turn2_eq (prio : Nat → Int) : turn2 (turned prio) = ((turnI 2 prio).map (Value.int .i64)).toArray := by
  unfold turn2 turnI
  cases turned prio <;> rfl
theorem turnI_length (n : Nat) (prio : Nat → Int) (h : n = 1 ∨ n = 2) : (turnI n prio).length = n := by
  rcases h with rfl | rfl
  · rfl
  · unfold turnI; cases turned prio <;> rfl
theorem mkisC_eq (l : List Int) : mkisC l = l.map (Value.int .i64) := by
  induction l with
  | nil => rfl
  | cons a l ih => show mkiC a ++ mkisC l = _; rw [ih]; rfl

set_option maxRecDepth 100000 in
set_option maxHeartbeats 4000000 in
theorem turns1_any (q c : Nat) (prio : Nat → Int) (w : World) (hq : ∀ k, k < 1 → w.cell? ⟨q, k * 2, none⟩ = some (.int .i64 (prio k))) :
    Calls Tryz.prog 95 #[.slice (some ⟨q, 0, none⟩) 1 c] w fun e w' => ∃ x, e = .returned (.agg #[.slice (some ⟨x, 0, none⟩) 1 1]) ∧ w'.ownsRow w.heap.size 3 1 (.slice (some ⟨x, 0, none⟩) 1 1) 1 ((turnI 1 prio).map (Value.int .i64)) ∧ Below w.heap.size w w' := by
  obtain ⟨i0, hi, hz0, hz1, hz2⟩ := info_parts Tryz.info3
  have hmk : ∀ W : World, (Instr.makeSlice 40 (.int .i64 1) (.int .i64 1)).run Tryz.prog W = .ok (.slice (some ⟨W.heap.size, 0, none⟩) 1 1) (W.alloc (.cells #[.int .i64 0] 3)) := by
    intro W
    have := run_make (P := Tryz.prog) (w := W) 40 3 i0 _ Tryz.underlying40 hi hz0 .i64 .i64 1 1 (by omega) (by omega) (by rw [hz2]; omega) (by omega)
    have hm : madeCells #[Value.int .i64 0] 1 = #[.int .i64 0] := by apply Array.ext'; rw [made_ints]; rfl
    simpa [hz1, Value.cells, hm] using this
  have HMK := hide hmk
  obtain ⟨w4, hw4⟩ : ∃ w4, w4 = (((w.alloc (.cells #[.slice (some ⟨q, 0, none⟩) 1 c] 122)).alloc (.cells #[.slice none 0 0] 115)).alloc (.cells #[.int .i64 0] 3)).alloc (.cells #[.slice (some ⟨w.heap.size + 1 + 1, 0, none⟩) 1 1] 40) := ⟨_, rfl⟩
  have hs4 : w4.heap.size = w.heap.size + 4 := by rw [hw4]; simp
  have ha4 : w4.heap[w.heap.size]? = some (.cells #[.slice (some ⟨q, 0, none⟩) 1 c] 122 (0, 0)) := by rw [hw4, Below.heap_alloc _ _ _ (by simp; omega), Below.heap_alloc _ _ _ (by simp; omega), Below.heap_alloc _ _ _ (by simp)]; exact heap_at rfl
  have hr4 : w4.heap[w.heap.size + 1]? = some (.cells #[.slice none 0 0] 115 (0, 0)) := by rw [hw4, Below.heap_alloc _ _ _ (by simp), Below.heap_alloc _ _ _ (by simp)]; exact heap_at (by simp)
  have hp4 : w4.heap[w.heap.size + 2]? = some (.cells #[.int .i64 0] 3 (0, 0)) := by rw [hw4, Below.heap_alloc _ _ _ (by simp)]; exact heap_at (by simp)
  have hb4 : w4.heap[w.heap.size + 3]? = some (.cells #[.slice (some ⟨w.heap.size + 2, 0, none⟩) 1 1] 40 (0, 0)) := by rw [hw4]; exact heap_at (by simp)
  have t4 : Below w.heap.size w w4 := by rw [hw4]; exact ((((Below.refl _ _).alloc (Nat.le_refl _) _).alloc (by simp) _).alloc (by simp; omega) _).alloc (by simp; omega) _
  have HQ : Hid (∀ W, Touch (fun b => w.heap.size + 1 ≤ b) w4 W → ∀ k, k < 1 → W.cell? ⟨q, k * 2, none⟩ = some (.int .i64 (prio k))) := fun W hW k hk => by
    have hql : q < w.heap.size := lt_of_cell (hq k hk)
    rw [World.cell?_of_block (w := w4) (hW.block q (by omega) (by omega)), World.cell?_of_block (w := w) (t4.block q hql)]
    exact hq k hk
  have HA4 := hide ha4
  have HR4 := hide hr4
  have HP4 := hide hp4
  have HB4 := hide hb4
  have HT4 := hide t4
  have HW4 := hide hw4
  have HS4 := hide hs4
  have b0 : w4.cell? ⟨w.heap.size + 1 + 1 + 1, 0, none⟩ = some (.slice (some ⟨w.heap.size + 1 + 1, 0, none⟩) 1 1) := by rw [cell_of_row _ _ _ _ _ _ hb4]; rfl
  clear hq ha4 hr4 hp4 hb4 t4 hw4 hs4
  go_enter Tryz.func95, Tryz.ntmps95
  go_wp2_with fail
  rw [← HW4.out]
  go_wp2
  go_loopw [10] (fun t wr => Touch (· = w.heap.size + 2) w4 wr ∧ ((t = .int .i64 0 ∧ wr.heap[w.heap.size + 2]? = some (.cells #[.int .i64 0] 3 (0, 0))) ∨ (t = .int .i64 1 ∧ wr.heap[w.heap.size + 2]? = some (.cells #[.int .i64 0] 3 (0, 0))))) (fun t _ => 1 - (intOf t).toNat)
  case atStart => exact ⟨Touch.refl _ _, .inl ⟨rfl, HP4.out⟩⟩
  case round =>
    obtain ⟨hT, hrel⟩ := hrel
    have bb : wr.cell? ⟨w.heap.size + 1 + 1 + 1, 0, none⟩ = some (.slice (some ⟨w.heap.size + 1 + 1, 0, none⟩) 1 1) := (cell_same (hT.block (w.heap.size + 1 + 1 + 1) (by have := HS4.out; omega) (by omega)) 0).trans b0
    clear b0
    rcases hrel with ⟨rfl, hk⟩ | ⟨rfl, hk⟩
    · have x0 : wr.cell? ⟨w.heap.size + 2, 0, none⟩ = some (.int .i64 0) := by rw [cell_of_row _ _ _ _ _ _ hk]; rfl
      have ff := free_of_block hk 0
      have HK := hide hk
      have HT := hide hT
      clear hk hT
      go_wp2
      go_roundw
      case rel => exact ⟨HT.out.thenSet _ _ rfl, .inr (⟨by rfl, block_set HK.out 0 _⟩)⟩
      case measure => simp [intOf]
    · have HK := hide hk
      have hsz := HS4.out
      have hsr := hT.size
      have PRI : Prios wr w.heap.size q 1 c prio := ⟨by rw [cell_of_row _ _ _ _ _ _ ((hT.block _ (by omega) (by omega)).trans HA4.out)]; rfl, HQ.out wr (hT.mono (fun _ h => by omega))⟩
      have HSO : Hid (Calls Tryz.prog 128 #[.slice (some ⟨w.heap.size + 1 + 1, 0, none⟩) 1 1, .func (.func 129) #[] #[.pointer (some ⟨w.heap.size, 0, none⟩)]] wr fun e w' => (∃ v, e = .returned v) ∧ w'.heap[w.heap.size + 2]? = some (.cells ((turnI 1 prio).map (Value.int .i64)).toArray 3 (0, 0)) ∧ Touch (· = w.heap.size + 2) wr w') := (sort1_any (w.heap.size + 2) w.heap.size wr).mono (fun e w' ⟨he, hw⟩ => ⟨he, by rw [hw]; exact hk, by rw [hw]; exact Touch.refl _ _⟩)
      have HT := hide hT
      clear hk hT PRI
      go_wp2_with fail
      refine HSO.out.mono ?_
      rintro e w5 ⟨⟨v5, rfl⟩, hk5, ht5⟩
      have hs5 := ht5.size
      have HT5 : Hid (Touch (· = w.heap.size + 2) w4 w5) := HT.out.andThen ht5
      have bb5 : w5.cell? ⟨w.heap.size + 1 + 1 + 1, 0, none⟩ = some (.slice (some ⟨w.heap.size + 1 + 1, 0, none⟩) 1 1) := (cell_same (ht5.block (w.heap.size + 1 + 1 + 1) (by omega) (by omega)) 0).trans bb
      have HMI := hide (makeInt1_any (w.heap.size + 1 + 1 + 1) 1 (by omega) (fun _ => False) w5 (fun _ h => h.elim) (fun j l W => l = (turnI 1 prio).take j ∧ Touch (fun b => w5.heap.size ≤ b) w5 W) (fun j l W W' hI t => ⟨hI.1, hI.2.trans t (fun i hi => .inl hi.1)⟩)
        (fun j l W hj hI hsW => by
          have hjl : j < (turnI 1 prio).length := by rw [turnI_length _ _ (by omega)]; exact hj
          refine (pickTurn_any (w.heap.size + 1 + 1 + 1) (w.heap.size + 2) 1 j ((turnI 1 prio)[j]) W ?_ ?_ hj).mono ?_
          · exact (cell_same (hI.2.block (w.heap.size + 1 + 1 + 1) (by omega) (by omega)) 0).trans bb5
          · rw [cell_same (hI.2.block (w.heap.size + 2) (by omega) (by omega)) j, cell_of_row _ _ _ _ _ _ hk5]
            simp [hjl]
          · rintro e w' ⟨rfl, rfl⟩
            exact ⟨_, rfl, ⟨by rw [hI.1, List.take_append_getElem hjl], hI.2⟩, Touch.refl _ _⟩)
        ⟨by simp, Touch.refl _ _⟩)
      clear hk5 ht5 HSO bb
      go_wp2_with fail
      refine HMI.out.mono ?_
      rintro e w6 ⟨x, l, rfl, ⟨hl, ht6⟩, hll, hown⟩
      have hs6 := ht6.size
      have hr6 : w6.heap[w.heap.size + 1]? = some (.cells #[.slice none 0 0] 115 (0, 0)) := (ht6.block _ (by omega) (by omega)).trans ((HT5.out.block _ (by omega) (by omega)).trans HR4.out)
      have r6 : w6.cell? ⟨w.heap.size + 1, 0, none⟩ = some (.slice none 0 0) := by rw [cell_of_row _ _ _ _ _ _ hr6]; rfl
      have g6 := free_of_block hr6 0
      have hlt6 : w.heap.size + 1 < w6.heap.size := by omega
      have HEND : Hid ((w6.setCell ⟨w.heap.size + 1, 0, none⟩ (.slice (some ⟨x, 0, none⟩) 1 1)).ownsRow w.heap.size 3 1 (.slice (some ⟨x, 0, none⟩) 1 1) 1 ((turnI 1 prio).map (Value.int .i64)) ∧ Below w.heap.size w (w6.setCell ⟨w.heap.size + 1, 0, none⟩ (.slice (some ⟨x, 0, none⟩) 1 1))) := by
        rw [List.take_of_length_le (by rw [turnI_length _ _ (by omega)]; omega)] at hl
        rw [hl, mkisC_eq] at hown
        have ts : Touch (· = w.heap.size + 1) w6 (w6.setCell ⟨w.heap.size + 1, 0, none⟩ (.slice (some ⟨x, 0, none⟩) 1 1)) := Touch.ofSet _ _ _ _ rfl
        refine ⟨own_low (own_keep hown (fun b e => ts.block b (World.ownsRow.lt hown b e).2 (by have := (World.ownsRow.lt hown b e).1; omega))) (by omega), ?_⟩
        have t : Touch (fun b => w.heap.size ≤ b) w (w6.setCell ⟨w.heap.size + 1, 0, none⟩ (.slice (some ⟨x, 0, none⟩) 1 1)) := Touch.trans (Touch.trans (Touch.trans (Touch.ofBelow (S := fun b => w.heap.size ≤ b) HT4.out) HT5.out (fun i hi => .inl (by omega))) ht6 (fun i hi => .inl (by omega))) ts (fun i hi => .inl (by omega))
        exact t.below (Nat.le_refl _) (fun k hk => hk)
      clear hl ht6 hll hown hr6 HMI
      go_wp2
      refine bodyPost_ret (v := .agg #[.slice (some ⟨x, 0, none⟩) 1 1]) (by simp [results, Tryz.results95, go_sem, r6]) rfl ?_
      exact ⟨x, rfl, HEND.out⟩
set_option maxRecDepth 100000 in
set_option maxHeartbeats 4000000 in
theorem turns2_any (q c : Nat) (prio : Nat → Int) (w : World) (hq : ∀ k, k < 2 → w.cell? ⟨q, k * 2, none⟩ = some (.int .i64 (prio k))) :
    Calls Tryz.prog 95 #[.slice (some ⟨q, 0, none⟩) 2 c] w fun e w' => ∃ x, e = .returned (.agg #[.slice (some ⟨x, 0, none⟩) 2 2]) ∧ w'.ownsRow w.heap.size 3 1 (.slice (some ⟨x, 0, none⟩) 2 2) 2 ((turnI 2 prio).map (Value.int .i64)) ∧ Below w.heap.size w w' := by
  obtain ⟨i0, hi, hz0, hz1, hz2⟩ := info_parts Tryz.info3
  have hmk : ∀ W : World, (Instr.makeSlice 40 (.int .i64 2) (.int .i64 2)).run Tryz.prog W = .ok (.slice (some ⟨W.heap.size, 0, none⟩) 2 2) (W.alloc (.cells #[.int .i64 0, .int .i64 0] 3)) := by
    intro W
    have := run_make (P := Tryz.prog) (w := W) 40 3 i0 _ Tryz.underlying40 hi hz0 .i64 .i64 2 2 (by omega) (by omega) (by rw [hz2]; omega) (by omega)
    have hm : madeCells #[Value.int .i64 0] 2 = #[.int .i64 0, .int .i64 0] := by apply Array.ext'; rw [made_ints]; rfl
    simpa [hz1, Value.cells, hm] using this
  have HMK := hide hmk
  obtain ⟨w4, hw4⟩ : ∃ w4, w4 = (((w.alloc (.cells #[.slice (some ⟨q, 0, none⟩) 2 c] 122)).alloc (.cells #[.slice none 0 0] 115)).alloc (.cells #[.int .i64 0, .int .i64 0] 3)).alloc (.cells #[.slice (some ⟨w.heap.size + 1 + 1, 0, none⟩) 2 2] 40) := ⟨_, rfl⟩
  have hs4 : w4.heap.size = w.heap.size + 4 := by rw [hw4]; simp
  have ha4 : w4.heap[w.heap.size]? = some (.cells #[.slice (some ⟨q, 0, none⟩) 2 c] 122 (0, 0)) := by rw [hw4, Below.heap_alloc _ _ _ (by simp; omega), Below.heap_alloc _ _ _ (by simp; omega), Below.heap_alloc _ _ _ (by simp)]; exact heap_at rfl
  have hr4 : w4.heap[w.heap.size + 1]? = some (.cells #[.slice none 0 0] 115 (0, 0)) := by rw [hw4, Below.heap_alloc _ _ _ (by simp), Below.heap_alloc _ _ _ (by simp)]; exact heap_at (by simp)
  have hp4 : w4.heap[w.heap.size + 2]? = some (.cells #[.int .i64 0, .int .i64 0] 3 (0, 0)) := by rw [hw4, Below.heap_alloc _ _ _ (by simp)]; exact heap_at (by simp)
  have hb4 : w4.heap[w.heap.size + 3]? = some (.cells #[.slice (some ⟨w.heap.size + 2, 0, none⟩) 2 2] 40 (0, 0)) := by rw [hw4]; exact heap_at (by simp)
  have t4 : Below w.heap.size w w4 := by rw [hw4]; exact ((((Below.refl _ _).alloc (Nat.le_refl _) _).alloc (by simp) _).alloc (by simp; omega) _).alloc (by simp; omega) _
  have HQ : Hid (∀ W, Touch (fun b => w.heap.size + 1 ≤ b) w4 W → ∀ k, k < 2 → W.cell? ⟨q, k * 2, none⟩ = some (.int .i64 (prio k))) := fun W hW k hk => by
    have hql : q < w.heap.size := lt_of_cell (hq k hk)
    rw [World.cell?_of_block (w := w4) (hW.block q (by omega) (by omega)), World.cell?_of_block (w := w) (t4.block q hql)]
    exact hq k hk
  have HA4 := hide ha4
  have HR4 := hide hr4
  have HP4 := hide hp4
  have HB4 := hide hb4
  have HT4 := hide t4
  have HW4 := hide hw4
  have HS4 := hide hs4
  have b0 : w4.cell? ⟨w.heap.size + 1 + 1 + 1, 0, none⟩ = some (.slice (some ⟨w.heap.size + 1 + 1, 0, none⟩) 2 2) := by rw [cell_of_row _ _ _ _ _ _ hb4]; rfl
  clear hq ha4 hr4 hp4 hb4 t4 hw4 hs4
  go_enter Tryz.func95, Tryz.ntmps95
  go_wp2_with fail
  rw [← HW4.out]
  go_wp2
  go_loopw [10] (fun t wr => Touch (· = w.heap.size + 2) w4 wr ∧ ((t = .int .i64 0 ∧ wr.heap[w.heap.size + 2]? = some (.cells #[.int .i64 0, .int .i64 0] 3 (0, 0))) ∨ (t = .int .i64 1 ∧ wr.heap[w.heap.size + 2]? = some (.cells #[.int .i64 0, .int .i64 0] 3 (0, 0))) ∨ (t = .int .i64 2 ∧ wr.heap[w.heap.size + 2]? = some (.cells #[.int .i64 0, .int .i64 1] 3 (0, 0))))) (fun t _ => 2 - (intOf t).toNat)
  case atStart => exact ⟨Touch.refl _ _, .inl ⟨rfl, HP4.out⟩⟩
  case round =>
    obtain ⟨hT, hrel⟩ := hrel
    have bb : wr.cell? ⟨w.heap.size + 1 + 1 + 1, 0, none⟩ = some (.slice (some ⟨w.heap.size + 1 + 1, 0, none⟩) 2 2) := (cell_same (hT.block (w.heap.size + 1 + 1 + 1) (by have := HS4.out; omega) (by omega)) 0).trans b0
    clear b0
    rcases hrel with ⟨rfl, hk⟩ | ⟨rfl, hk⟩ | ⟨rfl, hk⟩
    · have x0 : wr.cell? ⟨w.heap.size + 2, 0, none⟩ = some (.int .i64 0) := by rw [cell_of_row _ _ _ _ _ _ hk]; rfl
      have ff := free_of_block hk 0
      have HK := hide hk
      have HT := hide hT
      clear hk hT
      go_wp2
      go_roundw
      case rel => exact ⟨HT.out.thenSet _ _ rfl, .inr (.inl ⟨by rfl, block_set HK.out 0 _⟩)⟩
      case measure => simp [intOf]
    · have x1 : wr.cell? ⟨w.heap.size + 2, 1, none⟩ = some (.int .i64 0) := by rw [cell_of_row _ _ _ _ _ _ hk]; rfl
      have ff := free_of_block hk 1
      have HK := hide hk
      have HT := hide hT
      clear hk hT
      go_wp2
      go_roundw
      case rel => exact ⟨HT.out.thenSet _ _ rfl, .inr (.inr (⟨by rfl, block_set HK.out 1 _⟩))⟩
      case measure => simp [intOf]
    · have HK := hide hk
      have hsz := HS4.out
      have hsr := hT.size
      have PRI : Prios wr w.heap.size q 2 c prio := ⟨by rw [cell_of_row _ _ _ _ _ _ ((hT.block _ (by omega) (by omega)).trans HA4.out)]; rfl, HQ.out wr (hT.mono (fun _ h => by omega))⟩
      have HSO : Hid (Calls Tryz.prog 128 #[.slice (some ⟨w.heap.size + 1 + 1, 0, none⟩) 2 2, .func (.func 129) #[] #[.pointer (some ⟨w.heap.size, 0, none⟩)]] wr fun e w' => (∃ v, e = .returned v) ∧ w'.heap[w.heap.size + 2]? = some (.cells ((turnI 2 prio).map (Value.int .i64)).toArray 3 (0, 0)) ∧ Touch (· = w.heap.size + 2) wr w') := (sort2_any (w.heap.size + 2) w.heap.size q c prio wr PRI hk).mono (fun e w' ⟨he, h1, h2⟩ => ⟨he, by rw [← turn2_eq]; exact h1, h2⟩)
      have HT := hide hT
      clear hk hT PRI
      go_wp2_with fail
      refine HSO.out.mono ?_
      rintro e w5 ⟨⟨v5, rfl⟩, hk5, ht5⟩
      have hs5 := ht5.size
      have HT5 : Hid (Touch (· = w.heap.size + 2) w4 w5) := HT.out.andThen ht5
      have bb5 : w5.cell? ⟨w.heap.size + 1 + 1 + 1, 0, none⟩ = some (.slice (some ⟨w.heap.size + 1 + 1, 0, none⟩) 2 2) := (cell_same (ht5.block (w.heap.size + 1 + 1 + 1) (by omega) (by omega)) 0).trans bb
      have HMI := hide (makeInt1_any (w.heap.size + 1 + 1 + 1) 2 (by omega) (fun _ => False) w5 (fun _ h => h.elim) (fun j l W => l = (turnI 2 prio).take j ∧ Touch (fun b => w5.heap.size ≤ b) w5 W) (fun j l W W' hI t => ⟨hI.1, hI.2.trans t (fun i hi => .inl hi.1)⟩)
        (fun j l W hj hI hsW => by
          have hjl : j < (turnI 2 prio).length := by rw [turnI_length _ _ (by omega)]; exact hj
          refine (pickTurn_any (w.heap.size + 1 + 1 + 1) (w.heap.size + 2) 2 j ((turnI 2 prio)[j]) W ?_ ?_ hj).mono ?_
          · exact (cell_same (hI.2.block (w.heap.size + 1 + 1 + 1) (by omega) (by omega)) 0).trans bb5
          · rw [cell_same (hI.2.block (w.heap.size + 2) (by omega) (by omega)) j, cell_of_row _ _ _ _ _ _ hk5]
            simp [hjl]
          · rintro e w' ⟨rfl, rfl⟩
            exact ⟨_, rfl, ⟨by rw [hI.1, List.take_append_getElem hjl], hI.2⟩, Touch.refl _ _⟩)
        ⟨by simp, Touch.refl _ _⟩)
      clear hk5 ht5 HSO bb
      go_wp2_with fail
      refine HMI.out.mono ?_
      rintro e w6 ⟨x, l, rfl, ⟨hl, ht6⟩, hll, hown⟩
      have hs6 := ht6.size
      have hr6 : w6.heap[w.heap.size + 1]? = some (.cells #[.slice none 0 0] 115 (0, 0)) := (ht6.block _ (by omega) (by omega)).trans ((HT5.out.block _ (by omega) (by omega)).trans HR4.out)
      have r6 : w6.cell? ⟨w.heap.size + 1, 0, none⟩ = some (.slice none 0 0) := by rw [cell_of_row _ _ _ _ _ _ hr6]; rfl
      have g6 := free_of_block hr6 0
      have hlt6 : w.heap.size + 1 < w6.heap.size := by omega
      have HEND : Hid ((w6.setCell ⟨w.heap.size + 1, 0, none⟩ (.slice (some ⟨x, 0, none⟩) 2 2)).ownsRow w.heap.size 3 1 (.slice (some ⟨x, 0, none⟩) 2 2) 2 ((turnI 2 prio).map (Value.int .i64)) ∧ Below w.heap.size w (w6.setCell ⟨w.heap.size + 1, 0, none⟩ (.slice (some ⟨x, 0, none⟩) 2 2))) := by
        rw [List.take_of_length_le (by rw [turnI_length _ _ (by omega)]; omega)] at hl
        rw [hl, mkisC_eq] at hown
        have ts : Touch (· = w.heap.size + 1) w6 (w6.setCell ⟨w.heap.size + 1, 0, none⟩ (.slice (some ⟨x, 0, none⟩) 2 2)) := Touch.ofSet _ _ _ _ rfl
        refine ⟨own_low (own_keep hown (fun b e => ts.block b (World.ownsRow.lt hown b e).2 (by have := (World.ownsRow.lt hown b e).1; omega))) (by omega), ?_⟩
        have t : Touch (fun b => w.heap.size ≤ b) w (w6.setCell ⟨w.heap.size + 1, 0, none⟩ (.slice (some ⟨x, 0, none⟩) 2 2)) := Touch.trans (Touch.trans (Touch.trans (Touch.ofBelow (S := fun b => w.heap.size ≤ b) HT4.out) HT5.out (fun i hi => .inl (by omega))) ht6 (fun i hi => .inl (by omega))) ts (fun i hi => .inl (by omega))
        exact t.below (Nat.le_refl _) (fun k hk => hk)
      clear hl ht6 hll hown hr6 HMI
      go_wp2
      refine bodyPost_ret (v := .agg #[.slice (some ⟨x, 0, none⟩) 2 2]) (by simp [results, Tryz.results95, go_sem, r6]) rfl ?_
      exact ⟨x, rfl, HEND.out⟩
end Go.Proofs.YtnjlbgolnbdkaaaGreat
namespace Go.Proofs.YtnjlbgolnbdkaaaGreat
open Go.RowKit

theorem Tryz.info166 : (Tryz.prog.info? 166).map (fun i => (i.zero, i.size, i.bytes)) = some (some (.agg #[.slice none 0 0, .int .i64 0, .int .i64 0, .bool false, .int .i64 0, .int .i64 0]), 6, 64) := by kernel_rfl
def mkqC (x : El) : List Value := [.slice (x.ad 0) (x.n 0) (x.c 0), .int .i64 (x.i 0), .int .i64 (x.i 1), .bool x.b, .int .i64 (x.i 2), .int .i64 (x.i 3)]
def mkqsC (l : List El) : List Value := l.flatMap mkqC
set_option maxRecDepth 100000 in
set_option maxHeartbeats 4000000 in
theorem makeProc_any (cb : Nat) (many : Nat) (hm : many ≤ 255) (S : Nat → Prop) (w : World) (hS : ∀ b, S b → b < w.heap.size) (I : Nat → List El → World → Prop)
    (hkeep : ∀ j l wr w', I j l wr → Touch (fun b => w.heap.size ≤ b ∧ b < w.heap.size + 3) wr w' → I j l w')
    (hstep : ∀ j l wr, j < many → I j l wr → w.heap.size + 3 ≤ wr.heap.size → Calls Tryz.prog 94 #[.int .i64 j, .pointer (some ⟨cb, 0, none⟩)] wr fun e w' => ∃ x : El, e = .returned (.agg #[.slice (x.ad 0) (x.n 0) (x.c 0), .int .i64 (x.i 0), .int .i64 (x.i 1), .bool x.b, .int .i64 (x.i 2), .int .i64 (x.i 3)]) ∧ I (j + 1) (l ++ [x]) w' ∧ Touch S wr w')
    (h0 : I 0 [] w) : Calls Tryz.prog 93 #[.int .i64 many, .func (.func 94) #[] #[.pointer (some ⟨cb, 0, none⟩)]] w fun e w' => ∃ x l, e = .returned (.agg #[.slice (some ⟨x, 0, none⟩) many many]) ∧ I many l w' ∧ l.length = many ∧ w'.ownsRow w.heap.size 166 6 (.slice (some ⟨x, 0, none⟩) many many) many (mkqsC l) := by
  obtain ⟨i0, hi, hz0, hz1, hz2⟩ := info_parts Tryz.info166
  have hmk : ∀ W : World, (Instr.makeSlice 116 (.int .i64 (many : Int)) (.int .i64 (many : Int))).run Tryz.prog W = .ok (.slice (some ⟨W.heap.size, 0, none⟩) many many) (W.alloc (.cells (madeCells #[.slice none 0 0, .int .i64 0, .int .i64 0, .bool false, .int .i64 0, .int .i64 0] (many * 6)) 166)) := by
    intro W
    have := run_make (P := Tryz.prog) (w := W) 116 166 i0 _ Tryz.underlying116 hi hz0 .i64 .i64 (many : Int) (many : Int) (by omega) (by omega) (by rw [hz2]; omega) (by omega)
    simpa [hz1, Value.cells] using this
  generalize hM : madeCells #[.slice none 0 0, .int .i64 0, .int .i64 0, .bool false, .int .i64 0, .int .i64 0] (many * 6) = M at hmk
  have hMs : M.size = many * 6 := by rw [← hM]; simp [madeCells]
  have HK := hide hkeep
  have HS := hide hS
  have HST := hide hstep
  have H0 := hide h0
  clear hkeep hS hstep h0 hM
  have HINIT := hide (mk_init w 118 166 6 many M hm hMs)
  go_enter Tryz.func93, Tryz.ntmps93
  go_wp2
  go_loopw [13] (fun t wr => ∃ (k : Nat) (l : List El) (rest : List Value), k ≤ many ∧ t = .int .i64 k ∧ l.length = k ∧ I k l wr ∧ w.heap.size + 3 ≤ wr.heap.size ∧ wr.heap[w.heap.size]? = some (.cells #[.slice none 0 0] 118 (0, 0)) ∧ wr.heap[w.heap.size + 2]? = some (.cells #[.slice (some ⟨w.heap.size + 1, 0, none⟩) many many] 118 (0, 0)) ∧ wr.ownsRow w.heap.size 166 6 (.slice (some ⟨w.heap.size + 1, 0, none⟩) many many) many (mkqsC l ++ rest) ∧ rest.length = (many - k) * 6) (fun t _ => many - (intOf t).toNat)
  case atStart =>
    obtain ⟨h1, h2, h3, h4, h5⟩ := HINIT.out _ rfl
    exact ⟨0, [], M.toList, by omega, rfl, rfl, HK.out _ _ _ _ H0.out (h1.mono (fun _ h => h.elim)), by omega, h3, h4, h5, by simp [hMs]⟩
  case round =>
    obtain ⟨k, l, rest, hk, rfl, hl, hI, hsz, hres, hbox, hrow, hrest⟩ := hrel
    have bx : wr.cell? ⟨w.heap.size + 2, 0, none⟩ = some (.slice (some ⟨w.heap.size + 1, 0, none⟩) many many) := by rw [cell_of_row _ _ _ _ _ _ hbox]; rfl
    by_cases hlt : k < many
    · have HB := hide (HST.out k l wr.drew hlt (HK.out _ _ _ _ hI ⟨rfl, rfl, rfl, Nat.le_refl _, fun _ _ _ => rfl⟩) (by show w.heap.size + 3 ≤ wr.heap.size; omega))
      have HAF := hide (mk_after mkqC 6 (fun _ => rfl) 118 166 w many k S HS.out I HK.out l rest wr hlt hl hsz hres hbox hrow hrest)
      have HR6 : Hid ((rest.drop 6).length = (many - (k + 1)) * 6) := by show _ = _; rw [List.length_drop, hrest]; omega
      have HLL : Hid (∀ x : El, (l ++ [x]).length = k + 1) := fun x => by rw [List.length_append, hl]; rfl
      clear hI hres hbox hrow hl hrest
      go_wp2_with fail
      go_region_law (go_simp; (with_reducible show Calls Tryz.prog 94 _ _ _); refine HB.out.mono ?_; rintro e w2 ⟨x, rfl, hI2, ht2⟩; obtain ⟨bx2, ⟨u, hu⟩, hff, h5⟩ := HAF.out x w2 hI2 ht2; have H5 := hide h5; have q0 : w2.cell? ⟨w.heap.size + 1, k * 6, none⟩ = some (u 0) := hu 0 (by omega); have q1 := hu 1 (by omega); have q2 := hu 2 (by omega); have q3 := hu 3 (by omega); have q4 := hu 4 (by omega); have q5 := hu 5 (by omega); have f0 := hff (k * 6); have f1 := hff (k * 6 + 1); have f2 := hff (k * 6 + 2); have f3 := hff (k * 6 + 3); have f4 := hff (k * 6 + 4); have f5 := hff (k * 6 + 5); clear hI2 ht2 hu hff h5)
      all_goals (
        go_wp2
        go_roundw
        case rel => exact ⟨k + 1, l ++ [x], rest.drop 6, by omega, by go_num, HLL.out x, H5.out.1, H5.out.2.1, H5.out.2.2.1, H5.out.2.2.2.1, H5.out.2.2.2.2, HR6.out⟩
        case measure => simp [intOf]; omega)
    · obtain rfl : k = many := by omega
      obtain rfl : rest = [] := List.eq_nil_of_length_eq_zero (by rw [hrest, Nat.sub_self, Nat.zero_mul])
      rw [List.append_nil] at hrow
      have r0 : wr.cell? ⟨w.heap.size, 0, none⟩ = some (.slice none 0 0) := by rw [cell_of_row _ _ _ _ _ _ hres]; rfl
      have fr0 := free_of_block hres 0
      obtain ⟨wF, hwF⟩ : ∃ wF, wF = wr.setCell ⟨w.heap.size, 0, none⟩ (.slice (some ⟨w.heap.size + 1, 0, none⟩) k k) := ⟨_, rfl⟩
      have hFB : wF.heap[w.heap.size]? = some (.cells #[.slice (some ⟨w.heap.size + 1, 0, none⟩) k k] 118 (0, 0)) := by rw [hwF]; exact block_set hres 0 _
      have y0 : wF.cell? ⟨w.heap.size, 0, none⟩ = some (.slice (some ⟨w.heap.size + 1, 0, none⟩) k k) := by rw [cell_of_row _ _ _ _ _ _ hFB]; rfl
      have tF : Touch (· = w.heap.size) wr wF := by rw [hwF]; exact Touch.ofSet _ _ _ _ rfl
      have HEND : Hid (I k l wF ∧ l.length = k ∧ wF.ownsRow w.heap.size 166 6 (.slice (some ⟨w.heap.size + 1, 0, none⟩) k k) k (mkqsC l)) := ⟨HK.out _ _ _ _ hI (tF.mono (fun b hb => by rw [hb]; omega)), hl, own_keep hrow (fun b e => tF.block b (World.ownsRow.lt hrow b e).2 (by simp [Value.ownBlock] at e; omega))⟩
      have HWF := hide hwF
      clear hI hres hbox hrow hl hrest hFB tF hwF
      go_wp2
      rw [← HWF.out]
      refine bodyPost_ret (v := .agg #[.slice (some ⟨w.heap.size + 1, 0, none⟩) k k]) (by simp [results, Tryz.results93, go_sem, y0]) rfl ?_
      exact ⟨_, l, rfl, HEND.out⟩
end Go.Proofs.YtnjlbgolnbdkaaaGreat
/- Texts of the proof of Boots, one behind the other. -/
namespace Go.Proofs.YtnjlbgolnbdkaaaGreat
open Go.RowKit

theorem own_cells {w : World} {base : Nat} {e : TypeId} {sz : Nat} {x n : Nat} {xs : List Value} (h : w.ownsRow base e sz (.slice (some ⟨x, 0, none⟩) n n) n xs) : base ≤ x ∧ w.heap[x]? = some (.cells xs.toArray e (0, 0)) := by
  have hlen := h.1
  rcases h.2 with ⟨h1, _⟩ | ⟨g, cap, cur, hv, hb, hh, _, _, hs, ht⟩
  · cases h1
  · simp at hv
    obtain ⟨rfl, rfl⟩ := hv
    refine ⟨hb, ?_⟩
    rw [List.take_of_length_le (by simp [hs])] at ht
    rw [hh, ← ht]

set_option maxHeartbeats 1000000 in
theorem procOne_any (cb q n c j : Nat) (ad : Option Addr) (m cc : Nat) (w : World) (hj : j < n) (h0 : w.cell? ⟨cb, 9, none⟩ = some (.slice (some ⟨q, 0, none⟩) n c)) (h1 : w.cell? ⟨q, j * 2 + 1, none⟩ = some (.slice ad m cc)) :
    Calls Tryz.prog 94 #[.int .i64 j, .pointer (some ⟨cb, 0, none⟩)] w fun e w' => e = .returned (.agg #[.slice ad m cc, .int .i64 0, .int .i64 0, .bool false, .int .i64 0, .int .i64 0]) ∧ Below w.heap.size w w' := by
  have hl0 := lt_of_cell h0
  have hl1 := lt_of_cell h1
  go_enter Tryz.func94, Tryz.ntmps94
  go_wp2
  exact bodyPost_ret (v := .agg #[.slice ad m cc, .int .i64 0, .int .i64 0, .bool false, .int .i64 0, .int .i64 0]) (by simp [results, Tryz.results94, go_sem]) rfl ⟨rfl, (Below.refl _ _).alloc (Nat.le_refl _) _⟩

theorem words_any (n : Nat) (hn : n ≤ 255) (w : World) :
    Calls Tryz.prog 91 #[.int .i64 n, .func (.func 92) #[] #[]] w fun e w' => ∃ x, e = .returned (.agg #[.slice (some ⟨x, 0, none⟩) n n]) ∧ w.heap.size ≤ x ∧ w'.heap[x]? = some (.cells ((List.replicate n (0 : Int)).map (Value.int .i64)).toArray 3 (0, 0)) ∧ Below w.heap.size w w' := by
  refine (makeInt0_any n hn (fun _ => False) w (fun _ h => h.elim) (fun j l W => l = List.replicate j 0 ∧ Touch (fun b => w.heap.size ≤ b) w W) (fun j l W W' hI t => ⟨hI.1, hI.2.trans t (fun i hi => .inl hi.1)⟩) (fun j l W hj hI hsW => (nought_any j W).mono (fun e w' ⟨he, hw⟩ => ⟨0, he, ⟨by rw [hI.1, List.replicate_succ'], by rw [hw]; exact hI.2⟩, by rw [hw]; exact Touch.refl _ _⟩)) ⟨rfl, Touch.refl _ _⟩).mono ?_
  rintro e w' ⟨x, l, rfl, ⟨rfl, ht⟩, _, hown⟩
  obtain ⟨h1, h2⟩ := own_cells hown
  exact ⟨x, rfl, h1, by rw [h2, mkisC_eq], ht.below (Nat.le_refl _) (fun k hk => hk)⟩

def dlOf (d : Int) : Int := if d < 0 then 0 else d
def mprocCells (v : Value) (p : RProc) : List Value := [v, .int .i64 p.next, .int .i64 p.acc, .bool p.stopped, .int .i64 p.til, .int .i64 (dlOf p.dl)]
def elOf : Value → El
  | .slice a n c => ⟨fun _ => 0, false, fun _ => a, fun _ => n, fun _ => c, none⟩
  | _ => ⟨fun _ => 0, false, fun _ => none, fun _ => 0, fun _ => 0, none⟩
theorem mkq_el {v : Value} (h : ∃ a m c, v = .slice a m c) : mkqC (elOf v) = mprocCells v proc0 := by
  obtain ⟨a, m, c, rfl⟩ := h
  rfl
theorem procs_any (cb q c : Nat) (l : List (Pr × Value)) (w : World) (hl : l.length ≤ 2) (hcb : cb < w.heap.size) (hqq : q < w.heap.size) (h0 : w.cell? ⟨cb, 9, none⟩ = some (.slice (some ⟨q, 0, none⟩) l.length c))
    (hq : ∀ k p, l[k]? = some p → (∃ a m cc, p.2 = .slice a m cc) ∧ w.cell? ⟨q, k * 2 + 1, none⟩ = some p.2) :
    Calls Tryz.prog 93 #[.int .i64 l.length, .func (.func 94) #[] #[.pointer (some ⟨cb, 0, none⟩)]] w fun e w' => ∃ x, e = .returned (.agg #[.slice (some ⟨x, 0, none⟩) l.length l.length]) ∧ w.heap.size ≤ x ∧ w'.heap[x]? = some (.cells (l.flatMap fun p => mprocCells p.2 proc0).toArray 166 (0, 0)) ∧ Below w.heap.size w w' := by
  refine (makeProc_any cb l.length (by omega) (fun _ => False) w (fun _ h => h.elim) (fun j r W => r = (l.take j).map (fun p => elOf p.2) ∧ Touch (fun b => w.heap.size ≤ b) w W) (fun j r W W' hI t => ⟨hI.1, hI.2.trans t (fun i hi => .inl hi.1)⟩) (fun j r W hj hI hsW => ?_) ⟨by simp, Touch.refl _ _⟩).mono ?_
  · obtain ⟨⟨a, m, cc, hv⟩, hc⟩ := hq j l[j] (List.getElem?_eq_getElem hj)
    refine (procOne_any cb q l.length c j a m cc W hj ((cell_same (hI.2.block cb hcb (by omega)) 9).trans h0) ((cell_same (hI.2.block q hqq (by omega)) _).trans (hc.trans (by rw [hv])))).mono ?_
    rintro e w' ⟨rfl, hb⟩
    refine ⟨elOf (l[j]).2, by rw [hv]; rfl, ⟨?_, hI.2.trans (Touch.ofBelow (S := fun _ => False) hb) (fun _ h => h.elim)⟩, Touch.ofBelow hb⟩
    rw [hI.1, List.take_add_one, List.getElem?_eq_getElem hj, List.map_append]
    rfl
  · rintro e w' ⟨x, r, rfl, ⟨rfl, ht⟩, _, hown⟩
    obtain ⟨h1, h2⟩ := own_cells hown
    refine ⟨x, rfl, h1, ?_, ht.below (Nat.le_refl _) (fun k hk => hk)⟩
    rw [h2, List.take_length]
    congr 3
    unfold mkqsC
    rw [List.flatMap_map]
    have : ∀ (r : List (Pr × Value)), (∀ p ∈ r, ∃ a m cc, p.2 = .slice a m cc) → (r.flatMap fun p => mkqC (elOf p.2)) = r.flatMap fun p => mprocCells p.2 proc0 := by
      intro r hr
      induction r with
      | nil => rfl
      | cons a r ih =>
        rw [List.flatMap_cons, List.flatMap_cons, mkq_el (hr a (List.mem_cons_self ..)), ih (fun p hp => hr p (List.mem_cons_of_mem _ hp))]
    exact this l (fun p hp => by obtain ⟨i, hi⟩ := List.getElem?_of_mem hp; exact (hq i p hi).1)
end Go.Proofs.YtnjlbgolnbdkaaaGreat
namespace Go.Proofs.YtnjlbgolnbdkaaaGreat
open Go.RowKit

theorem res_cell {fn : Func} {p : Tmp} {ty : TypeId} (h : fn.results = #[.cell p ty]) (tmps : Array Value) (P : Program) (w : World) {b : Nat} {cs : Array Value} {t : TypeId} {fr : Nat × Nat} {fs : Array Field}
    (hp : tmps[p]?.getD undef = .pointer (some ⟨b, 0, none⟩)) (hb : w.heap[b]? = some (.cells cs t fr)) (hu : P.underlying ty = some (.struct fs)) (hi : (P.info? ty).map (·.size) = some cs.size) :
    (results fn tmps).run P w = .ok (.agg cs) w := by
  have hl := run_loadVar_row (P := P) w b t ty cs fr (.struct fs) hb hu rfl hi
  simp only [results, h]
  simp [hp, asAddr, hl]
theorem res_cell_tmp {fn : Func} {p u : Tmp} {ty : TypeId} (h : fn.results = #[.cell p ty, .tmp u]) (tmps : Array Value) (P : Program) (w : World) {b : Nat} {cs : Array Value} {t : TypeId} {fr : Nat × Nat} {fs : Array Field}
    (hp : tmps[p]?.getD undef = .pointer (some ⟨b, 0, none⟩)) (hb : w.heap[b]? = some (.cells cs t fr)) (hu : P.underlying ty = some (.struct fs)) (hi : (P.info? ty).map (·.size) = some cs.size) :
    (results fn tmps).run P w = .ok (.tuple #[.agg cs, tmps[u]?.getD undef]) w := by
  have hl := run_loadVar_row (P := P) w b t ty cs fr (.struct fs) hb hu rfl hi
  simp only [results, h]
  simp [hp, asAddr, hl]
theorem lt_of_heap {w : World} {x : Nat} {o : Obj} (h : w.heap[x]? = some o) : x < w.heap.size := (Array.getElem?_eq_some_iff.1 h).1
theorem keepB {W w : World} {x : Nat} {o : Obj} (hB : Below W.heap.size W w) (h : W.heap[x]? = some o) : w.heap[x]? = some o := (hB.block x (Array.getElem?_eq_some_iff.1 h).1).trans h
def setA (cs : Array Value) : Nat → List Value → Array Value
  | _, [] => cs
  | o, v :: r => setA (cs.setIfInBounds o v) (o + 1) r
theorem setA_list : ∀ (vs : List Value) (o : Nat) (cs : Array Value), o + vs.length = cs.size → (setA cs o vs).toList = cs.toList.take o ++ vs
  | [], o, cs, h => by
    show cs.toList = _
    rw [List.append_nil, List.take_of_length_le (by simp at h; simp; omega)]
  | v :: r, o, cs, h => by
    have hl : o < cs.toList.length := by simp at h ⊢; omega
    show (setA (cs.setIfInBounds o v) (o + 1) r).toList = _
    rw [setA_list r (o + 1) (cs.setIfInBounds o v) (by simp at h ⊢; omega), Array.toList_setIfInBounds, List.take_add_one, List.take_set_of_le (Nat.le_refl _), List.getElem?_set_self hl]
    simp
theorem setA_all (cs : Array Value) (vs : List Value) (h : vs.length = cs.size) : setA cs 0 vs = vs.toArray := by
  apply Array.ext'
  rw [setA_list vs 0 cs (by omega)]
  simp
theorem setCells_block {b : Nat} {t : TypeId} : ∀ (vs : List Value) (o : Nat) (w : World) (cs : Array Value), w.heap[b]? = some (.cells cs t (0, 0)) → (w.setCells b o vs).heap[b]? = some (.cells (setA cs o vs) t (0, 0))
  | [], _, _, _, h => h
  | v :: r, o, w, _, h => setCells_block r (o + 1) (w.setCell ⟨b, o, none⟩ v) _ (block_set h o v)
theorem setCells_whole {w : World} {b : Nat} {cs : Array Value} {t : TypeId} (vs : List Value) (h : w.heap[b]? = some (.cells cs t (0, 0))) (hl : vs.length = cs.size) : (w.setCells b 0 vs).heap[b]? = some (.cells vs.toArray t (0, 0)) := by
  rw [setCells_block vs 0 w cs h, setA_all cs vs hl]
theorem touch_setCells (b : Nat) : ∀ (vs : List Value) (o : Nat) (w : World), Touch (· = b) w (w.setCells b o vs)
  | [], _, w => Touch.refl _ w
  | v :: r, o, w => (Touch.ofSet (S := (· = b)) w b o v rfl).andThen (touch_setCells b r (o + 1) _)
theorem there_of_block {w : World} {b : Nat} {cs : Array Value} {t : TypeId} (h : w.heap[b]? = some (.cells cs t (0, 0))) (n : Nat) (hn : n ≤ cs.size) : w.there b 0 n := fun j hj => by
  rw [Nat.zero_add]
  refine ⟨?_, free_of_block h j⟩
  rw [cell_of_row _ _ _ _ _ _ h, Array.getElem?_eq_getElem (by omega)]
  rfl
end Go.Proofs.YtnjlbgolnbdkaaaGreat
namespace Go.Proofs.YtnjlbgolnbdkaaaGreat
open Go.RowKit

theorem Tryz.info120 : (Tryz.prog.info? 120).map (fun i => (i.zero, i.size, i.bytes)) = some (some (.agg #[.int .i64 0, .bool false, .int .i64 0, .int .i64 0, .int .i64 0, .int .i64 0, .int .i64 0, .int .i64 0, .int .i64 0, .int .i64 0, .slice none 0 0, .slice none 0 0, .slice none 0 0, .int .i64 0]), 14, 160) := by kernel_rfl
def mkpC (x : El) : List Value := [.int .i64 (x.i 0), .bool x.b, .int .i64 (x.i 1), .int .i64 (x.i 2), .int .i64 (x.i 3), .int .i64 (x.i 4), .int .i64 (x.i 5), .int .i64 (x.i 6), .int .i64 (x.i 7), .int .i64 (x.i 8), .slice (x.ad 0) (x.n 0) (x.c 0), .slice (x.ad 1) (x.n 1) (x.c 1), .slice (x.ad 2) (x.n 2) (x.c 2), .int .i64 (x.i 9)]
def mkpsC (l : List El) : List Value := l.flatMap mkpC
set_option maxRecDepth 100000 in
set_option maxHeartbeats 4000000 in
theorem makePart_any (cb lb : Nat) (many : Nat) (hm : many ≤ 255) (S : Nat → Prop) (w : World) (hS : ∀ b, S b → b < w.heap.size) (I : Nat → List El → World → Prop)
    (hkeep : ∀ j l wr w', I j l wr → Touch (fun b => w.heap.size ≤ b ∧ b < w.heap.size + 3) wr w' → I j l w')
    (hstep : ∀ j l wr, j < many → I j l wr → w.heap.size + 3 ≤ wr.heap.size → Calls Tryz.prog 50 #[.int .i64 j, .pointer (some ⟨cb, 0, none⟩), .pointer (some ⟨lb, 0, none⟩)] wr fun e w' => ∃ x : El, e = .returned (.agg #[.int .i64 (x.i 0), .bool x.b, .int .i64 (x.i 1), .int .i64 (x.i 2), .int .i64 (x.i 3), .int .i64 (x.i 4), .int .i64 (x.i 5), .int .i64 (x.i 6), .int .i64 (x.i 7), .int .i64 (x.i 8), .slice (x.ad 0) (x.n 0) (x.c 0), .slice (x.ad 1) (x.n 1) (x.c 1), .slice (x.ad 2) (x.n 2) (x.c 2), .int .i64 (x.i 9)]) ∧ I (j + 1) (l ++ [x]) w' ∧ Touch S wr w')
    (h0 : I 0 [] w) : Calls Tryz.prog 49 #[.int .i64 many, .func (.func 50) #[] #[.pointer (some ⟨cb, 0, none⟩), .pointer (some ⟨lb, 0, none⟩)]] w fun e w' => ∃ x l, e = .returned (.agg #[.slice (some ⟨x, 0, none⟩) many many]) ∧ I many l w' ∧ l.length = many ∧ w'.ownsRow w.heap.size 120 14 (.slice (some ⟨x, 0, none⟩) many many) many (mkpsC l) := by
  obtain ⟨i0, hi, hz0, hz1, hz2⟩ := info_parts Tryz.info120
  have hmk : ∀ W : World, (Instr.makeSlice 109 (.int .i64 (many : Int)) (.int .i64 (many : Int))).run Tryz.prog W = .ok (.slice (some ⟨W.heap.size, 0, none⟩) many many) (W.alloc (.cells (madeCells #[.int .i64 0, .bool false, .int .i64 0, .int .i64 0, .int .i64 0, .int .i64 0, .int .i64 0, .int .i64 0, .int .i64 0, .int .i64 0, .slice none 0 0, .slice none 0 0, .slice none 0 0, .int .i64 0] (many * 14)) 120)) := by
    intro W
    have := run_make (P := Tryz.prog) (w := W) 109 120 i0 _ Tryz.underlying109 hi hz0 .i64 .i64 (many : Int) (many : Int) (by omega) (by omega) (by rw [hz2]; omega) (by omega)
    simpa [hz1, Value.cells] using this
  generalize hM : madeCells #[.int .i64 0, .bool false, .int .i64 0, .int .i64 0, .int .i64 0, .int .i64 0, .int .i64 0, .int .i64 0, .int .i64 0, .int .i64 0, .slice none 0 0, .slice none 0 0, .slice none 0 0, .int .i64 0] (many * 14) = M at hmk
  have hMs : M.size = many * 14 := by rw [← hM]; simp [madeCells]
  have HK := hide hkeep
  have HS := hide hS
  have HST := hide hstep
  have H0 := hide h0
  clear hkeep hS hstep h0 hM
  have HINIT := hide (mk_init w 111 120 14 many M hm hMs)
  go_enter Tryz.func49, Tryz.ntmps49
  go_wp2
  go_loopw [13] (fun t wr => ∃ (k : Nat) (l : List El) (rest : List Value), k ≤ many ∧ t = .int .i64 k ∧ l.length = k ∧ I k l wr ∧ w.heap.size + 3 ≤ wr.heap.size ∧ wr.heap[w.heap.size]? = some (.cells #[.slice none 0 0] 111 (0, 0)) ∧ wr.heap[w.heap.size + 2]? = some (.cells #[.slice (some ⟨w.heap.size + 1, 0, none⟩) many many] 111 (0, 0)) ∧ wr.ownsRow w.heap.size 120 14 (.slice (some ⟨w.heap.size + 1, 0, none⟩) many many) many (mkpsC l ++ rest) ∧ rest.length = (many - k) * 14) (fun t _ => many - (intOf t).toNat)
  case atStart =>
    obtain ⟨h1, h2, h3, h4, h5⟩ := HINIT.out _ rfl
    exact ⟨0, [], M.toList, by omega, rfl, rfl, HK.out _ _ _ _ H0.out (h1.mono (fun _ h => h.elim)), by omega, h3, h4, h5, by simp [hMs]⟩
  case round =>
    obtain ⟨k, l, rest, hk, rfl, hl, hI, hsz, hres, hbox, hrow, hrest⟩ := hrel
    have bx : wr.cell? ⟨w.heap.size + 2, 0, none⟩ = some (.slice (some ⟨w.heap.size + 1, 0, none⟩) many many) := by rw [cell_of_row _ _ _ _ _ _ hbox]; rfl
    by_cases hlt : k < many
    · have HB := hide (HST.out k l wr.drew hlt (HK.out _ _ _ _ hI ⟨rfl, rfl, rfl, Nat.le_refl _, fun _ _ _ => rfl⟩) (by show w.heap.size + 3 ≤ wr.heap.size; omega))
      have HAF := hide (mk_after mkpC 14 (fun _ => rfl) 111 120 w many k S HS.out I HK.out l rest wr hlt hl hsz hres hbox hrow hrest)
      have HR6 : Hid ((rest.drop 14).length = (many - (k + 1)) * 14) := by show _ = _; rw [List.length_drop, hrest]; omega
      have HLL : Hid (∀ x : El, (l ++ [x]).length = k + 1) := fun x => by rw [List.length_append, hl]; rfl
      clear hI hres hbox hrow hl hrest
      go_wp2_with fail
      go_region_law (go_simp; (with_reducible show Calls Tryz.prog 50 _ _ _); refine HB.out.mono ?_; rintro e w2 ⟨x, rfl, hI2, ht2⟩; obtain ⟨bx2, ⟨u, hu⟩, hff, h5⟩ := HAF.out x w2 hI2 ht2; have H5 := hide h5; have q0 : w2.cell? ⟨w.heap.size + 1, k * 14, none⟩ = some (u 0) := hu 0 (by omega); have q1 := hu 1 (by omega); have q2 := hu 2 (by omega); have q3 := hu 3 (by omega); have q4 := hu 4 (by omega); have q5 := hu 5 (by omega); have q6 := hu 6 (by omega); have q7 := hu 7 (by omega); have q8 := hu 8 (by omega); have q9 := hu 9 (by omega); have q10 := hu 10 (by omega); have q11 := hu 11 (by omega); have q12 := hu 12 (by omega); have q13 := hu 13 (by omega); have f0 := hff (k * 14); have f1 := hff (k * 14 + 1); have f2 := hff (k * 14 + 2); have f3 := hff (k * 14 + 3); have f4 := hff (k * 14 + 4); have f5 := hff (k * 14 + 5); have f6 := hff (k * 14 + 6); have f7 := hff (k * 14 + 7); have f8 := hff (k * 14 + 8); have f9 := hff (k * 14 + 9); have f10 := hff (k * 14 + 10); have f11 := hff (k * 14 + 11); have f12 := hff (k * 14 + 12); have f13 := hff (k * 14 + 13); clear hI2 ht2 hu hff h5)
      all_goals (
        go_wp2
        go_roundw
        case rel => exact ⟨k + 1, l ++ [x], rest.drop 14, by omega, by go_num, HLL.out x, H5.out.1, H5.out.2.1, H5.out.2.2.1, H5.out.2.2.2.1, H5.out.2.2.2.2, HR6.out⟩
        case measure => simp [intOf]; omega)
    · obtain rfl : k = many := by omega
      obtain rfl : rest = [] := List.eq_nil_of_length_eq_zero (by rw [hrest, Nat.sub_self, Nat.zero_mul])
      rw [List.append_nil] at hrow
      have r0 : wr.cell? ⟨w.heap.size, 0, none⟩ = some (.slice none 0 0) := by rw [cell_of_row _ _ _ _ _ _ hres]; rfl
      have fr0 := free_of_block hres 0
      obtain ⟨wF, hwF⟩ : ∃ wF, wF = wr.setCell ⟨w.heap.size, 0, none⟩ (.slice (some ⟨w.heap.size + 1, 0, none⟩) k k) := ⟨_, rfl⟩
      have hFB : wF.heap[w.heap.size]? = some (.cells #[.slice (some ⟨w.heap.size + 1, 0, none⟩) k k] 111 (0, 0)) := by rw [hwF]; exact block_set hres 0 _
      have y0 : wF.cell? ⟨w.heap.size, 0, none⟩ = some (.slice (some ⟨w.heap.size + 1, 0, none⟩) k k) := by rw [cell_of_row _ _ _ _ _ _ hFB]; rfl
      have tF : Touch (· = w.heap.size) wr wF := by rw [hwF]; exact Touch.ofSet _ _ _ _ rfl
      have HEND : Hid (I k l wF ∧ l.length = k ∧ wF.ownsRow w.heap.size 120 14 (.slice (some ⟨w.heap.size + 1, 0, none⟩) k k) k (mkpsC l)) := ⟨HK.out _ _ _ _ hI (tF.mono (fun b hb => by rw [hb]; omega)), hl, own_keep hrow (fun b e => tF.block b (World.ownsRow.lt hrow b e).2 (by simp [Value.ownBlock] at e; omega))⟩
      have HWF := hide hwF
      clear hI hres hbox hrow hl hrest hFB tF hwF
      go_wp2
      rw [← HWF.out]
      refine bodyPost_ret (v := .agg #[.slice (some ⟨w.heap.size + 1, 0, none⟩) k k]) (by simp [results, Tryz.results49, go_sem, y0]) rfl ?_
      exact ⟨_, l, rfl, HEND.out⟩
end Go.Proofs.YtnjlbgolnbdkaaaGreat
