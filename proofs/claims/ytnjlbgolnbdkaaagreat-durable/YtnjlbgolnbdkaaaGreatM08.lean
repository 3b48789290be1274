/- Texts of the proofs of Watched and Clocked, one behind the other. -/
import Derived.Test.YtnjlbgolnbdkaaaGreatM07
import Derived.BigQuiet
/- Texts of the proof of Boots, one behind the other. -/
namespace Go.Proofs.YtnjlbgolnbdkaaaGreat
open Go.RowKit

theorem pfTo_succ (bs : List Int) (s k : Nat) (hk : k < 8) : pfTo bs s (upto 8 (k + 1)) = pfTo bs s (upto 8 k) ++ if headB bs s && isFault bs s k then [recOf bs s k] else [] := by
  rw [upto_succ 8 k hk]
  unfold pfTo
  rw [List.flatMap_append]
  simp
theorem fault_not_head (bs : List Int) (s : Nat) (h : headB bs s = true) : isFault bs s 0 = false := by
  unfold headB at h
  unfold isFault
  simp at h
  simp [h.1, h.2]
theorem pfTo_headed (bs : List Int) (s : Nat) (h : headB bs s = true) : ∀ k, k ≤ 7 → pfTo bs s (upto 8 (k + 1)) = faultsTo bs s k
  | 0, _ => by rw [pfTo_succ bs s 0 (by omega), h, fault_not_head bs s h]; rfl
  | k + 1, hk => by rw [pfTo_succ bs s (k + 1) (by omega), pfTo_headed bs s h k (by omega), h]; simp only [Bool.true_and]; rfl
theorem pfTo_not (bs : List Int) (s : Nat) (h : headB bs s = false) (l : List (Fin 8)) : pfTo bs s l = [] := by
  unfold pfTo
  simp [h]
theorem pfOf_headed (bs : List Int) (s : Nat) (h : headB bs s = true) : pfOf bs s = faultsOf bs (s : Int) := by
  unfold pfOf
  rw [pfTo_headed bs s h 7 (by omega)]
  unfold faultsOf
  rw [if_neg (by omega)]
  rfl
theorem pfOf_not (bs : List Int) (s : Nat) (h : headB bs s = false) : pfOf bs s = [] := pfTo_not bs s h _
theorem genOf_headed (bs : List Int) (s : Nat) (h : headB bs s = true) : genOf bs s = genB bs s := by
  unfold genOf hdrOf genB
  rw [if_pos h]
theorem genOf_rng (bs : List Int) (hb : Bytes bs) (s : Nat) : 0 ≤ genOf bs s ∧ genOf bs s < 4294967296 := by
  unfold genOf hdrOf
  split
  · exact rec_num bs s 0 3 hb
  · omega

def actOf (bs : List Int) : Nat × Nat := if headB bs 0 && (!headB bs 1 || decide (genOf bs 1 ≤ genOf bs 0)) then (0, 1) else (1, 0)
theorem plog_same (bs : List Int) (hb : Bytes bs) : plogOf bs (actOf bs).1 (actOf bs).2 = logOf bs := by
  have r0 := genOf_rng bs hb 0
  have r1 := genOf_rng bs hb 1
  unfold logOf sectorsOf
  rcases hX : headB bs 0 with _ | _ <;> rcases hY : headB bs 1 with _ | _
  · have ha : actOf bs = (1, 0) := by unfold actOf; rw [hX]; rfl
    rw [ha]
    show plogOf bs 1 0 = _
    unfold plogOf
    rw [hY]
    exact pfOf_not bs 1 hY
  · have ha : actOf bs = (1, 0) := by unfold actOf; rw [hX]; rfl
    rw [ha]
    show plogOf bs 1 0 = _
    unfold plogOf
    rw [hX, hY]
    exact pfOf_headed bs 1 hY
  · have ha : actOf bs = (0, 1) := by unfold actOf; rw [hX, hY]; rfl
    rw [ha]
    show plogOf bs 0 1 = _
    unfold plogOf
    rw [hX, hY]
    exact pfOf_headed bs 0 hX
  · have g0 := genOf_headed bs 0 hX
    have g1 := genOf_headed bs 1 hY
    by_cases hle : genOf bs 1 ≤ genOf bs 0
    · have ha : actOf bs = (0, 1) := by unfold actOf; rw [hX, hY, decide_eq_true hle]; rfl
      rw [ha]
      show plogOf bs 0 1 = _
      unfold plogOf
      rw [hX, hY, show IntKind.i64.wrap (genOf bs 0 - 1) = genOf bs 0 - 1 from by rw [IntKind.wrap_i64]; omega]
      by_cases he : genB bs 0 = genB bs 1 + 1
      · rw [sect_a _ _ he, if_pos (by simp; omega), pfOf_headed bs 0 hX, pfOf_headed bs 1 hY]
        rfl
      · rw [sect_c _ _ he (by omega) (by omega), if_neg (by simp; omega), pfOf_headed bs 0 hX]
        rfl
    · have ha : actOf bs = (1, 0) := by unfold actOf; rw [hX, hY, decide_eq_false hle]; rfl
      rw [ha]
      show plogOf bs 1 0 = _
      unfold plogOf
      rw [hX, hY, show IntKind.i64.wrap (genOf bs 1 - 1) = genOf bs 1 - 1 from by rw [IntKind.wrap_i64]; omega]
      by_cases he : genB bs 1 = genB bs 0 + 1
      · rw [sect_b _ _ (by omega) he, if_pos (by simp; omega), pfOf_headed bs 0 hX, pfOf_headed bs 1 hY]
        rfl
      · rw [sect_d _ _ (by omega) he (by omega), if_neg (by simp; omega), pfOf_headed bs 1 hY]
        rfl
end Go.Proofs.YtnjlbgolnbdkaaaGreat
namespace Go.Proofs.YtnjlbgolnbdkaaaGreat
open Go.RowKit

theorem region_class {P : Program} {id : Nat} {Q : Exit → Act → World → Prop} {a : Act} {w : World} {l : List Oper} {ι : Type} (f : ι → World) (hm : P.follows .mixedOrders = true) (hB : Region.lexB .any l.toArray = true) (h0 : ∃ i, w.drew = f i)
    (h : wpQuiet P l.toArray (fun w' => ∃ i, w' = f i) (fun a' => ∀ w', (∃ i, w' = f i) → Q .normal a' w') l a) : (Code.region id l.toArray true).wp P Q a w :=
  wp_region_quiet (C := fun w' => ∃ i, w' = f i) hm hB h0 (by simpa using h)
theorem heap_at {w : World} {o : Obj} {n : Nat} (h : n = w.heap.size) : (w.alloc o).heap[n]? = some o := by subst h; exact heap_alloc_new w o
theorem belowClass (w : World) : ∃ (ι : Type) (_ : Nonempty ι) (f : ι → World), (∀ i, Below w.heap.size w (f i)) ∧ (∀ W, Below w.heap.size w W → ∃ i, W = f i) :=
  ⟨{W // Below w.heap.size w W}, ⟨⟨w, Below.refl _ _⟩⟩, Subtype.val, fun i => i.2, fun W h => ⟨⟨W, h⟩, rfl⟩⟩
theorem Calls.inClass {P : Program} {F : FuncId} {args : Array Value} {w : World} {ι : Type} {f : ι → World} {v : Value} (hf : ∀ i, Below w.heap.size w (f i)) (hg : ∀ W, Below w.heap.size w W → ∃ i, W = f i) (i : ι)
    (h : Calls P F args (f i) fun e w' => e = .returned v ∧ Below (f i).heap.size (f i) w') : Calls P F args (f i) fun e w' => e = .returned v ∧ ∃ j, w' = f j :=
  h.mono fun _ _ ⟨he, hb⟩ => ⟨he, hg _ ((hf i).trans (hb.mono (hf i).size))⟩
end Go.Proofs.YtnjlbgolnbdkaaaGreat
/- Texts of the proof of Boots, one behind the other. -/
namespace Go.Proofs.YtnjlbgolnbdkaaaGreat
open Go.RowKit

theorem SecAt.keep {x : Nat} {bs : List Int} {s : Nat} {w w' : World} (h : SecAt x bs s w) (hb : w'.heap[x]? = w.heap[x]?) : SecAt x bs s w' := own_keep h (fun b e => by
  obtain rfl : x = b := by simpa [Value.ownBlock] using e
  exact hb)
theorem SecAt.alloc {x : Nat} {bs : List Int} {s : Nat} {w : World} (h : SecAt x bs s w) (o : Obj) : SecAt x bs s (w.alloc o) := h.keep (Below.heap_alloc _ _ _ h.lt)
theorem SecAt.set {x : Nat} {bs : List Int} {s : Nat} {w : World} {b o : Nat} (v : Value) (h : SecAt x bs s w) (hne : x ≠ b) : SecAt x bs s (w.setCell ⟨b, o, none⟩ v) := h.keep ((Touch.ofSet (S := (· = b)) w b o v rfl).block x h.lt hne)

theorem SecAt.drew {x : Nat} {bs : List Int} {s : Nat} {w : World} (h : SecAt x bs s w) : SecAt x bs s w.drew := h.keep rfl
theorem SecAt.ne {x : Nat} {bs : List Int} {s : Nat} {w : World} {b : Nat} {c : Array Value} {t : TypeId} {fr : Nat × Nat} (h : SecAt x bs s w) (hb : w.heap[b]? = some (.cells c t fr)) (ht : t ≠ 259) : x ≠ b := by
  rintro rfl
  obtain ⟨cur, hc⟩ := own_of h rfl
  rw [hb] at hc
  simp at hc
  exact ht hc.2.1

set_option maxRecDepth 100000 in
set_option maxHeartbeats 4000000 in
theorem sectors_any (g : Nat) (bs : List Int) (left res : Int) (dead : Bool) (done : Int) (w : World) (h : FlashAt w g bs left res dead done) :
    Calls Tryz.prog 89 #[.agg #[.pointer (some ⟨g, 0, none⟩)]] w fun e w' => ∃ x y, e = .returned (.tuple #[.agg #[.int .i64 ((actOf bs).1 : Nat), .slice (some ⟨x, 0, none⟩) 8 8], .agg #[.int .i64 ((actOf bs).2 : Nat), .slice (some ⟨y, 0, none⟩) 8 8]]) ∧ SecAt x bs (actOf bs).1 w' ∧ SecAt y bs (actOf bs).2 w' ∧ Below w.heap.size w w' := by
  obtain ⟨w3, hw3⟩ : ∃ w3, w3 = ((w.alloc (.cells #[.pointer (some ⟨g, 0, none⟩)] 107)).alloc (.cells #[.int .i64 0, .slice none 0 0] 183)).alloc (.cells #[.int .i64 0, .slice none 0 0] 183) := ⟨_, rfl⟩
  have hs3 : w3.heap.size = w.heap.size + 3 := by rw [hw3]; simp
  have hb3 : Below w.heap.size w w3 := by rw [hw3]; exact (((Below.refl _ _).alloc (Nat.le_refl _) _).alloc (by simp) _).alloc (by simp; omega) _
  have hJ3 : w3.heap[w.heap.size]? = some (.cells #[.pointer (some ⟨g, 0, none⟩)] 107 (0, 0)) := by rw [hw3, Below.heap_alloc _ _ _ (by simp; omega), Below.heap_alloc _ _ _ (by simp)]; exact heap_alloc_new w _
  have hR3 : w3.heap[w.heap.size + 1]? = some (.cells #[.int .i64 0, .slice none 0 0] 183 (0, 0)) := by rw [hw3, Below.heap_alloc _ _ _ (by simp)]; exact heap_at (by simp)
  have hO3 : w3.heap[w.heap.size + 2]? = some (.cells #[.int .i64 0, .slice none 0 0] 183 (0, 0)) := by rw [hw3]; exact heap_at (by simp)
  have HR3 := hide hR3
  have HO3 := hide hO3
  clear hR3 hO3
  obtain ⟨P, hP⟩ : ∃ P : World → Prop, P = fun W => Below w3.heap.size w3 W := ⟨_, rfl⟩
  have HP3 : Hid (P w3) := by show P w3; rw [hP]; exact Below.refl _ _
  have HPb : Hid (∀ W, P W → Below w3.heap.size w3 W) := fun W h => by rw [hP] at h; exact h
  have HPk : Hid (∀ W W', P W → Below W.heap.size W W' → P W') := fun W W' h hb => by rw [hP] at h ⊢; exact h.trans (hb.mono h.size)
  have HPd : Hid (∀ W, P W → P W.drew) := fun W h => by rw [hP] at h ⊢; exact h.drew
  have HPa : Hid (∀ W o, P W → P (W.alloc o)) := fun W o h => by rw [hP] at h ⊢; exact h.alloc h.size _
  have HPs : Hid (∀ W b o v, w3.heap.size ≤ b → P W → P (W.setCell ⟨b, o, none⟩ v)) := fun W b o v hb h => by rw [hP] at h ⊢; exact h.setCell (p := ⟨b, o, none⟩) hb v
  have HPC : Hid (∀ W, P W → W.cell? ⟨w.heap.size, 0, none⟩ = some (.pointer (some ⟨g, 0, none⟩)) ∧ P W) := fun W h => by
    have a := ((HPb.out W h).block _ (by omega)).trans hJ3
    exact ⟨by rw [cell_of_row _ _ _ _ _ _ a]; rfl, h⟩
  have HJ : Hid (∀ (z : Int) W, z = 0 ∨ z = 1 → P W → Calls Tryz.prog 124 #[.agg #[.pointer (some ⟨g, 0, none⟩)], .int .i64 z] W fun e w' => ∃ x, e = .returned (.agg #[.int .i64 z, .slice (some ⟨x, 0, none⟩) 8 8]) ∧ ((z = 0 → SecAt x bs 0 w') ∧ (z = 1 → SecAt x bs 1 w')) ∧ W.heap.size ≤ x ∧ Below W.heap.size W w' ∧ P w') := fun z W hz hp => by
    obtain ⟨s, hs, rfl⟩ : ∃ s : Nat, s < 2 ∧ z = (s : Int) := by
      rcases hz with rfl | rfl
      · exact ⟨0, by omega, rfl⟩
      · exact ⟨1, by omega, rfl⟩
    refine (jread_any g bs left res dead done s W hs ((h.below hb3).below ((HPb.out W hp).mono (by omega)))).mono ?_
    rintro e w' ⟨x, he, hown, hb⟩
    refine ⟨x, he, ⟨fun hz => ?_, fun hz => ?_⟩, (World.ownsRow.lt hown x rfl).1, hb, HPk.out _ _ hp hb⟩
    · obtain rfl : s = 0 := by omega
      exact own_low hown (by omega)
    · obtain rfl : s = 1 := by omega
      exact own_low hown (by omega)
  have HW3 := hide hw3
  have HB3 := hide hb3
  have HS3 := hide hs3
  clear h hw3 hb3 hs3 hJ3 hP
  obtain ⟨q0, _⟩ := HPC.out _ HP3.out
  go_enter Tryz.func89, Tryz.ntmps89
  go_wp2_with fail
  rw [← HW3.out]
  go_cut [4, 5] from 6 to 9 (fun s4 s5 wx => ∃ b4 b5 x0 x1, s4 = .pointer (some ⟨b4, 0, none⟩) ∧ s5 = .pointer (some ⟨b5, 0, none⟩) ∧ wx.cell? ⟨b4, 0, none⟩ = some (.int .i64 0) ∧ wx.cell? ⟨b4, 1, none⟩ = some (.slice (some ⟨x0, 0, none⟩) 8 8) ∧ wx.cell? ⟨b5, 0, none⟩ = some (.int .i64 1) ∧ wx.cell? ⟨b5, 1, none⟩ = some (.slice (some ⟨x1, 0, none⟩) 8 8) ∧ SecAt x0 bs 0 wx ∧ SecAt x1 bs 1 wx ∧ P wx ∧ w3.heap.size ≤ b4 ∧ w3.heap.size ≤ b5)
  case first =>
    go_region_held3 (fun w' => w'.cell? ⟨w.heap.size, 0, none⟩ = some (.pointer (some ⟨g, 0, none⟩)) ∧ P w')
      ((refine HPC.out _ ?_; repeat (first | exact HP3.out | assumption | refine HPd.out _ ?_ | refine HPa.out _ _ ?_ | refine HPs.out _ _ _ _ (by first | omega | (simp; omega)) ?_)))
      ((go_at_call 124; refine (HJ.out _ _ (by first | exact .inl rfl | exact .inr rfl) (by repeat (first | exact HP3.out | assumption | refine HPd.out _ ?_ | refine HPa.out _ _ ?_))).mono ?_; rintro e u ⟨x, rfl, hS, hx, hb, hp⟩; have hbc := fun p h => hb.cell (p := p) h; have hbf := fun p h => hb.frozen (p := p) h; have hbl : ∀ b, b < _ → b < u.heap.size := fun b h => Nat.lt_of_lt_of_le h hb.size; have hbm : ∀ b, b < _ → b < u.heap.size + 1 := fun b h => Nat.lt_succ_of_lt (Nat.lt_of_lt_of_le h hb.size); have hbn : ∀ b, b < _ → ¬ b = u.heap.size := fun b h => Nat.ne_of_lt (Nat.lt_of_lt_of_le h hb.size); have hbo : ∀ b, b < _ → ¬ b = u.heap.size + 1 := fun b h => Nat.ne_of_lt (Nat.lt_succ_of_lt (Nat.lt_of_lt_of_le h hb.size)); have hsz := hb.size; (try rw [World.size_drew] at hsz hx); (try rw [World.size_alloc] at hsz hx); (try rw [World.size_alloc] at hsz hx); (try rw [World.size_drew] at hsz hx); (try have hu1 : w3.heap.size < u.heap.size := (by omega)); (try have hu2 : w3.heap.size + 1 < u.heap.size := (by omega)); have hu3 : w3.heap.size < u.heap.size + 1 := (by omega); have hu4 : w3.heap.size < u.heap.size + 1 + 1 := (by omega); (try have hu5 : w3.heap.size + 1 < u.heap.size + 1 := (by omega)); (first | (have hS0 := hS.1 rfl; clear hS; obtain ⟨x0, hxx⟩ : ∃ y, y = x := ⟨x, rfl⟩; subst hxx) | (have hS1 := hS.2 rfl; clear hS; have hb1 := hb; obtain ⟨x1, hxx⟩ : ∃ y, y = x := ⟨x, rfl⟩; subst hxx))))
    all_goals
      have hlt0 := hS0.lt
      have hlt1 := hS1.lt
      go_wp2_with fail
      go_meet
      refine ⟨_, _, x0, x1, rfl, rfl, ?_, ?_, ?_, ?_, ?_, ?_, ?_, ?_, ?_⟩
      · first | (go_simp; done) | (go_simp; refine World.cell?_setCell_same' _ _ _ ?_; go_simp)
      · first | (go_simp; done) | (go_simp; refine World.cell?_setCell_same' _ _ _ ?_; go_simp)
      · first | (go_simp; done) | (go_simp; refine World.cell?_setCell_same' _ _ _ ?_; go_simp)
      · first | (go_simp; done) | (go_simp; refine World.cell?_setCell_same' _ _ _ ?_; go_simp)
      · repeat (first | (with_reducible refine SecAt.alloc ?_ _) | (with_reducible refine SecAt.set _ ?_ (by first | omega | (simp; omega))) | (with_reducible exact hS0) | (with_reducible refine SecAt.below ?_ hb1))
      · repeat (first | (with_reducible refine SecAt.alloc ?_ _) | (with_reducible refine SecAt.set _ ?_ (by first | omega | (simp; omega))) | (with_reducible exact hS1))
      · repeat (first | (with_reducible refine HPa.out _ _ ?_) | (with_reducible refine HPd.out _ ?_) | (with_reducible refine HPs.out _ _ _ _ (by first | omega | (simp; omega)) ?_) | (with_reducible assumption))
      · first | omega | (simp; omega)
      · first | omega | (simp; omega)
  case rest =>
    obtain ⟨b4, b5, x0, x1, rfl, rfl, d0, d1, d2, d3, hS0, hS1, hp, hl4, hl5⟩ := hcut
    have hB := HPb.out _ hp
    have hszc := hB.size
    have hs3 := HS3.out
    obtain ⟨ι, hni, f, hf, hg⟩ := belowClass wc
    have hb4 : b4 < wc.heap.size := lt_of_cell d0
    have hb5 : b5 < wc.heap.size := lt_of_cell d2
    have e0 : ∀ i, (f i).cell? ⟨b4, 0, none⟩ = some (.int .i64 0) := fun i => ((hf i).cell (p := ⟨b4, 0, none⟩) hb4).trans d0
    have e1 : ∀ i, (f i).cell? ⟨b4, 1, none⟩ = some (.slice (some ⟨x0, 0, none⟩) 8 8) := fun i => ((hf i).cell (p := ⟨b4, 1, none⟩) hb4).trans d1
    have e2 : ∀ i, (f i).cell? ⟨b5, 0, none⟩ = some (.int .i64 1) := fun i => ((hf i).cell (p := ⟨b5, 0, none⟩) hb5).trans d2
    have e3 : ∀ i, (f i).cell? ⟨b5, 1, none⟩ = some (.slice (some ⟨x1, 0, none⟩) 8 8) := fun i => ((hf i).cell (p := ⟨b5, 1, none⟩) hb5).trans d3
    have HH0 : Hid (∀ i, Calls Tryz.prog 125 #[.agg #[.int .i64 0, .slice (some ⟨x0, 0, none⟩) 8 8]] (f i) fun e w' => e = .returned (.bool (headB bs 0)) ∧ ∃ j, w' = f j) := fun i => Calls.inClass hf hg i (headed_any x0 bs 0 _ (hS0.below (hf i)))
    have HH1 : Hid (∀ i, Calls Tryz.prog 125 #[.agg #[.int .i64 1, .slice (some ⟨x1, 0, none⟩) 8 8]] (f i) fun e w' => e = .returned (.bool (headB bs 1)) ∧ ∃ j, w' = f j) := fun i => Calls.inClass hf hg i (headed_any x1 bs 1 _ (hS1.below (hf i)))
    have HG0 : Hid (∀ i, Calls Tryz.prog 126 #[.agg #[.int .i64 0, .slice (some ⟨x0, 0, none⟩) 8 8]] (f i) fun e w' => e = .returned (.int .i64 (genOf bs 0)) ∧ ∃ j, w' = f j) := fun i => Calls.inClass hf hg i (generation_any x0 bs 0 _ (hS0.below (hf i)))
    have HG1 : Hid (∀ i, Calls Tryz.prog 126 #[.agg #[.int .i64 1, .slice (some ⟨x1, 0, none⟩) 8 8]] (f i) fun e w' => e = .returned (.int .i64 (genOf bs 1)) ∧ ∃ j, w' = f j) := fun i => Calls.inClass hf hg i (generation_any x1 bs 1 _ (hS1.below (hf i)))
    have HC0 : Hid (∃ i, wc.drew = f i) := hg _ (Below.refl _ _).drew
    have HRB : Hid (∀ i, (f i).heap[w.heap.size + 1]? = some (.cells #[.int .i64 0, .slice none 0 0] 183 (0, 0)) ∧ (f i).heap[w.heap.size + 2]? = some (.cells #[.int .i64 0, .slice none 0 0] 183 (0, 0))) := fun i => ⟨((hf i).block _ (by omega)).trans ((hB.block _ (by omega)).trans HR3.out), ((hf i).block _ (by omega)).trans ((hB.block _ (by omega)).trans HO3.out)⟩
    have HFB : Hid (∀ i, Below w.heap.size w (f i)) := fun i => HB3.out.trans ((hB.mono (by omega)).trans ((hf i).mono (by omega)))
    have HFS : Hid (∀ i, SecAt x0 bs 0 (f i) ∧ SecAt x1 bs 1 (f i)) := fun i => ⟨hS0.below (hf i), hS1.below (hf i)⟩
    have HFT : Hid (∀ i, w3.heap.size ≤ (f i).heap.size) := fun i => Nat.le_trans hszc (hf i).size
    have HAO : Hid (actOf bs = if headB bs 0 && (!headB bs 1 || decide (genOf bs 1 ≤ genOf bs 0)) then (0, 1) else (1, 0)) := rfl
    clear d0 d1 d2 d3 hS0 hS1 hp hB hf hg
    rcases hX : headB bs 0 with _ | _ <;> rcases hY : headB bs 1 with _ | _
    case false.false =>
      have HA : Hid (actOf bs = (1, 0)) := by show _ = _; rw [HAO.out, hX, hY]; rfl
      rw [hX] at HH0
      rw [hY] at HH1
      clear hX hY
      go_wp2_with fail
      refine region_class f (by kernel_rfl) (by kernel_rfl) HC0.out ?_
      repeat (go_big_quiet_step (first | (go_at_call 125; first | (with_reducible exact HH0.out _) | (with_reducible exact HH1.out _)) | (go_at_call 126; first | (with_reducible exact HG0.out _) | (with_reducible exact HG1.out _))))
      refine wpQuiet_nil ?_
      rintro _ ⟨i, rfl⟩
      obtain ⟨hr1, hr2⟩ := HRB.out i
      obtain ⟨k0, k1⟩ := HFS.out i
      have HNE : Hid ((x0 ≠ w.heap.size + 1 ∧ x0 ≠ w.heap.size + 1 + 1) ∧ (x1 ≠ w.heap.size + 1 ∧ x1 ≠ w.heap.size + 1 + 1)) := ⟨⟨k0.ne hr1 (by decide), k0.ne hr2 (by decide)⟩, ⟨k1.ne hr1 (by decide), k1.ne hr2 (by decide)⟩⟩
      have HK0 := hide k0
      have HK1 := hide k1
      have z0 : (f i).cell? ⟨w.heap.size + 1, 0, none⟩ = some (.int .i64 0) := by rw [cell_of_row _ _ _ _ _ _ hr1]; rfl
      have z1 : (f i).cell? ⟨w.heap.size + 1, 1, none⟩ = some (.slice none 0 0) := by rw [cell_of_row _ _ _ _ _ _ hr1]; rfl
      have z2 : (f i).cell? ⟨w.heap.size + 1 + 1, 0, none⟩ = some (.int .i64 0) := by rw [cell_of_row _ _ _ _ _ _ hr2]; rfl
      have z3 : (f i).cell? ⟨w.heap.size + 1 + 1, 1, none⟩ = some (.slice none 0 0) := by rw [cell_of_row _ _ _ _ _ _ hr2]; rfl
      have g0 := free_of_block hr1 0
      have g1 := free_of_block hr1 1
      have g2 := free_of_block hr2 0
      have g3 := free_of_block hr2 1
      have hsi := HFT.out i
      have hne1 : ¬ b4 = w.heap.size + 1 := by omega
      have hne2 : ¬ b4 = w.heap.size + 1 + 1 := by omega
      have hne3 : ¬ b5 = w.heap.size + 1 := by omega
      have hne4 : ¬ b5 = w.heap.size + 1 + 1 := by omega
      have hlt1 : w.heap.size + 1 < (f i).heap.size := by omega
      have hlt2 : w.heap.size + 1 + 1 < (f i).heap.size := by omega
      clear hr1 hr2 k0 k1
      go_wp2_with fail
      go_region
      all_goals
        go_wp2
        refine bodyPost_ret (v := .tuple #[.agg #[.int .i64 1, .slice (some ⟨x1, 0, none⟩) 8 8], .agg #[.int .i64 0, .slice (some ⟨x0, 0, none⟩) 8 8]]) (by simp [results, Tryz.results89, go_sem, z0, z1, z2, z3]) rfl ?_
        refine ⟨x1, x0, by rw [HA.out]; rfl, ?_, ?_, ?_⟩
        · rw [HA.out]
          repeat (first | (with_reducible exact HK1.out) | (with_reducible refine SecAt.set _ ?_ (by first | exact HNE.out.2.1 | exact HNE.out.2.2)) | (with_reducible refine SecAt.drew ?_))
        · rw [HA.out]
          repeat (first | (with_reducible exact HK0.out) | (with_reducible refine SecAt.set _ ?_ (by first | exact HNE.out.1.1 | exact HNE.out.1.2)) | (with_reducible refine SecAt.drew ?_))
        · repeat (first | (with_reducible exact HFB.out i) | (with_reducible refine Below.thenSet ?_ (by omega) _ _) | (with_reducible refine Below.drew ?_))
    case false.true =>
      have HA : Hid (actOf bs = (1, 0)) := by show _ = _; rw [HAO.out, hX, hY]; rfl
      rw [hX] at HH0
      rw [hY] at HH1
      clear hX hY
      go_wp2_with fail
      refine region_class f (by kernel_rfl) (by kernel_rfl) HC0.out ?_
      repeat (go_big_quiet_step (first | (go_at_call 125; first | (with_reducible exact HH0.out _) | (with_reducible exact HH1.out _)) | (go_at_call 126; first | (with_reducible exact HG0.out _) | (with_reducible exact HG1.out _))))
      refine wpQuiet_nil ?_
      rintro _ ⟨i, rfl⟩
      obtain ⟨hr1, hr2⟩ := HRB.out i
      obtain ⟨k0, k1⟩ := HFS.out i
      have HNE : Hid ((x0 ≠ w.heap.size + 1 ∧ x0 ≠ w.heap.size + 1 + 1) ∧ (x1 ≠ w.heap.size + 1 ∧ x1 ≠ w.heap.size + 1 + 1)) := ⟨⟨k0.ne hr1 (by decide), k0.ne hr2 (by decide)⟩, ⟨k1.ne hr1 (by decide), k1.ne hr2 (by decide)⟩⟩
      have HK0 := hide k0
      have HK1 := hide k1
      have z0 : (f i).cell? ⟨w.heap.size + 1, 0, none⟩ = some (.int .i64 0) := by rw [cell_of_row _ _ _ _ _ _ hr1]; rfl
      have z1 : (f i).cell? ⟨w.heap.size + 1, 1, none⟩ = some (.slice none 0 0) := by rw [cell_of_row _ _ _ _ _ _ hr1]; rfl
      have z2 : (f i).cell? ⟨w.heap.size + 1 + 1, 0, none⟩ = some (.int .i64 0) := by rw [cell_of_row _ _ _ _ _ _ hr2]; rfl
      have z3 : (f i).cell? ⟨w.heap.size + 1 + 1, 1, none⟩ = some (.slice none 0 0) := by rw [cell_of_row _ _ _ _ _ _ hr2]; rfl
      have g0 := free_of_block hr1 0
      have g1 := free_of_block hr1 1
      have g2 := free_of_block hr2 0
      have g3 := free_of_block hr2 1
      have hsi := HFT.out i
      have hne1 : ¬ b4 = w.heap.size + 1 := by omega
      have hne2 : ¬ b4 = w.heap.size + 1 + 1 := by omega
      have hne3 : ¬ b5 = w.heap.size + 1 := by omega
      have hne4 : ¬ b5 = w.heap.size + 1 + 1 := by omega
      have hlt1 : w.heap.size + 1 < (f i).heap.size := by omega
      have hlt2 : w.heap.size + 1 + 1 < (f i).heap.size := by omega
      clear hr1 hr2 k0 k1
      go_wp2_with fail
      go_region
      all_goals
        go_wp2
        refine bodyPost_ret (v := .tuple #[.agg #[.int .i64 1, .slice (some ⟨x1, 0, none⟩) 8 8], .agg #[.int .i64 0, .slice (some ⟨x0, 0, none⟩) 8 8]]) (by simp [results, Tryz.results89, go_sem, z0, z1, z2, z3]) rfl ?_
        refine ⟨x1, x0, by rw [HA.out]; rfl, ?_, ?_, ?_⟩
        · rw [HA.out]
          repeat (first | (with_reducible exact HK1.out) | (with_reducible refine SecAt.set _ ?_ (by first | exact HNE.out.2.1 | exact HNE.out.2.2)) | (with_reducible refine SecAt.drew ?_))
        · rw [HA.out]
          repeat (first | (with_reducible exact HK0.out) | (with_reducible refine SecAt.set _ ?_ (by first | exact HNE.out.1.1 | exact HNE.out.1.2)) | (with_reducible refine SecAt.drew ?_))
        · repeat (first | (with_reducible exact HFB.out i) | (with_reducible refine Below.thenSet ?_ (by omega) _ _) | (with_reducible refine Below.drew ?_))
    case true.false =>
      have HA : Hid (actOf bs = (0, 1)) := by show _ = _; rw [HAO.out, hX, hY]; rfl
      rw [hX] at HH0
      rw [hY] at HH1
      clear hX hY
      go_wp2_with fail
      refine region_class f (by kernel_rfl) (by kernel_rfl) HC0.out ?_
      repeat (go_big_quiet_step (first | (go_at_call 125; first | (with_reducible exact HH0.out _) | (with_reducible exact HH1.out _)) | (go_at_call 126; first | (with_reducible exact HG0.out _) | (with_reducible exact HG1.out _))))
      refine wpQuiet_nil ?_
      rintro _ ⟨i, rfl⟩
      obtain ⟨hr1, hr2⟩ := HRB.out i
      obtain ⟨k0, k1⟩ := HFS.out i
      have HNE : Hid ((x0 ≠ w.heap.size + 1 ∧ x0 ≠ w.heap.size + 1 + 1) ∧ (x1 ≠ w.heap.size + 1 ∧ x1 ≠ w.heap.size + 1 + 1)) := ⟨⟨k0.ne hr1 (by decide), k0.ne hr2 (by decide)⟩, ⟨k1.ne hr1 (by decide), k1.ne hr2 (by decide)⟩⟩
      have HK0 := hide k0
      have HK1 := hide k1
      have z0 : (f i).cell? ⟨w.heap.size + 1, 0, none⟩ = some (.int .i64 0) := by rw [cell_of_row _ _ _ _ _ _ hr1]; rfl
      have z1 : (f i).cell? ⟨w.heap.size + 1, 1, none⟩ = some (.slice none 0 0) := by rw [cell_of_row _ _ _ _ _ _ hr1]; rfl
      have z2 : (f i).cell? ⟨w.heap.size + 1 + 1, 0, none⟩ = some (.int .i64 0) := by rw [cell_of_row _ _ _ _ _ _ hr2]; rfl
      have z3 : (f i).cell? ⟨w.heap.size + 1 + 1, 1, none⟩ = some (.slice none 0 0) := by rw [cell_of_row _ _ _ _ _ _ hr2]; rfl
      have g0 := free_of_block hr1 0
      have g1 := free_of_block hr1 1
      have g2 := free_of_block hr2 0
      have g3 := free_of_block hr2 1
      have hsi := HFT.out i
      have hne1 : ¬ b4 = w.heap.size + 1 := by omega
      have hne2 : ¬ b4 = w.heap.size + 1 + 1 := by omega
      have hne3 : ¬ b5 = w.heap.size + 1 := by omega
      have hne4 : ¬ b5 = w.heap.size + 1 + 1 := by omega
      have hlt1 : w.heap.size + 1 < (f i).heap.size := by omega
      have hlt2 : w.heap.size + 1 + 1 < (f i).heap.size := by omega
      clear hr1 hr2 k0 k1
      go_wp2_with fail
      go_region
      all_goals
        go_wp2
        refine bodyPost_ret (v := .tuple #[.agg #[.int .i64 0, .slice (some ⟨x0, 0, none⟩) 8 8], .agg #[.int .i64 1, .slice (some ⟨x1, 0, none⟩) 8 8]]) (by simp [results, Tryz.results89, go_sem, z0, z1, z2, z3]) rfl ?_
        refine ⟨x0, x1, by rw [HA.out]; rfl, ?_, ?_, ?_⟩
        · rw [HA.out]
          repeat (first | (with_reducible exact HK0.out) | (with_reducible refine SecAt.set _ ?_ (by first | exact HNE.out.1.1 | exact HNE.out.1.2)) | (with_reducible refine SecAt.drew ?_))
        · rw [HA.out]
          repeat (first | (with_reducible exact HK1.out) | (with_reducible refine SecAt.set _ ?_ (by first | exact HNE.out.2.1 | exact HNE.out.2.2)) | (with_reducible refine SecAt.drew ?_))
        · repeat (first | (with_reducible exact HFB.out i) | (with_reducible refine Below.thenSet ?_ (by omega) _ _) | (with_reducible refine Below.drew ?_))
    case true.true =>
      by_cases hle : genOf bs 1 ≤ genOf bs 0
      · have HA : Hid (actOf bs = (0, 1)) := by show _ = _; rw [HAO.out, hX, hY, decide_eq_true hle]; rfl
        rw [hX] at HH0
        rw [hY] at HH1
        clear hX hY
        go_wp2_with fail
        refine region_class f (by kernel_rfl) (by kernel_rfl) HC0.out ?_
        repeat (go_big_quiet_step (first | (go_at_call 125; first | (with_reducible exact HH0.out _) | (with_reducible exact HH1.out _)) | (go_at_call 126; first | (with_reducible exact HG0.out _) | (with_reducible exact HG1.out _))))
        refine wpQuiet_nil ?_
        rintro _ ⟨i, rfl⟩
        obtain ⟨hr1, hr2⟩ := HRB.out i
        obtain ⟨k0, k1⟩ := HFS.out i
        have HNE : Hid ((x0 ≠ w.heap.size + 1 ∧ x0 ≠ w.heap.size + 1 + 1) ∧ (x1 ≠ w.heap.size + 1 ∧ x1 ≠ w.heap.size + 1 + 1)) := ⟨⟨k0.ne hr1 (by decide), k0.ne hr2 (by decide)⟩, ⟨k1.ne hr1 (by decide), k1.ne hr2 (by decide)⟩⟩
        have HK0 := hide k0
        have HK1 := hide k1
        have z0 : (f i).cell? ⟨w.heap.size + 1, 0, none⟩ = some (.int .i64 0) := by rw [cell_of_row _ _ _ _ _ _ hr1]; rfl
        have z1 : (f i).cell? ⟨w.heap.size + 1, 1, none⟩ = some (.slice none 0 0) := by rw [cell_of_row _ _ _ _ _ _ hr1]; rfl
        have z2 : (f i).cell? ⟨w.heap.size + 1 + 1, 0, none⟩ = some (.int .i64 0) := by rw [cell_of_row _ _ _ _ _ _ hr2]; rfl
        have z3 : (f i).cell? ⟨w.heap.size + 1 + 1, 1, none⟩ = some (.slice none 0 0) := by rw [cell_of_row _ _ _ _ _ _ hr2]; rfl
        have g0 := free_of_block hr1 0
        have g1 := free_of_block hr1 1
        have g2 := free_of_block hr2 0
        have g3 := free_of_block hr2 1
        have hsi := HFT.out i
        have hne1 : ¬ b4 = w.heap.size + 1 := by omega
        have hne2 : ¬ b4 = w.heap.size + 1 + 1 := by omega
        have hne3 : ¬ b5 = w.heap.size + 1 := by omega
        have hne4 : ¬ b5 = w.heap.size + 1 + 1 := by omega
        have hlt1 : w.heap.size + 1 < (f i).heap.size := by omega
        have hlt2 : w.heap.size + 1 + 1 < (f i).heap.size := by omega
        clear hr1 hr2 k0 k1
        go_wp2_with fail
        go_region
        all_goals
          go_wp2
          refine bodyPost_ret (v := .tuple #[.agg #[.int .i64 0, .slice (some ⟨x0, 0, none⟩) 8 8], .agg #[.int .i64 1, .slice (some ⟨x1, 0, none⟩) 8 8]]) (by simp [results, Tryz.results89, go_sem, z0, z1, z2, z3]) rfl ?_
          refine ⟨x0, x1, by rw [HA.out]; rfl, ?_, ?_, ?_⟩
          · rw [HA.out]
            repeat (first | (with_reducible exact HK0.out) | (with_reducible refine SecAt.set _ ?_ (by first | exact HNE.out.1.1 | exact HNE.out.1.2)) | (with_reducible refine SecAt.drew ?_))
          · rw [HA.out]
            repeat (first | (with_reducible exact HK1.out) | (with_reducible refine SecAt.set _ ?_ (by first | exact HNE.out.2.1 | exact HNE.out.2.2)) | (with_reducible refine SecAt.drew ?_))
          · repeat (first | (with_reducible exact HFB.out i) | (with_reducible refine Below.thenSet ?_ (by omega) _ _) | (with_reducible refine Below.drew ?_))
      · have HA : Hid (actOf bs = (1, 0)) := by show _ = _; rw [HAO.out, hX, hY, decide_eq_false hle]; rfl
        rw [hX] at HH0
        rw [hY] at HH1
        clear hX hY
        go_wp2_with fail
        refine region_class f (by kernel_rfl) (by kernel_rfl) HC0.out ?_
        repeat (go_big_quiet_step (first | (go_at_call 125; first | (with_reducible exact HH0.out _) | (with_reducible exact HH1.out _)) | (go_at_call 126; first | (with_reducible exact HG0.out _) | (with_reducible exact HG1.out _))))
        refine wpQuiet_nil ?_
        rintro _ ⟨i, rfl⟩
        obtain ⟨hr1, hr2⟩ := HRB.out i
        obtain ⟨k0, k1⟩ := HFS.out i
        have HNE : Hid ((x0 ≠ w.heap.size + 1 ∧ x0 ≠ w.heap.size + 1 + 1) ∧ (x1 ≠ w.heap.size + 1 ∧ x1 ≠ w.heap.size + 1 + 1)) := ⟨⟨k0.ne hr1 (by decide), k0.ne hr2 (by decide)⟩, ⟨k1.ne hr1 (by decide), k1.ne hr2 (by decide)⟩⟩
        have HK0 := hide k0
        have HK1 := hide k1
        have z0 : (f i).cell? ⟨w.heap.size + 1, 0, none⟩ = some (.int .i64 0) := by rw [cell_of_row _ _ _ _ _ _ hr1]; rfl
        have z1 : (f i).cell? ⟨w.heap.size + 1, 1, none⟩ = some (.slice none 0 0) := by rw [cell_of_row _ _ _ _ _ _ hr1]; rfl
        have z2 : (f i).cell? ⟨w.heap.size + 1 + 1, 0, none⟩ = some (.int .i64 0) := by rw [cell_of_row _ _ _ _ _ _ hr2]; rfl
        have z3 : (f i).cell? ⟨w.heap.size + 1 + 1, 1, none⟩ = some (.slice none 0 0) := by rw [cell_of_row _ _ _ _ _ _ hr2]; rfl
        have g0 := free_of_block hr1 0
        have g1 := free_of_block hr1 1
        have g2 := free_of_block hr2 0
        have g3 := free_of_block hr2 1
        have hsi := HFT.out i
        have hne1 : ¬ b4 = w.heap.size + 1 := by omega
        have hne2 : ¬ b4 = w.heap.size + 1 + 1 := by omega
        have hne3 : ¬ b5 = w.heap.size + 1 := by omega
        have hne4 : ¬ b5 = w.heap.size + 1 + 1 := by omega
        have hlt1 : w.heap.size + 1 < (f i).heap.size := by omega
        have hlt2 : w.heap.size + 1 + 1 < (f i).heap.size := by omega
        clear hr1 hr2 k0 k1
        go_wp2_with fail
        go_region
        all_goals
          go_wp2
          refine bodyPost_ret (v := .tuple #[.agg #[.int .i64 1, .slice (some ⟨x1, 0, none⟩) 8 8], .agg #[.int .i64 0, .slice (some ⟨x0, 0, none⟩) 8 8]]) (by simp [results, Tryz.results89, go_sem, z0, z1, z2, z3]) rfl ?_
          refine ⟨x1, x0, by rw [HA.out]; rfl, ?_, ?_, ?_⟩
          · rw [HA.out]
            repeat (first | (with_reducible exact HK1.out) | (with_reducible refine SecAt.set _ ?_ (by first | exact HNE.out.2.1 | exact HNE.out.2.2)) | (with_reducible refine SecAt.drew ?_))
          · rw [HA.out]
            repeat (first | (with_reducible exact HK0.out) | (with_reducible refine SecAt.set _ ?_ (by first | exact HNE.out.1.1 | exact HNE.out.1.2)) | (with_reducible refine SecAt.drew ?_))
          · repeat (first | (with_reducible exact HFB.out i) | (with_reducible refine Below.thenSet ?_ (by omega) _ _) | (with_reducible refine Below.drew ?_))
end Go.Proofs.YtnjlbgolnbdkaaaGreat
