/- Texts of the proofs of Watched and Clocked, one behind the other. -/
import Derived.Test.YtnjlbgolnbdkaaaGreatM14
import Derived.Test.YtnjlbgolnbdkaaaGreatM13
import Derived.BigQuiet
import Derived.Deep.QuietTactic
/- The program's journal: a fault is written down. -/
namespace Go.Proofs.YtnjlbgolnbdkaaaGreat
open Go.RowKit

theorem freeTo_le (bs : List Int) (s k : Nat) : freeTo bs s k ≤ k := by
  induction k with
  | zero => exact Nat.le_refl _
  | succ k ih =>
    unfold freeTo
    split
    · omega
    · exact Nat.le_refl _
theorem actOf_lt (bs : List Int) : (actOf bs).1 < 2 ∧ (actOf bs).2 < 2 := by
  unfold actOf
  split <;> exact ⟨by decide, by decide⟩
theorem block_set5 {w : World} {b : Nat} {z0 z1 z2 z3 z4 a0 a1 a2 a3 a4 : Value} {t : TypeId} (h : w.heap[b]? = some (.cells #[z0, z1, z2, z3, z4] t (0, 0))) : (((((w.setCell ⟨b, 0, none⟩ a0).setCell ⟨b, 1, none⟩ a1).setCell ⟨b, 2, none⟩ a2).setCell ⟨b, 3, none⟩ a3).setCell ⟨b, 4, none⟩ a4).heap[b]? = some (.cells #[a0, a1, a2, a3, a4] t (0, 0)) := by
  rw [block_set (block_set (block_set (block_set (block_set h 0 _) 1 _) 2 _) 3 _) 4 _]
  rfl
theorem below_set5 {B : Nat} {a w : World} {b : Nat} {a0 a1 a2 a3 a4 : Value} (h : Below B a w) (hb : B ≤ b) : Below B a (((((w.setCell ⟨b, 0, none⟩ a0).setCell ⟨b, 1, none⟩ a1).setCell ⟨b, 2, none⟩ a2).setCell ⟨b, 3, none⟩ a3).setCell ⟨b, 4, none⟩ a4) :=
  Below.thenSet (Below.thenSet (Below.thenSet (Below.thenSet (Below.thenSet h hb _ _) hb _ _) hb _ _) hb _ _) hb _ _
set_option maxRecDepth 100000 in
set_option maxHeartbeats 4000000 in
theorem append_any (g : Nat) (F : Fl) (part code act : Int) (w : World) (h : FlAt w g F) (hok : FlOk F) :
    Calls Tryz.prog 115 #[.agg #[.pointer (some ⟨g, 0, none⟩)], .int .i64 part, .int .i64 code, .int .i64 act] w fun e w' =>
      e = .returned (.bool (F.app part code act).1) ∧ FlAt w' g (F.app part code act).2 ∧ Touch (· = g) w w' := by
  have hlt := actOf_lt F.bs
  obtain ⟨w1, hw1⟩ : ∃ w1, w1 = w.alloc (.cells #[.pointer (some ⟨g, 0, none⟩)] 107) := ⟨_, rfl⟩
  have hb1 : Below w.heap.size w w1 := by rw [hw1]; exact (Below.refl _ _).alloc (Nat.le_refl _) _
  have hA1 : w1.heap[w.heap.size]? = some (.cells #[.pointer (some ⟨g, 0, none⟩)] 107 (0, 0)) := by rw [hw1]; exact heap_alloc_new w _
  have c0 : w1.cell? ⟨w.heap.size, 0, none⟩ = some (.pointer (some ⟨g, 0, none⟩)) := by rw [cell_of_row _ _ _ _ _ _ hA1]; rfl
  have HSE := hide (sectors_any g F.bs F.left F.res F.dead F.done w1 (h.below hb1))
  have HRE : Hid (∀ p, prestOf F.bs (actOf F.bs).1 p = restartsOf F.bs p) := fun p => prest_same F.bs h.bytes p
  have HLG := hide (plog_same F.bs h.bytes)
  have HGN : Hid (∀ s, 0 ≤ genOf F.bs s ∧ genOf F.bs s < 4294967296) := fun s => genOf_rng F.bs h.bytes s
  have HLN := hide (log_len F.bs)
  have HLU := hide (log_num F.bs h.bytes)
  have HBY := hide h.bytes
  have HFR : Hid (freeOf F.bs (actOf F.bs).1 ≤ 8) := freeTo_le F.bs _ 8
  have HAPP : Hid (F.app part code act = if headB F.bs (actOf F.bs).1 = true ∧ freeOf F.bs (actOf F.bs).1 < 8 then F.lay (128 * (actOf F.bs).1 + 16 * freeOf F.bs (actOf F.bs).1) (slotOf 1 part code (greatOf (logOf F.bs) + 1) act)
    else andB (F.erase (actOf F.bs).2) fun F1 => andB (F1.lay (128 * (actOf F.bs).2) (slotOf 2 0 0 (hdrOf F.bs (actOf F.bs).1 3 + 1) (allRest F.bs))) fun F2 => F2.lay (128 * (actOf F.bs).2 + 16) (slotOf 1 part code (greatOf (logOf F.bs) + 1) act)) := rfl
  have HF := hide h
  have HOK := hide hok
  have HB1 := hide hb1
  have HA1 := hide hA1
  have HW1 := hide hw1
  have hg := h.lt
  clear h hok hb1 hA1 hw1
  obtain ⟨R, hR⟩ : ∃ R, R = F.app part code act := ⟨_, rfl⟩
  rw [← hR] at HAPP ⊢
  clear hR
  generalize (actOf F.bs).1 = s1 at *
  generalize (actOf F.bs).2 = s2 at *
  go_enter Tryz.func115, Tryz.ntmps115
  go_wp2_with fail
  rw [← HW1.out]
  go_wp2_with fail
  refine HSE.out.mono ?_
  rintro e w2 ⟨x, y, rfl, hS1, hS2, hb2⟩
  have HB2 : Hid (Below w.heap.size w w2) := HB1.out.trans (hb2.mono HB1.out.size)
  obtain ⟨w3, hw3⟩ : ∃ w3, w3 = (w2.alloc (.cells #[.int .i64 s1, .slice (some ⟨x, 0, none⟩) 8 8] 183)).alloc (.cells #[.int .i64 s2, .slice (some ⟨y, 0, none⟩) 8 8] 183) := ⟨_, rfl⟩
  have hb3 : Below w2.heap.size w2 w3 := by rw [hw3]; exact ((Below.refl _ _).alloc (Nat.le_refl _) _).alloc (by simp) _
  have hA3 : w3.heap[w2.heap.size]? = some (.cells #[.int .i64 s1, .slice (some ⟨x, 0, none⟩) 8 8] 183 (0, 0)) := by rw [hw3, Below.heap_alloc _ _ _ (by simp)]; exact heap_alloc_new w2 _
  have hD3 : w3.heap[w2.heap.size + 1]? = some (.cells #[.int .i64 s2, .slice (some ⟨y, 0, none⟩) 8 8] 183 (0, 0)) := by rw [hw3]; exact heap_at (by simp)
  have hJ3 : w3.heap[w.heap.size]? = some (.cells #[.pointer (some ⟨g, 0, none⟩)] 107 (0, 0)) := (hb3.block _ (Nat.lt_of_lt_of_le (lt_of_block HA1.out) hb2.size)).trans ((hb2.block _ (lt_of_block HA1.out)).trans HA1.out)
  have HB3 : Hid (Below w.heap.size w w3) := HB2.out.trans (hb3.mono HB2.out.size)
  have HSX : Hid (SecAt x F.bs s1 w3) := hS1.below hb3
  have HSY : Hid (SecAt y F.bs s2 w3) := hS2.below hb3
  have HCE : Hid (∀ W, Below w3.heap.size w3 W → (W.cell? ⟨w.heap.size, 0, none⟩ = some (.pointer (some ⟨g, 0, none⟩)) ∧ W.cell? ⟨w2.heap.size, 0, none⟩ = some (.int .i64 s1) ∧ W.cell? ⟨w2.heap.size, 1, none⟩ = some (.slice (some ⟨x, 0, none⟩) 8 8)) ∧ W.cell? ⟨w2.heap.size + 1, 0, none⟩ = some (.int .i64 s2) ∧ W.cell? ⟨w2.heap.size + 1, 1, none⟩ = some (.slice (some ⟨y, 0, none⟩) 8 8)) := fun W hW => by
    have k1 := (hW.block _ (lt_of_block hJ3)).trans hJ3
    have k2 := (hW.block _ (lt_of_block hA3)).trans hA3
    have k3 := (hW.block _ (lt_of_block hD3)).trans hD3
    exact ⟨⟨by rw [cell_of_row _ _ _ _ _ _ k1]; rfl, by rw [cell_of_row _ _ _ _ _ _ k2]; rfl, by rw [cell_of_row _ _ _ _ _ _ k2]; rfl⟩, by rw [cell_of_row _ _ _ _ _ _ k3]; rfl, by rw [cell_of_row _ _ _ _ _ _ k3]; rfl⟩
  have HW3 := hide hw3
  obtain ⟨⟨j0, d0, d1⟩, f0, f1⟩ := HCE.out w3 (Below.refl _ _)
  clear hS1 hS2 hb2 hb3 hA3 hD3 hJ3 hw3 HSE
  go_wp2_with fail
  rw [← HW3.out]
  go_wp2_with fail
  refine (plog_any x y F.bs s1 s2 w3 HGN.out HSX.out HSY.out).mono ?_
  rintro e w4 ⟨v, rfl, ⟨hv, _⟩, hb4⟩
  rw [HLG.out] at hv
  have HV := hide hv
  have HB4 := hide hb4
  clear hv hb4 j0 d0 d1 f0 f1
  go_wp2_with fail
  refine (following_any w3.heap.size v (logOf F.bs) w4 HLN.out HLU.out HV.out).mono ?_
  rintro e w5 ⟨rfl, hb5⟩
  have HB5 : Hid (Below w3.heap.size w3 w5) := HB4.out.trans (hb5.mono HB4.out.size)
  clear hb5
  generalize greatOf (logOf F.bs) + 1 = sq at *
  obtain ⟨w6, hw6⟩ : ∃ w6, w6 = w5.alloc (.cells #[.int .i64 1, .int .i64 part, .int .i64 code, .int .i64 sq, .int .i64 act] 52) := ⟨_, rfl⟩
  have HB6 : Hid (Below w3.heap.size w3 w6) := by rw [hw6]; exact HB5.out.alloc HB5.out.size _
  have hA6 : w6.heap[w5.heap.size]? = some (.cells #[.int .i64 1, .int .i64 part, .int .i64 code, .int .i64 sq, .int .i64 act] 52 (0, 0)) := by rw [hw6]; exact heap_alloc_new w5 _
  have HRC : Hid (∀ W, Below w6.heap.size w6 W → W.cell? ⟨w5.heap.size, 0, none⟩ = some (.int .i64 1) ∧ W.cell? ⟨w5.heap.size, 1, none⟩ = some (.int .i64 part) ∧ W.cell? ⟨w5.heap.size, 2, none⟩ = some (.int .i64 code) ∧ W.cell? ⟨w5.heap.size, 3, none⟩ = some (.int .i64 sq) ∧ W.cell? ⟨w5.heap.size, 4, none⟩ = some (.int .i64 act)) := fun W hW => by
    have k1 := (hW.block _ (lt_of_block hA6)).trans hA6
    exact ⟨by rw [cell_of_row _ _ _ _ _ _ k1]; rfl, by rw [cell_of_row _ _ _ _ _ _ k1]; rfl, by rw [cell_of_row _ _ _ _ _ _ k1]; rfl, by rw [cell_of_row _ _ _ _ _ _ k1]; rfl, by rw [cell_of_row _ _ _ _ _ _ k1]; rfl⟩
  have HW6 := hide hw6
  have HG6 : Hid (∀ W, Below w6.heap.size w6 W → Below w3.heap.size w3 W) := fun W hW => HB6.out.trans (hW.mono HB6.out.size)
  clear hw6 hA6
  obtain ⟨⟨_, d0, d1⟩, _, _⟩ := HCE.out w5 HB5.out
  have hlt5 := lt_of_cell d0
  go_wp2_with fail
  rw [← HW6.out]
  refine (free_any x F.bs s1 w6 (HSX.out.below HB6.out)).mono ?_
  rintro e w7 ⟨rfl, hb7⟩
  have HB7 := hide hb7
  clear hb7 d0 d1 hlt5
  obtain ⟨⟨_, d0, d1⟩, _, _⟩ := HCE.out w7 (HG6.out w7 HB7.out)
  have HHD := hide (headed_any x F.bs s1 w7 (HSX.out.below (HG6.out w7 HB7.out)))
  have hfr := HFR.out
  generalize freeOf F.bs s1 = fr at *
  generalize headB F.bs s1 = hd at *
  go_wp2_with fail
  refine HHD.out.mono ?_
  rintro e w8 ⟨rfl, hb8⟩
  have HB8 : Hid (Below w6.heap.size w6 w8) := HB7.out.trans (hb8.mono HB7.out.size)
  clear hb8 d0 d1 HHD HB7
  obtain ⟨⟨j0, d0, d1⟩, f0, f1⟩ := HCE.out w8 (HG6.out w8 HB8.out)
  obtain ⟨r0, r1, r2, r3, r4⟩ := HRC.out w8 HB8.out
  have HBW : Hid (Below w.heap.size w w8) := HB3.out.trans ((HG6.out w8 HB8.out).mono HB3.out.size)
  by_cases hc : hd = true ∧ fr < 8
  · obtain ⟨rfl, h8⟩ := hc
    rw [if_pos ⟨rfl, h8⟩] at HAPP
    have HLY := hide (jlay_any g F s1 fr 1 part code sq act w8 (HF.out.below HBW.out) HOK.out hlt.1 h8)
    rw [← HAPP.out] at HLY
    clear HAPP
    go_wp2_with fail
    refine HLY.out.mono ?_
    rintro e w9 ⟨rfl, h91, h92⟩
    have H91 := hide h91
    have H92 : Hid (Touch (· = g) w w9) := (Touch.ofBelow HBW.out).andThen h92
    clear h91 h92 HLY
    go_wp2
    go_ret
    exact ⟨rfl, H91.out, H92.out⟩
  · rw [if_neg hc] at HAPP
    have HAL := hide (fun W (hW : Below w8.heap.size w8 W) => allRest_any x F.bs s1 W HBY.out ((HSX.out.below (HG6.out w8 HB8.out)).below hW) HRE.out)
    have HGE := hide (fun W (hW : Below w8.heap.size w8 W) => generation_any x F.bs s1 W ((HSX.out.below (HG6.out w8 HB8.out)).below hW))
    have HGR := hide (HGN.out s1)
    have HGG : Hid (genOf F.bs s1 = hdrOf F.bs s1 3) := rfl
    rw [← HGG.out] at HAPP
    have hgr := HGN.out s1
    generalize genOf F.bs s1 = gn at *
    generalize allRest F.bs = al at *
    obtain ⟨P, hP⟩ : ∃ P : World → Prop, P = fun W => Below w8.heap.size w8 W := ⟨_, rfl⟩
    obtain ⟨Z, hZ⟩ : ∃ Z : Nat → World → Prop, Z = fun b W => w8.heap.size ≤ b ∧ W.heap[b]? = some (.cells #[.int .i64 0, .int .i64 0, .int .i64 0, .int .i64 0, .int .i64 0] 52 (0, 0)) := ⟨_, rfl⟩
    have HP0 : Hid (P w8.drew) := by subst hP; exact (Below.refl _ _).drew
    have HPS : Hid (∀ W, P W → W.cell? ⟨w2.heap.size, 0, none⟩ = some (.int .i64 s1) ∧ W.cell? ⟨w2.heap.size, 1, none⟩ = some (.slice (some ⟨x, 0, none⟩) 8 8)) := fun W h => by
      subst hP
      have := (HCE.out W (HG6.out W (HB8.out.trans (h.mono HB8.out.size)))).1
      exact this.2
    have HP1 : Hid (∀ W, P W → Calls Tryz.prog 126 #[.agg #[.int .i64 s1, .slice (some ⟨x, 0, none⟩) 8 8]] W fun e w' => e = .returned (.int .i64 gn) ∧ P w' ∧ ∀ b, Z b W → Z b w') := fun W h => by
      subst hP hZ
      refine (HGE.out W h).mono ?_
      rintro e w' ⟨rfl, hb⟩
      exact ⟨rfl, h.trans (hb.mono h.size), fun b hz => ⟨hz.1, (hb.block b (lt_of_block hz.2)).trans hz.2⟩⟩
    have HP2 : Hid (∀ W, P W → Calls Tryz.prog 157 #[.agg #[.int .i64 s1, .slice (some ⟨x, 0, none⟩) 8 8]] W fun e w' => e = .returned (.int .i64 al) ∧ P w' ∧ ∀ b, Z b W → Z b w') := fun W h => by
      subst hP hZ
      refine (HAL.out W h).mono ?_
      rintro e w' ⟨rfl, hb⟩
      exact ⟨rfl, h.trans (hb.mono h.size), fun b hz => ⟨hz.1, (hb.block b (lt_of_block hz.2)).trans hz.2⟩⟩
    have HPA : Hid (∀ W, P W → P (W.alloc (.cells #[.int .i64 0, .int .i64 0, .int .i64 0, .int .i64 0, .int .i64 0] 52)) ∧ Z W.heap.size (W.alloc (.cells #[.int .i64 0, .int .i64 0, .int .i64 0, .int .i64 0, .int .i64 0] 52))) := fun W h => by
      subst hP hZ
      exact ⟨h.alloc h.size _, h.size, heap_alloc_new W _⟩
    have HPD : Hid (P (w8.alloc (.cells #[.int .i64 0, .int .i64 0, .int .i64 0, .int .i64 0, .int .i64 0] 52)).drew ∧ Z w8.heap.size (w8.alloc (.cells #[.int .i64 0, .int .i64 0, .int .i64 0, .int .i64 0, .int .i64 0] 52)).drew) := by
      subst hP hZ
      exact ⟨((Below.refl _ _).alloc (Nat.le_refl _) _).drew, Nat.le_refl _, heap_alloc_new w8 _⟩
    have HZC : Hid (∀ b W, Z b W → (W.cell? ⟨b, 0, none⟩ = some (.int .i64 0) ∧ W.cell? ⟨b, 1, none⟩ = some (.int .i64 0) ∧ W.cell? ⟨b, 2, none⟩ = some (.int .i64 0) ∧ W.cell? ⟨b, 3, none⟩ = some (.int .i64 0) ∧ W.cell? ⟨b, 4, none⟩ = some (.int .i64 0)) ∧ W.frozen? ⟨b, 0, none⟩ = false ∧ W.frozen? ⟨b, 1, none⟩ = false ∧ W.frozen? ⟨b, 2, none⟩ = false ∧ W.frozen? ⟨b, 3, none⟩ = false ∧ W.frozen? ⟨b, 4, none⟩ = false) := fun b W h => by
      subst hZ
      have hf := free_of_block h.2
      exact ⟨⟨by rw [cell_of_row _ _ _ _ _ _ h.2]; rfl, by rw [cell_of_row _ _ _ _ _ _ h.2]; rfl, by rw [cell_of_row _ _ _ _ _ _ h.2]; rfl, by rw [cell_of_row _ _ _ _ _ _ h.2]; rfl, by rw [cell_of_row _ _ _ _ _ _ h.2]; rfl⟩, hf 0, hf 1, hf 2, hf 3, hf 4⟩
    obtain ⟨E, hE⟩ : ∃ E : Value → World → Prop, E = fun v wx => ∃ b, v = .pointer (some ⟨b, 0, none⟩) ∧ w8.heap.size ≤ b ∧ wx.heap[b]? = some (.cells #[.int .i64 2, .int .i64 0, .int .i64 0, .int .i64 (gn + 1), .int .i64 al] 52 (0, 0)) ∧ Below w8.heap.size w8 wx := ⟨_, rfl⟩
    have HE1 : Hid (∀ b W, P W → Z b W → E (.pointer (some ⟨b, 0, none⟩)) (((((W.setCell ⟨b, 0, none⟩ (.int .i64 2)).setCell ⟨b, 1, none⟩ (.int .i64 0)).setCell ⟨b, 2, none⟩ (.int .i64 0)).setCell ⟨b, 3, none⟩ (.int .i64 (gn + 1))).setCell ⟨b, 4, none⟩ (.int .i64 al))) := fun b W h1 h2 => by
      subst hP hZ hE
      exact ⟨b, rfl, h2.1, block_set5 h2.2, below_set5 h1 h2.1⟩
    have HE2 : Hid (∀ W, P W → E (.pointer (some ⟨W.heap.size, 0, none⟩)) (W.alloc (.cells #[.int .i64 2, .int .i64 0, .int .i64 0, .int .i64 (gn + 1), .int .i64 al] 52))) := fun W h1 => by
      subst hP hZ hE
      exact ⟨W.heap.size, rfl, h1.size, heap_alloc_new W _, h1.alloc h1.size _⟩
    have HEE : Hid (∀ v W, E v W → ∃ b, v = .pointer (some ⟨b, 0, none⟩) ∧ w8.heap.size ≤ b ∧ W.heap[b]? = some (.cells #[.int .i64 2, .int .i64 0, .int .i64 0, .int .i64 (gn + 1), .int .i64 al] 52 (0, 0)) ∧ Below w8.heap.size w8 W) := fun v W h => by subst hE; exact h
    have hne8 := World.new_ne _ _ d0
    have hgn1 : IntKind.i64.wrap (gn + 1) = gn + 1 := by rw [IntKind.wrap_i64]; omega
    clear hP hZ hE HAL HGE HGN
    have hc' : hd = false ∨ (hd = true ∧ fr = 8) := by
      cases hd with
      | false => exact .inl rfl
      | true => exact .inr ⟨rfl, by have := hc; simp at this; omega⟩
    clear hc
    rcases hc' with rfl | ⟨rfl, rfl⟩
    all_goals (
      go_wp2_with fail
      go_cut [13] from 29 to 46 (fun v wx => E v wx)
      case first =>
        go_region_held (fun W : World => W.cell? ⟨w2.heap.size, 0, none⟩ = some (.int .i64 s1) ∧ W.cell? ⟨w2.heap.size, 1, none⟩ = some (.slice (some ⟨x, 0, none⟩) 8 8))
          ((first | (with_reducible assumption) | (with_reducible exact HPS.out _ (HPA.out _ (by first | (with_reducible assumption) | (with_reducible exact HP0.out))).1) | (with_reducible exact HPS.out _ HP0.out) | (with_reducible exact HPS.out _ HPD.out.1) | (go_keep; done)))
          (first
          | (go_at_call 126; refine (HP1.out _ (by first | (with_reducible assumption) | (with_reducible exact HP0.out) | (with_reducible exact HPD.out.1) | (with_reducible exact (HPA.out _ (by first | (with_reducible assumption) | (with_reducible exact HP0.out))).1))).mono ?_; rintro e w9 ⟨rfl, hp9, hz9⟩; have hS := HPS.out _ hp9; have hne := World.new_ne _ _ hS.1; try (first | (have hzz := hz9 _ (by with_reducible assumption)) | (have hzz := hz9 _ (by with_reducible exact HPD.out.2)) | (have hzz := hz9 _ (by with_reducible exact (HPA.out _ (by first | (with_reducible assumption) | (with_reducible exact HP0.out))).2))); try (obtain ⟨⟨y0, y1, y2, y3, y4⟩, y5, y6, y7, y8, y9⟩ := HZC.out _ _ hzz))
          | (go_at_call 157; refine (HP2.out _ (by first | (with_reducible assumption) | (with_reducible exact HP0.out) | (with_reducible exact HPD.out.1) | (with_reducible exact (HPA.out _ (by first | (with_reducible assumption) | (with_reducible exact HP0.out))).1))).mono ?_; rintro e w9 ⟨rfl, hp9, hz9⟩; have hS := HPS.out _ hp9; have hne := World.new_ne _ _ hS.1; try (first | (have hzz := hz9 _ (by with_reducible assumption)) | (have hzz := hz9 _ (by with_reducible exact HPD.out.2)) | (have hzz := hz9 _ (by with_reducible exact (HPA.out _ (by first | (with_reducible assumption) | (with_reducible exact HP0.out))).2))); try (obtain ⟨⟨y0, y1, y2, y3, y4⟩, y5, y6, y7, y8, y9⟩ := HZC.out _ _ hzz)))
        all_goals (go_wp2_with fail; go_meet; first | (with_reducible exact HE2.out _ (by with_reducible assumption)) | (with_reducible exact HE1.out _ _ (by with_reducible assumption) (by with_reducible assumption)))
      case rest =>
        obtain ⟨b, rfl, hbb, hAb, hb9⟩ := HEE.out _ _ hcut
        have HB9 : Hid (Below w6.heap.size w6 wc) := HB8.out.trans (hb9.mono HB8.out.size)
        have HBC : Hid (Below w.heap.size w wc) := HB3.out.trans ((HG6.out wc HB9.out).mono HB3.out.size)
        have HAB := hide hAb
        have HBB : Hid (w.heap.size ≤ b) := Nat.le_trans HBW.out.size hbb
        have HT : Hid (∀ W, Touch (· = g) wc W → (W.cell? ⟨w.heap.size, 0, none⟩ = some (.pointer (some ⟨g, 0, none⟩)) ∧ W.cell? ⟨w2.heap.size + 1, 0, none⟩ = some (.int .i64 s2)) ∧ (W.cell? ⟨w5.heap.size, 0, none⟩ = some (.int .i64 1) ∧ W.cell? ⟨w5.heap.size, 1, none⟩ = some (.int .i64 part) ∧ W.cell? ⟨w5.heap.size, 2, none⟩ = some (.int .i64 code) ∧ W.cell? ⟨w5.heap.size, 3, none⟩ = some (.int .i64 sq) ∧ W.cell? ⟨w5.heap.size, 4, none⟩ = some (.int .i64 act)) ∧ (W.cell? ⟨b, 0, none⟩ = some (.int .i64 2) ∧ W.cell? ⟨b, 1, none⟩ = some (.int .i64 0) ∧ W.cell? ⟨b, 2, none⟩ = some (.int .i64 0) ∧ W.cell? ⟨b, 3, none⟩ = some (.int .i64 (gn + 1)) ∧ W.cell? ⟨b, 4, none⟩ = some (.int .i64 al))) := fun W hW => by
          have key : ∀ (q o : Nat) (v : Value), w.heap.size ≤ q → wc.cell? ⟨q, o, none⟩ = some v → W.cell? ⟨q, o, none⟩ = some v := fun q o v hq hv => (World.cell?_of_block (hW.block q (lt_of_cell hv) (by intro e; have e2 : q = g := e; omega))).trans hv
          obtain ⟨⟨k0, _, _⟩, k1, _⟩ := HCE.out wc (HG6.out wc HB9.out)
          obtain ⟨m0, m1, m2, m3, m4⟩ := HRC.out wc HB9.out
          have h2 := HB2.out.size
          have h5 := Nat.le_trans HB3.out.size HB5.out.size
          have h8 := HBB.out
          exact ⟨⟨key _ _ _ (Nat.le_refl _) k0, key _ _ _ (by omega) k1⟩, ⟨key _ _ _ h5 m0, key _ _ _ h5 m1, key _ _ _ h5 m2, key _ _ _ h5 m3, key _ _ _ h5 m4⟩, key _ _ _ h8 (by rw [cell_of_row _ _ _ _ _ _ HAB.out]; rfl), key _ _ _ h8 (by rw [cell_of_row _ _ _ _ _ _ HAB.out]; rfl), key _ _ _ h8 (by rw [cell_of_row _ _ _ _ _ _ HAB.out]; rfl), key _ _ _ h8 (by rw [cell_of_row _ _ _ _ _ _ HAB.out]; rfl), key _ _ _ h8 (by rw [cell_of_row _ _ _ _ _ _ HAB.out]; rfl)⟩
        have HER := hide (erase_any g F s2 wc (HF.out.below HBC.out) HOK.out hlt.2)
        have HO1 := hide (HOK.out.erase s2)
        clear hcut hbb hAb hb9 j0 d0 d1 f0 f1 r0 r1 r2 r3 r4 hne8
        obtain ⟨⟨j0, f0⟩, ⟨r0, r1, r2, r3, r4⟩, q0, q1, q2, q3, q4⟩ := HT.out wc (Touch.refl _ _)
        generalize F.erase s2 = E1 at *
        obtain ⟨b1, F1⟩ := E1
        simp only at HER HO1
        go_wp2_with fail
        refine HER.out.mono ?_
        rintro e w10 ⟨rfl, h11, h12⟩
        have H12 := hide h12
        have H11 := hide h11
        clear h11 h12 HER j0 f0 r0 r1 r2 r3 r4 q0 q1 q2 q3 q4
        cases b1 with
        | false =>
          have HEND : Hid (R = (false, F1)) := by show _ = _; rw [HAPP.out]; rfl
          go_wp2
          go_ret
          rw [HEND.out]
          exact ⟨rfl, H11.out, (Touch.ofBelow HBC.out).andThen H12.out⟩
        | true =>
          rw [andB_yes] at HAPP
          obtain ⟨⟨j0, f0⟩, ⟨r0, r1, r2, r3, r4⟩, q0, q1, q2, q3, q4⟩ := HT.out w10 H12.out
          have HLY := hide (jlay_any g F1 s2 0 2 0 0 (gn + 1) al w10 H11.out HO1.out hlt.2 (by omega))
          rw [show 128 * s2 + 16 * 0 = 128 * s2 from by omega] at HLY
          have HO2 := hide (HO1.out.lay (128 * s2) (slotOf 2 0 0 (gn + 1) al))
          generalize F1.lay (128 * s2) (slotOf 2 0 0 (gn + 1) al) = E2 at *
          obtain ⟨b2, F2⟩ := E2
          simp only at HLY HO2
          go_wp2_with fail
          refine HLY.out.mono ?_
          rintro e w11 ⟨rfl, h21, h22⟩
          have H22 : Hid (Touch (· = g) wc w11) := H12.out.andThen h22
          have H21 := hide h21
          clear h21 h22 HLY j0 f0 r0 r1 r2 r3 r4 q0 q1 q2 q3 q4
          cases b2 with
          | false =>
            have HEND : Hid (R = (false, F2)) := by show _ = _; rw [HAPP.out]; rfl
            go_wp2
            go_ret
            rw [HEND.out]
            exact ⟨rfl, H21.out, (Touch.ofBelow HBC.out).andThen H22.out⟩
          | true =>
            rw [andB_yes] at HAPP
            obtain ⟨⟨j0, f0⟩, ⟨r0, r1, r2, r3, r4⟩, q0, q1, q2, q3, q4⟩ := HT.out w11 H22.out
            have HLZ := hide (jlay_any g F2 s2 1 1 part code sq act w11 H21.out HO2.out hlt.2 (by omega))
            rw [show 128 * s2 + 16 * 1 = 128 * s2 + 16 from by omega, ← HAPP.out] at HLZ
            clear HAPP
            obtain ⟨b3, F3⟩ := R
            simp only at HLZ
            go_wp2_with fail
            refine HLZ.out.mono ?_
            rintro e w12 ⟨rfl, h31, h32⟩
            have H32 : Hid (Touch (· = g) w w12) := (Touch.ofBelow HBC.out).andThen (H22.out.andThen h32)
            have H31 := hide h31
            clear h31 h32 HLZ
            go_wp2
            go_ret
            exact ⟨rfl, H31.out, H32.out⟩)
end Go.Proofs.YtnjlbgolnbdkaaaGreat
/- The program's machine: what the table says, and what is done. -/
namespace Go.Proofs.YtnjlbgolnbdkaaaGreat
open Go.RowKit

theorem RSt.act_len (st : RSt) (i n : Nat) (a : Int) : (st.act i n a).parts.length = st.parts.length := by
  unfold RSt.act
  repeat' split
  all_goals simp [RSt.setProc, RSt.setPart, RSt.restart, RSt.reset]
theorem RSt.act_cf (st : RSt) (i n : Nat) (a : Int) : (st.act i n a).cf = st.cf := by
  unfold RSt.act
  repeat' split
  all_goals rfl
theorem RSt.act_now (st : RSt) (i n : Nat) (a : Int) : (st.act i n a).now = st.now := by
  unfold RSt.act
  repeat' split
  all_goals rfl
theorem Mo.setProc {w w' : World} {L : MLay} {g : Nat} {st : RSt} {F : Fl} (h : Mo w L g st F) (i n : Nat) (x : RProc) (hi : i < st.parts.length) (ht : Touch (· = L.pr i) w w') (hm : MachAt w' L g (st.setProc i n x)) : Mo w' L g (st.setProc i n x) F ∧ Touch (Dm L g st) w w' :=
  ⟨h.cells (h.mach.procs i hi) (by decide) ht hm (RSt.setPart_len _ _ _) rfl (h.ok.setPart i _ rfl (by simp)), ht.to (fun b e => by have e2 : b = L.pr i := e; rw [e2]; exact .inr (.inr (.inl ⟨i, hi, .inr rfl⟩)))⟩
theorem Mo.setPart {w w' : World} {L : MLay} {g : Nat} {st : RSt} {F : Fl} (h : Mo w L g st F) (i : Nat) (p : RPart) (hw : p.words.length = (st.part i).words.length) (hp : p.procs.length = (st.part i).procs.length) (ht : Touch (· = L.pb) w w') (hm : MachAt w' L g (st.setPart i p)) : Mo w' L g (st.setPart i p) F ∧ Touch (Dm L g st) w w' :=
  ⟨h.cells h.mach.parts (by decide) ht hm (RSt.setPart_len _ _ _) rfl (h.ok.setPart i p hw hp), ht.to (fun b e => .inr (.inl e))⟩
set_option maxRecDepth 100000 in
set_option maxHeartbeats 2000000 in
theorem act_any (L : MLay) (g : Nat) (st : RSt) (F : Fl) (i n : Nat) (q : Option Addr) (a : Int) (w : World) (h : Mo w L g st F) (hi : i < st.parts.length) (hn : n < (st.part i).procs.length) (hq : q = some ⟨L.pr i, n * 6, none⟩ ∨ (a ≠ 2 ∧ a ≠ 3)) :
    Calls Tryz.prog 116 #[.pointer (some ⟨L.mb, 0, none⟩), .pointer (some ⟨L.pb, i * 14, none⟩), .pointer q, .int .i64 a] w fun e w' => e = .returned (.tuple #[]) ∧ Mo w' L g (st.act i n a) F ∧ Touch (Dm L g st) w w' := by
  have c6 := h.mach.machAt 6
  simp only [List.getElem?_toArray, List.getElem?_cons_succ, List.getElem?_cons_zero] at c6
  have c9 := h.mach.partAt i 9 hi (by omega)
  simp only [mpartC, List.getElem?_cons_succ, List.getElem?_cons_zero] at c9
  have f9 := free_of_block h.mach.parts (i * 14 + 9)
  have p3 := h.mach.procAt i n 3 hi hn (by omega)
  simp only [mprocCells, List.getElem?_cons_succ, List.getElem?_cons_zero] at p3
  have f3 := free_of_block (h.mach.procs i hi) (n * 6 + 3)
  have H := hide h
  obtain ⟨R, hR⟩ : ∃ R, R = st.act i n a := ⟨_, rfl⟩
  rw [← hR]
  unfold RSt.act at hR
  by_cases h2 : a = 2
  · rw [if_pos h2] at hR
    subst h2
    obtain rfl : q = some ⟨L.pr i, n * 6, none⟩ := by rcases hq with hq | hq; exact hq; exact absurd rfl hq.1
    have HEND := hide (h.setProc i n { st.proc i n with stopped := true } hi (Touch.ofSet w (L.pr i) (n * 6 + 3) (.bool true) rfl) (h.mach.procCell h.lay i n 3 (.bool true) _ hi hn (by omega) rfl))
    have HR := hide hR
    clear h hR hq
    go_enter Tryz.func116, Tryz.ntmps116
    go_wp2
    go_end0
    rw [HR.out]
    exact ⟨rfl, HEND.out.1, HEND.out.2⟩
  rw [if_neg h2] at hR
  have b2 : (a == 2) = false := by simp [h2]
  by_cases h3 : a = 3
  · rw [if_pos h3] at hR
    subst h3
    obtain rfl : q = some ⟨L.pr i, n * 6, none⟩ := by rcases hq with hq | hq; exact hq; exact absurd rfl hq.2
    have HB := hide (begin_any L g st i n w h.mach h.lay hi hn)
    have HR := hide hR
    clear h hR hq h2 b2
    go_enter Tryz.func116, Tryz.ntmps116
    go_wp2_with fail
    refine HB.out.mono ?_
    rintro e w1 ⟨rfl, h1, ht⟩
    have HEND := hide (H.out.setProc i n proc0 hi ht h1)
    clear h1 ht
    go_wp2
    go_end0
    rw [HR.out]
    exact ⟨rfl, HEND.out.1, HEND.out.2⟩
  rw [if_neg h3] at hR
  have b3 : (a == 3) = false := by simp [h3]
  by_cases h4 : a = 4
  · rw [if_pos h4] at hR
    subst h4
    have HB := hide (restart_any L g st F i 2 st.now w h hi rfl)
    have HR := hide hR
    clear h hR hq h2 b2 h3 b3
    go_enter Tryz.func116, Tryz.ntmps116
    go_wp2_with fail
    refine HB.out.mono ?_
    rintro e w1 ⟨rfl, h1, ht⟩
    have HEND := hide (And.intro h1 ht)
    clear h1 ht
    go_wp2
    go_end0
    rw [HR.out]
    exact ⟨rfl, HEND.out.1, HEND.out.2⟩
  rw [if_neg h4] at hR
  have b4 : (a == 4) = false := by simp [h4]
  by_cases h5 : a = 5
  · rw [if_pos h5] at hR
    subst h5
    have HB := hide (restart_any L g st F i 1 st.now w h hi rfl)
    have HR := hide hR
    clear h hR hq h2 b2 h3 b3 h4 b4
    go_enter Tryz.func116, Tryz.ntmps116
    go_wp2_with fail
    refine HB.out.mono ?_
    rintro e w1 ⟨rfl, h1, ht⟩
    have HEND := hide (And.intro h1 ht)
    clear h1 ht
    go_wp2
    go_end0
    rw [HR.out]
    exact ⟨rfl, HEND.out.1, HEND.out.2⟩
  rw [if_neg h5] at hR
  have b5 : (a == 5) = false := by simp [h5]
  by_cases h6 : a = 6
  · rw [if_pos h6] at hR
    subst h6
    have HEND := hide (h.setPart i { st.part i with mode := 3 } rfl rfl (Touch.ofSet w L.pb (i * 14 + 9) (.int .i64 3) rfl) (h.mach.setMode i 3 hi))
    have HR := hide hR
    clear h hR hq h2 b2 h3 b3 h4 b4 h5 b5
    go_enter Tryz.func116, Tryz.ntmps116
    go_wp2
    go_end0
    rw [HR.out]
    exact ⟨rfl, HEND.out.1, HEND.out.2⟩
  rw [if_neg h6] at hR
  have b6 : (a == 6) = false := by simp [h6]
  by_cases h7 : a = 7
  · rw [if_pos h7] at hR
    subst h7
    have HB := hide (reset_any L g st F w h)
    have HR := hide hR
    clear h hR hq h2 b2 h3 b3 h4 b4 h5 b5 h6 b6
    go_enter Tryz.func116, Tryz.ntmps116
    go_wp2_with fail
    refine HB.out.mono ?_
    rintro e w1 ⟨rfl, h1, ht⟩
    have HEND := hide (And.intro h1 ht)
    clear h1 ht
    go_wp2
    go_end0
    rw [HR.out]
    exact ⟨rfl, HEND.out.1, HEND.out.2⟩
  rw [if_neg h7] at hR
  have b7 : (a == 7) = false := by simp [h7]
  have HR := hide hR
  clear h hR hq h2 h3 h4 h5 h6 h7
  go_enter Tryz.func116, Tryz.ntmps116
  go_wp2
  go_end0
  rw [HR.out]
  exact ⟨rfl, H.out, Touch.refl _ _⟩
end Go.Proofs.YtnjlbgolnbdkaaaGreat
