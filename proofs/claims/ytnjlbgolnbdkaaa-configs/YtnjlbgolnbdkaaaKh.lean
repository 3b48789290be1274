/- The statement Configs: parsed. -/
import Derived.Test.YtnjlbgolnbdkaaaKe
import Derived.Test.YtnjlbgolnbdkaaaKg
import Derived.Test.YtnjlbgolnbdkaaaTc
namespace Go.Proofs.Ytnjlbgolnbdkaaa
open Go.RowKit

theorem rdTo_mem {α : Type} (f : Rd → α × Rd) (k : Nat) (r : Rd) : ∀ x ∈ (rdTo f k r).1, ∃ r', x = (f r').1 := by
  induction k with
  | zero => intro x hx; simp [rdTo] at hx
  | succ k ih =>
    intro x hx
    by_cases he : (rdTo f k r).2.err = 0
    · rw [rdTo_go f k r he] at hx
      rcases List.mem_append.1 hx with hx | hx
      · exact ih x hx
      · exact ⟨_, List.mem_singleton.1 hx⟩
    · rw [rdTo_stop f k r he (k + 1) (by omega)] at hx
      exact ih x hx
theorem rdTo_le {α : Type} (f : Rd → α × Rd) (k : Nat) (r : Rd) : (rdTo f k r).1.length ≤ k := by
  induction k with
  | zero => exact Nat.le_refl _
  | succ k ih =>
    by_cases he : (rdTo f k r).2.err = 0
    · rw [rdTo_go f k r he, List.length_append]; simp; exact ih
    · rw [rdTo_stop f k r he (k + 1) (by omega)]; omega
theorem part_small (zs : List Int) (r : Rd) : (rdPart zs r).1.procs.length ≤ 20 ∧ ∀ q ∈ (rdPart zs r).1.procs, q.code.length ≤ 1000 := by
  refine ⟨Nat.le_trans (rdTo_le _ _ _) ?_, fun q hq => ?_⟩
  · have := (rdB_val zs 1 2 (rdActs zs 6 (rdB zs 0 9 (rdB zs 1 16 (rdB zs 0 1 r).2).2).2).2 (by omega)).2
    omega
  · obtain ⟨r', rfl⟩ := rdTo_mem _ _ _ q hq
    refine Nat.le_trans (rdTo_le _ _ _) ?_
    have := (rdB_val zs 1 20 (rdB zs 0 9 r').2 (by omega)).2
    omega
theorem conf_small (zs : List Int) : CfSmall (rdConf zs).1 := by
  refine ⟨Nat.le_trans (rdTo_le _ _ _) ?_, fun p hp => ?_, Nat.le_trans (rdTo_le _ _ _) ?_, Nat.le_trans (rdTo_le _ _ _) ?_⟩
  · have := fun r => (rdB_val zs 1 4 r (by omega)).2
    have := this (rdB zs 72 72 ⟨0, 0, 0, 0⟩).2
    omega
  · obtain ⟨r', rfl⟩ := rdTo_mem _ _ _ p hp
    exact part_small zs r'
  · generalize (rdTo (rdPart zs) _ _).2 = r
    have := (rdB_val zs 1 8 r (by omega)).2
    omega
  · generalize (rdTo (rdWin zs _ _) _ _).2 = r
    have := (rdB_val zs 0 4 r (by omega)).2
    omega
theorem noCf_small : CfSmall noCf := ⟨by simp [noCf], fun p hp => by simp [noCf] at hp, by simp [noCf], by simp [noCf]⟩
theorem parse_small (zs : List Int) : CfSmall (parseOf zs).1 := by
  unfold parseOf
  simp only
  repeat' split
  all_goals first | exact noCf_small | exact conf_small zs

/- the hands, between two calls -/
structure HandsC (base hb : Nat) (n : Int) (T : Nat) (w : World) : Prop where
  bh : base ≤ hb
  ex : ∃ (L : Nat → Nat) (vs : Nat → Value) (A : Nat → List Kept), Hnd L hb n vs A A w ∧ (∀ k, k < base → 100 ≤ L k) ∧ ∀ f, (A f).length ≤ T
theorem HandsC.below {base hb : Nat} {n : Int} {T : Nat} {w w' : World} (h : HandsC base hb n T w) (b : Below w.heap.size w w') : HandsC base hb n T w' := by
  obtain ⟨h0, L, vs, A, h1, h2, h3⟩ := h
  exact ⟨h0, L, vs, A, h1.touch (Touch.ofBelow (S := fun _ => False) b) (fun _ _ h => h.elim), h2, h3⟩

abbrev confObj (fr wt : Int) (vP vW vC : Value) : Obj := .cells #[.int .i64 fr, .int .i64 wt, vP, vW, vC] 48

set_option maxRecDepth 100000 in
set_option maxHeartbeats 4000000 in
theorem parsed_any (base hb : Nat) (n0 : Int) (T : Nat) (ao : Option Addr) (n cap : Nat) (zs : List Int) (w : World) (hH : HandsC base hb n0 T w) (h0 : 0 ≤ n0) (h1 : n0 ≤ 40000) (hT : T ≤ 40000) (hz : Held w ao n cap zs) (hn : n ≤ 140737488351232) (hne : ∀ ad, ao = some ad → 0 < n → ad.block ≠ hb) :
    Calls Try.prog 11 #[.pointer (some ⟨hb, 0, none⟩), .slice ao n cap] w fun e w' => e = .returned (.bool true) ∧ (∃ n1, (n0 ≤ n1 ∧ n1 ≤ n0 + 1000) ∧ HandsC base hb n1 (T + 3000) w') ∧ Below base w w' := by
  obtain ⟨hbh, L, vs, A, hHn, hLB, hA⟩ := hH
  have hbw := lt_of_block hHn.blk
  have HHN := hide hHn
  have HLB := hide hLB
  have HA := hide hA
  have HZ := hide hz
  have HNE := hide hne
  have HLEND := hide (lend_any hb n0 vs ao n cap zs w hHn.blk hz hn)
  have hSM := parse_small zs
  have HPS := hide (parse_same zs)
  clear hHn hLB hA hz hne
  go_enter Try.func11, Try.ntmps11
  go_wp2_with fail
  refine HLEND.out.mono ?_
  rintro e w3 ⟨x, a1, c1, a2, c2, rfl, hx, ha1, ha2, hX3, hC1, hC2, hB3, hT3⟩
  have hs3 := hT3.size
  have hx3 := lt_of_block hX3
  have ha13 : a1 < w3.heap.size ∧ a2 < w3.heap.size := ⟨lt_of_cell hC1, lt_of_cell hC2⟩
  have hPG := pgbulwark_any (some ⟨x, 0, none⟩) n (n + 2) zs w3 (held_lent hX3 HZ.out.len HZ.out.bytes hn) hn
  rw [HPS.out] at hPG
  have HRP := hide (fun W (h : Held W ao n cap zs) => rparse_any ao n cap zs W h hn)
  have H3 := hide (And.intro hX3 (And.intro hC1 (And.intro hC2 (And.intro hB3 hT3))))
  generalize parseOf zs = P at hPG HRP hSM
  obtain ⟨cf, pl, er⟩ := P
  have HSM := hide hSM
  have HPG := hide hPG
  clear hX3 hC1 hC2 hB3 hT3 HLEND hPG hSM HPS
  simp only [cfCells] at HPG HRP
  go_wp2_with fail
  refine HPG.out.mono ?_
  rintro e w4 ⟨adP, mP, cP, adW, mW, cW, adC, mC, cC, rfl, hV4, hb4⟩
  have hs4 := hb4.size
  have HB4 := hide hb4
  have HV4 := hide hV4
  clear hb4 hV4 HPG
  have HBACK : Hid (Calls Try.prog 17 #[.pointer (some ⟨hb, 0, none⟩)] (w4.alloc (confObj cf.frame cf.watch (.slice adP mP cP) (.slice adW mW cW) (.slice adC mC cC))) fun e w' => e = .returned (.bool true) ∧ w'.heap[hb]? = some (.cells (handCells (.slice none 0 0) (.slice none 0 0) n0 vs) 41 (0, 0)) ∧ Touch (fun k => k = hb ∨ k = x) (w4.alloc (confObj cf.frame cf.watch (.slice adP mP cP) (.slice adW mW cW) (.slice adC mC cC))) w') := by
    obtain ⟨hX3, hC1, hC2, hB3, hT3⟩ := H3.out
    have t : Below w3.heap.size w3 (w4.alloc (confObj cf.frame cf.watch (.slice adP mP cP) (.slice adW mW cW) (.slice adC mC cC))) := HB4.out.alloc hs4 _
    have hz3 := HZ.out.touch hT3 (fun ad e h => HNE.out ad e h)
    exact back_any hb x a1 c1 a2 c2 n0 vs ao n cap zs _ ((t.block hb (by omega)).trans hB3) (hz3.touch (Touch.ofBelow (S := fun _ => False) t) (fun _ _ _ => id)) ((t.block x hx3).trans hX3) ((t.cell (by exact ha13.1)).trans hC1) ((t.cell (by exact ha13.2)).trans hC2) (by omega) hn
  go_wp2_with fail
  refine HBACK.out.mono ?_
  rintro e w6 ⟨rfl, hB6, hT6⟩
  have hs6 : w4.heap.size + 1 ≤ w6.heap.size := by have := hT6.size; simp at this; exact this
  have hz6 : Held w6 ao n cap zs := by
    obtain ⟨hX3, hC1, hC2, hB3, hT3⟩ := H3.out
    have t : Below w3.heap.size w3 (w4.alloc (confObj cf.frame cf.watch (.slice adP mP cP) (.slice adW mW cW) (.slice adC mC cC))) := HB4.out.alloc hs4 _
    have hz3 := HZ.out.touch hT3 (fun ad e h => HNE.out ad e h)
    refine (hz3.touch (Touch.ofBelow (S := fun _ => False) t) (fun _ _ _ => id)).touch hT6 (fun ad e h hs => ?_)
    rcases hs with hs | hs
    · exact HNE.out ad e h hs
    · have := HZ.out.lt ad e h
      omega
  have hT06 : Touch (fun k => k = hb ∨ w.heap.size ≤ k) w w6 := by
    obtain ⟨hX3, hC1, hC2, hB3, hT3⟩ := H3.out
    have t : Below w3.heap.size w3 (w4.alloc (confObj cf.frame cf.watch (.slice adP mP cP) (.slice adW mW cW) (.slice adC mC cC))) := HB4.out.alloc hs4 _
    exact Touch.trans (Touch.trans (hT3.mono (fun k hk => .inl hk)) (Touch.ofBelow (S := fun _ => False) t) (fun _ h => h.elim)) hT6 (fun i hi => .inl (by rcases hi with hi | hi; exact .inl hi; exact .inr (by omega)))
  have hc6 : w6.heap[w4.heap.size]? = some (confObj cf.frame cf.watch (.slice adP mP cP) (.slice adW mW cW) (.slice adC mC cC)) := (hT6.block _ (by simp) (by rintro (h | h) <;> omega)).trans (heap_alloc_new w4 _)
  have hV6 : ConfS w3.heap.size (.slice adP mP cP) (.slice adW mW cW) (.slice adC mC cC) cf w6 := by
    have t4 : Touch (fun _ => False) w4 (w4.alloc (confObj cf.frame cf.watch (.slice adP mP cP) (.slice adW mW cW) (.slice adC mC cC))) := Touch.alloc _ _
    exact (HV4.out.low t4 (fun b h => h.elim)).low hT6 (fun b h => by rcases h with h | h <;> omega)
  have HRP6 := hide (HRP.out w6 hz6)
  have H6 := hide (And.intro hB6 (And.intro hT06 (And.intro hc6 hV6)))
  clear hB6 hT6 hz6 hT06 hc6 hV6 HBACK HRP HV4 HB4 H3
  go_wp2_with fail
  refine HRP6.out.mono ?_
  rintro e w7 ⟨vP2, vW2, vC2, rfl, hV7, hb7⟩
  obtain ⟨aP2, kP2, qP2, rfl⟩ : ∃ a m c, vP2 = .slice a m c := by obtain ⟨l, _, h2, _⟩ := hV7.parts; obtain ⟨a, c, h⟩ := own_slice h2; exact ⟨a, _, c, h⟩
  obtain ⟨aW2, qW2, rfl⟩ := own_slice hV7.wins
  obtain ⟨aC2, qC2, rfl⟩ := own_slice hV7.chans
  have hs7 := hb7.size
  have HSAME : Hid (Calls Try.prog 26 #[.agg (cfCells cf.frame cf.watch (.slice adP mP cP) (.slice adW mW cW) (.slice adC mC cC)), .agg (cfCells cf.frame cf.watch (.slice aP2 kP2 qP2) (.slice aW2 cf.wins.length qW2) (.slice aC2 cf.chans.length qC2))] (w7.alloc (confObj cf.frame cf.watch (.slice aP2 kP2 qP2) (.slice aW2 cf.wins.length qW2) (.slice aC2 cf.chans.length qC2))) fun e w' => e = .returned (.bool true) ∧ Below (w7.alloc (confObj cf.frame cf.watch (.slice aP2 kP2 qP2) (.slice aW2 cf.wins.length qW2) (.slice aC2 cf.chans.length qC2))).heap.size (w7.alloc (confObj cf.frame cf.watch (.slice aP2 kP2 qP2) (.slice aW2 cf.wins.length qW2) (.slice aC2 cf.chans.length qC2))) w') := by
    obtain ⟨_, _, _, hV6⟩ := H6.out
    have t : Below w6.heap.size w6 (w7.alloc (confObj cf.frame cf.watch (.slice aP2 kP2 qP2) (.slice aW2 cf.wins.length qW2) (.slice aC2 cf.chans.length qC2))) := hb7.alloc hs7 _
    exact sameConfig_any cf w3.heap.size w6.heap.size _ _ _ _ _ _ _ ((hV6.keep (fun b _ h2 => t.block b h2)).conf) (hV7.keep (fun b _ h2 => Below.heap_alloc w7 _ b h2))
  have h8 : Below w6.heap.size w6 (w7.alloc (confObj cf.frame cf.watch (.slice aP2 kP2 qP2) (.slice aW2 cf.wins.length qW2) (.slice aC2 cf.chans.length qC2))) := hb7.alloc hs7 _
  have e8 := heap_alloc_new w7 (confObj cf.frame cf.watch (.slice aP2 kP2 qP2) (.slice aW2 cf.wins.length qW2) (.slice aC2 cf.chans.length qC2))
  obtain ⟨w8, hw8⟩ : ∃ w8, w8 = w7.alloc (confObj cf.frame cf.watch (.slice aP2 kP2 qP2) (.slice aW2 cf.wins.length qW2) (.slice aC2 cf.chans.length qC2)) := ⟨_, rfl⟩
  have hs8 : w8.heap.size = w7.heap.size + 1 := by rw [hw8]; simp
  rw [← hw8] at h8 e8
  have hc8 := (h8.block _ (by omega)).trans H6.out.2.2.1
  have r0 : w8.cell? ⟨w4.heap.size, 0, none⟩ = some (.int .i64 cf.frame) := by rw [cell_of_row _ _ _ _ _ _ hc8]; rfl
  have r1 : w8.cell? ⟨w4.heap.size, 1, none⟩ = some (.int .i64 cf.watch) := by rw [cell_of_row _ _ _ _ _ _ hc8]; rfl
  have r2 : w8.cell? ⟨w4.heap.size, 2, none⟩ = some (.slice adP mP cP) := by rw [cell_of_row _ _ _ _ _ _ hc8]; rfl
  have r3 : w8.cell? ⟨w4.heap.size, 3, none⟩ = some (.slice adW mW cW) := by rw [cell_of_row _ _ _ _ _ _ hc8]; rfl
  have r4 : w8.cell? ⟨w4.heap.size, 4, none⟩ = some (.slice adC mC cC) := by rw [cell_of_row _ _ _ _ _ _ hc8]; rfl
  rw [hw8] at r0 r1 r2 r3 r4
  have H8 := hide (And.intro h8 hc8)
  have HW8 := hide hw8
  have hlt47 : w4.heap.size < w7.heap.size := by omega
  clear hV7 hb7 HRP6 h8 e8 hc8 hw8
  simp only [cfCells] at HSAME
  go_wp2_with fail
  refine HSAME.out.mono ?_
  rintro e w9 ⟨rfl, hb9⟩
  rw [← HW8.out] at hb9
  have hs9 := hb9.size
  have h9 : Below w6.heap.size w6 w9 := H8.out.1.trans (hb9.mono (by omega))
  have hc9 := (hb9.block _ (by omega)).trans H8.out.2
  have HKC : Hid (Calls Try.prog 27 #[.pointer (some ⟨hb, 0, none⟩), .agg (cfCells cf.frame cf.watch (.slice adP mP cP) (.slice adW mW cW) (.slice adC mC cC))] w9 fun e w' => ∃ n' L' vs' A', e = .returned (.tuple #[]) ∧ (n0 ≤ n' ∧ n' ≤ n0 + 1000) ∧ Hnd L' hb n' vs' A' A' w' ∧ (∀ f, (A' f).length ≤ T + 3000) ∧ (∀ b, b < w.heap.size → L' b = lab0 L w.heap.size b) ∧ Touch (fun b => lab0 L w.heap.size b ≤ 27 ∨ w.heap.size ≤ b) w9 w') := by
    obtain ⟨hB6, hT06, _, hV6⟩ := H6.out
    have hT09 : Touch (fun k => k = hb ∨ w.heap.size ≤ k) w w9 := Touch.trans hT06 (Touch.ofBelow (S := fun _ => False) h9) (fun _ h => h.elim)
    have hs06 := hT06.size
    refine keepConfig_any hb n0 vs (lab0 L w.heap.size) A cf.frame cf.watch adP mP cP adW mW cW adC mC cC cf w.heap.size w9 ⟨(h9.block hb (by omega)).trans hB6, ?_, ?_⟩ ((hV6.keep (fun b _ h2 => h9.block b h2)).base (by omega)) (by omega) (fun b e1 _ => by unfold lab0; rw [if_neg (by omega)]; omega) HSM.out h0 (by omega) T (by omega) HA.out
    · unfold lab0; rw [if_pos hbw]; exact HHN.out.lab
    · refine ((HHN.out.fam.relabel (L' := lab0 L w.heap.size) (fun k hk _ _ => if_pos hk)).touch hT09 (fun k hk hs => ?_))
      rcases hs with rfl | hs
      · left; unfold lab0; rw [if_pos hk]; exact HHN.out.lab
      · omega
  have r0' : w9.cell? ⟨w4.heap.size, 0, none⟩ = some (.int .i64 cf.frame) := by rw [cell_of_row _ _ _ _ _ _ hc9]; rfl
  have r1' : w9.cell? ⟨w4.heap.size, 1, none⟩ = some (.int .i64 cf.watch) := by rw [cell_of_row _ _ _ _ _ _ hc9]; rfl
  have r2' : w9.cell? ⟨w4.heap.size, 2, none⟩ = some (.slice adP mP cP) := by rw [cell_of_row _ _ _ _ _ _ hc9]; rfl
  have r3' : w9.cell? ⟨w4.heap.size, 3, none⟩ = some (.slice adW mW cW) := by rw [cell_of_row _ _ _ _ _ _ hc9]; rfl
  have r4' : w9.cell? ⟨w4.heap.size, 4, none⟩ = some (.slice adC mC cC) := by rw [cell_of_row _ _ _ _ _ _ hc9]; rfl
  have H9 : Hid (Touch (fun k => k = hb ∨ w.heap.size ≤ k) w w9) := Touch.trans H6.out.2.1 (Touch.ofBelow (S := fun _ => False) h9) (fun _ h => h.elim)
  clear hb9 h9 hc9 HSAME r0 r1 r2 r3 r4 H8 HW8 H6
  simp only [cfCells] at HKC
  go_wp2_with fail
  refine HKC.out.mono ?_
  rintro e wA ⟨n1, L1, vs1, A1, rfl, hn1, hHA, hlA, hLA, hTA⟩
  have HHO := hide (holds_any L1 hb n1 vs1 A1 wA hHA (fun f => by have := hlA f; omega))
  have HEND : Hid (∀ q, (∃ n1, (n0 ≤ n1 ∧ n1 ≤ n0 + 1000) ∧ HandsC base hb n1 (T + 3000) (wA.drewN q)) ∧ Below base w (wA.drewN q)) := by
    intro q
    refine ⟨⟨n1, hn1, hbh, L1, vs1, A1, hHA.drewN q, fun k hk => ?_, hlA⟩, ?_⟩
    · rw [hLA k (by omega)]; unfold lab0; rw [if_pos (by omega)]; exact HLB.out k hk
    · have t : Touch (fun k => base ≤ k) w wA := Touch.trans (H9.out.mono (fun k hk => by omega)) hTA (fun i hi => by
        by_cases hb' : base ≤ i
        · exact .inl hb'
        · exfalso
          rcases hi with hi | hi
          · have := HLB.out i (by omega)
            unfold lab0 at hi
            rw [if_pos (by omega)] at hi
            omega
          · omega)
      exact below_drewN (t.below (by omega) (fun k hk => hk)) q
  clear hHA hlA hLA hTA HKC r0' r1' r2' r3' r4' H9
  go_wp2_with fail
  refine HHO.out.mono ?_
  rintro e wB ⟨rfl, q, rfl⟩
  go_wp2_with fail
  refine (num_any er _).mono ?_
  rintro e wC ⟨rfl, rfl⟩
  go_wp2
  go_ret
  exact ⟨rfl, HEND.out q⟩
end Go.Proofs.Ytnjlbgolnbdkaaa
