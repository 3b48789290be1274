/- Texts of the proofs of Watched and Clocked, one behind the other. -/
import Derived.Test.YtnjlbgolnbdkaaaGreatM06
import Derived.Deep.RegionHeld3
/- Texts of the proof of Boots, one behind the other. -/
namespace Go.Proofs.YtnjlbgolnbdkaaaGreat
open Go.RowKit

def pfOf (bs : List Int) (s : Nat) : List (Nat → Int) := pfTo bs s (upto 8 8)
theorem pfOf_le (bs : List Int) (s : Nat) : (pfOf bs s).length ≤ 8 := by
  have := pfTo_le bs s (upto 8 8)
  rw [upto_length 8 8 (by omega)] at this
  exact this
def plogOf (bs : List Int) (a o : Nat) : List (Nat → Int) := if headB bs a && headB bs o && genOf bs o == IntKind.i64.wrap (genOf bs a - 1) then pfOf bs o ++ pfOf bs a else pfOf bs a

theorem step_append_nil {P : Program} (w : World) {ops : Array Oper} {o : Oper} {a : Act} {K : Act → World → Prop} {Q : Exit → Act → World → Prop} {E : Prop} (hgd : o.guard = none) (s x : Operand) (t : TypeId)
    (ho : o.op = .call { callee := .builtin .append, args := #[s, x], argTypes := #[t, t] }) (base : Nat) (e : TypeId) (i : TypeInfo) (size : Nat) (h1 : P.underlying t = some (.slice e)) (h2 : P.info? e = some i)
    (v : Value) (n : Nat) (xs : List Value) (hs : a.eval s = v) (hown : w.ownsRow base e size v n xs) (hx : a.eval x = .slice none 0 0)
    (hK : K (a.put o.dst v) w) : if Region.wanted o (yielded ops a.tmps) = true then Oper.wp P o a w K Q else E := by
  have hw : Region.wanted o (yielded ops a.tmps) = true := by simp [Region.wanted, hgd]
  rw [if_pos hw]
  have hrun := run_append_owned_none (P := P) (w := w) base t o.type e i size h1 h2 v n xs hown
  unfold Oper.wp
  simp [execOp, ho, resolve, invoke, builtin, hs, hx, hrun, Result.andThen]
  exact hK

set_option maxRecDepth 100000 in
set_option maxHeartbeats 4000000 in
theorem plog_any (x1 x2 : Nat) (bs : List Int) (s1 s2 : Nat) (w : World) (hnum : ∀ s, 0 ≤ genOf bs s ∧ genOf bs s < 4294967296) (h1 : SecAt x1 bs s1 w) (h2 : SecAt x2 bs s2 w) :
    Calls Tryz.prog 90 #[.agg #[.int .i64 s1, .slice (some ⟨x1, 0, none⟩) 8 8], .agg #[.int .i64 s2, .slice (some ⟨x2, 0, none⟩) 8 8]] w fun e w' => ∃ v, e = .returned v ∧ (RecsV w.heap.size v (plogOf bs s1 s2) w' ∧ (plogOf bs s1 s2 = [] → v = .slice none 0 0)) ∧ Below w.heap.size w w' := by
  obtain ⟨i0, hi, hz0, hz1, hz2⟩ := info_parts Tryz.info52
  obtain ⟨w2, hw2⟩ : ∃ w2, w2 = (w.alloc (.cells #[.int .i64 s1, .slice (some ⟨x1, 0, none⟩) 8 8] 183)).alloc (.cells #[.int .i64 s2, .slice (some ⟨x2, 0, none⟩) 8 8] 183) := ⟨_, rfl⟩
  have hs2 : w2.heap.size = w.heap.size + 2 := by rw [hw2]; simp
  have hb2 : Below w.heap.size w w2 := by rw [hw2]; exact ((Below.refl _ _).alloc (Nat.le_refl _) _).alloc (by simp) _
  have hA2 : w2.heap[w.heap.size]? = some (.cells #[.int .i64 s1, .slice (some ⟨x1, 0, none⟩) 8 8] 183 (0, 0)) := by rw [hw2, Below.heap_alloc _ _ _ (by simp)]; exact heap_alloc_new w _
  have hO2 : w2.heap[w.heap.size + 1]? = some (.cells #[.int .i64 s2, .slice (some ⟨x2, 0, none⟩) 8 8] 183 (0, 0)) := by
    rw [hw2]
    have := heap_alloc_new (w.alloc (.cells #[.int .i64 s1, .slice (some ⟨x1, 0, none⟩) 8 8] 183)) (.cells #[.int .i64 s2, .slice (some ⟨x2, 0, none⟩) 8 8] 183)
    rwa [show (w.alloc (.cells #[.int .i64 s1, .slice (some ⟨x1, 0, none⟩) 8 8] 183)).heap.size = w.heap.size + 1 from by simp] at this
  have k1 := h1.below hb2
  have k2 := h2.below hb2
  obtain ⟨P, hP⟩ : ∃ P : World → Prop, P = fun W => Below w2.heap.size w2 W := ⟨_, rfl⟩
  have HP2 : Hid (P w2) := by show P w2; rw [hP]; exact Below.refl _ _
  have HPb : Hid (∀ W, P W → Below w2.heap.size w2 W) := fun W h => by rw [hP] at h; exact h
  have HPk : Hid (∀ W W', P W → Below W.heap.size W W' → P W') := fun W W' h hb => by rw [hP] at h ⊢; exact h.trans (hb.mono h.size)
  have HPd : Hid (∀ W, P W → P W.drew) := fun W h => by rw [hP] at h ⊢; exact h.drew
  have HPC : Hid (∀ W, P W → W.cell? ⟨w.heap.size, 0, none⟩ = some (.int .i64 s1) ∧ W.cell? ⟨w.heap.size, 1, none⟩ = some (.slice (some ⟨x1, 0, none⟩) 8 8) ∧ W.cell? ⟨w.heap.size + 1, 0, none⟩ = some (.int .i64 s2) ∧ W.cell? ⟨w.heap.size + 1, 1, none⟩ = some (.slice (some ⟨x2, 0, none⟩) 8 8) ∧ P W) := fun W h => by
    have hb := HPb.out W h
    have a := (hb.block _ (by omega)).trans hA2
    have o := (hb.block _ (by omega)).trans hO2
    refine ⟨?_, ?_, ?_, ?_, h⟩
    · rw [cell_of_row _ _ _ _ _ _ a]; rfl
    · rw [cell_of_row _ _ _ _ _ _ a]; rfl
    · rw [cell_of_row _ _ _ _ _ _ o]; rfl
    · rw [cell_of_row _ _ _ _ _ _ o]; rfl
  have HSEC : Hid (∀ s x W, (s = s1 ∧ x = x1) ∨ (s = s2 ∧ x = x2) → P W → SecAt x bs s W) := fun s x W hs hp => by
    rcases hs with ⟨rfl, rfl⟩ | ⟨rfl, rfl⟩
    · exact k1.below (HPb.out W hp)
    · exact k2.below (HPb.out W hp)
  have HHD : Hid (∀ s x W, (s = s1 ∧ x = x1) ∨ (s = s2 ∧ x = x2) → P W → Calls Tryz.prog 125 #[.agg #[.int .i64 (s : Nat), .slice (some ⟨x, 0, none⟩) 8 8]] W fun e w' => ∃ b, e = .returned (.bool b) ∧ headB bs s = b ∧ P w') := fun s x W hs hp =>
    (headed_any x bs s W (HSEC.out s x W hs hp)).mono (fun e w' ⟨he, hb⟩ => ⟨_, he, rfl, HPk.out W w' hp hb⟩)
  have HGN : Hid (∀ s x W, (s = s1 ∧ x = x1) ∨ (s = s2 ∧ x = x2) → P W → Calls Tryz.prog 126 #[.agg #[.int .i64 (s : Nat), .slice (some ⟨x, 0, none⟩) 8 8]] W fun e w' => e = .returned (.int .i64 (genOf bs s)) ∧ P w') := fun s x W hs hp =>
    (generation_any x bs s W (HSEC.out s x W hs hp)).mono (fun e w' ⟨he, hb⟩ => ⟨he, HPk.out W w' hp hb⟩)
  have HFT : Hid (∀ s x W, (s = s1 ∧ x = x1) ∨ (s = s2 ∧ x = x2) → P W → Calls Tryz.prog 127 #[.agg #[.int .i64 (s : Nat), .slice (some ⟨x, 0, none⟩) 8 8]] W fun e w' => ∃ v, e = .returned v ∧ (RecsV W.heap.size v (pfOf bs s) w' ∧ (v = .slice none 0 0 ↔ pfOf bs s = [])) ∧ Below W.heap.size W w') := fun s x W hs hp =>
    faults_any x bs s W (HSEC.out s x W hs hp)
  have HW2 := hide hw2
  have HB2 := hide hb2
  have HS2 := hide hs2
  clear h1 h2 k1 k2 hw2 hb2 hs2 hA2 hO2 hP HSEC
  have hm := hnum s1
  have HLO : Hid (plogOf bs s1 s2 = if headB bs s1 && headB bs s2 && genOf bs s2 == IntKind.i64.wrap (genOf bs s1 - 1) then pfOf bs s2 ++ pfOf bs s1 else pfOf bs s1) := rfl
  have hg1 : IntKind.i64.wrap (genOf bs s1 - 1) = genOf bs s1 - 1 := by rw [IntKind.wrap_i64]; omega
  clear hnum
  obtain ⟨q0, q1, q2, q3, _⟩ := HPC.out _ HP2.out
  go_enter Tryz.func90, Tryz.ntmps90
  go_wp2_with fail
  rw [← HW2.out]
  go_cut [18] from 5 to 18 (fun c wx => c = .bool (headB bs s1 && headB bs s2 && genOf bs s2 == genOf bs s1 - 1) ∧ P wx)
  case first =>
    rcases d1 : headB bs s1 with _ | _
    · have D1 := hide d1
      clear d1
      go_region_with ((go_simp; (with_reducible show Calls Tryz.prog 125 _ _ _); refine (HHD.out _ _ _ (by first | exact .inl ⟨rfl, rfl⟩ | exact .inr ⟨rfl, rfl⟩) (by first | assumption | exact HPd.out _ HP2.out)).mono ?_; rintro e w' ⟨b, rfl, hbb, hp'⟩; obtain ⟨r0, r1, r2, r3, _⟩ := HPC.out _ hp'; (first | (obtain rfl := hbb.symm.trans D1.out)); clear hbb))
      all_goals (go_wp2_with fail; go_meet; exact ⟨by simp [D1.out], by assumption⟩)
    · rcases d2 : headB bs s2 with _ | _
      · have D1 := hide d1
        have D2 := hide d2
        clear d1 d2
        go_region_with ((go_simp; (with_reducible show Calls Tryz.prog 125 _ _ _); refine (HHD.out _ _ _ (by first | exact .inl ⟨rfl, rfl⟩ | exact .inr ⟨rfl, rfl⟩) (by first | assumption | exact HPd.out _ HP2.out)).mono ?_; rintro e w' ⟨b, rfl, hbb, hp'⟩; obtain ⟨r0, r1, r2, r3, _⟩ := HPC.out _ hp'; (first | (obtain rfl := hbb.symm.trans D1.out) | (obtain rfl := hbb.symm.trans D2.out)); clear hbb))
        all_goals (go_wp2_with fail; go_meet; exact ⟨by simp [D1.out, D2.out], by assumption⟩)
      · have D1 := hide d1
        have D2 := hide d2
        clear d1 d2
        go_region_with (first | (go_simp; (with_reducible show Calls Tryz.prog 125 _ _ _); refine (HHD.out _ _ _ (by first | exact .inl ⟨rfl, rfl⟩ | exact .inr ⟨rfl, rfl⟩) (by first | assumption | exact HPd.out _ HP2.out)).mono ?_; rintro e w' ⟨b, rfl, hbb, hp'⟩; obtain ⟨r0, r1, r2, r3, _⟩ := HPC.out _ hp'; (first | (obtain rfl := hbb.symm.trans D1.out) | (obtain rfl := hbb.symm.trans D2.out)); clear hbb) | (go_simp; (with_reducible show Calls Tryz.prog 126 _ _ _); refine (HGN.out _ _ _ (by first | exact .inl ⟨rfl, rfl⟩ | exact .inr ⟨rfl, rfl⟩) (by first | assumption | exact HPd.out _ HP2.out)).mono ?_; rintro e w' ⟨rfl, hp'⟩; obtain ⟨r0, r1, r2, r3, _⟩ := HPC.out _ hp'))
        all_goals (go_wp2_with fail; go_meet; exact ⟨by simp [D1.out, D2.out], by assumption⟩)
  case rest =>
    obtain ⟨rfl, hp⟩ := hcut
    have HP := hide hp
    obtain ⟨r0, r1, r2, r3, _⟩ := HPC.out _ hp
    rw [hg1] at HLO
    have hl1 := pfOf_le bs s1
    have hl2 := pfOf_le bs s2
    have hszc := (HPb.out _ hp).size
    have hsz2 := HS2.out
    have HBc : Hid (Below w.heap.size w wc) := HB2.out.trans ((HPb.out _ hp).mono (by omega))
    rcases dG : (headB bs s1 && headB bs s2 && genOf bs s2 == genOf bs s1 - 1) with _ | _
    · have HF := hide (HFT.out s1 x1 wc (.inl ⟨rfl, rfl⟩) hp)
      have DG := hide dG
      rw [dG, if_neg (by simp)] at HLO
      clear hp dG
      go_wp2_with fail
      refine HF.out.mono ?_
      rintro e w4 ⟨v, rfl, ⟨hV, hN⟩, hb4⟩
      obtain ⟨ad, c, rfl⟩ := own_slice hV
      have HV := hide hV
      have HN := hide hN
      have HB4 := hide hb4
      clear hV hN hb4
      go_wp2
      go_ret
      rw [HLO.out]
      exact ⟨_, rfl, ⟨own_low HV.out (by omega), HN.out.2⟩, HBc.out.trans (HB4.out.mono (by omega))⟩
    · rw [dG, if_pos rfl] at HLO
      clear dG
      have HPc : Hid (P wc.drew) := HPd.out _ hp
      have HF2 : Hid (∀ W, P W → Calls Tryz.prog 127 #[.agg #[.int .i64 (s2 : Nat), .slice (some ⟨x2, 0, none⟩) 8 8]] W fun e w' => ∃ ad c, e = .returned (.slice ad (pfOf bs s2).length c) ∧ RecsV w2.heap.size (.slice ad (pfOf bs s2).length c) (pfOf bs s2) w' ∧ P w' ∧ (∀ v0 l, RecsV w2.heap.size v0 l W → RecsV w2.heap.size v0 l w') ∧ (pfOf bs s2 = [] → (Value.slice ad (pfOf bs s2).length c) = .slice none 0 0)) := fun W hW =>
        (HFT.out s2 x2 W (.inr ⟨rfl, rfl⟩) hW).mono (fun e w' ⟨v, he, ⟨hV, hN⟩, hb⟩ => by
          obtain ⟨ad, c, rfl⟩ := own_slice hV
          exact ⟨ad, c, he, own_low hV (HPb.out _ hW).size, HPk.out _ _ hW hb, fun v0 l h => h.below hb, hN.2⟩)
      by_cases hla : pfOf bs s1 = []
      · have HF1 : Hid (∀ W, P W → Calls Tryz.prog 127 #[.agg #[.int .i64 (s1 : Nat), .slice (some ⟨x1, 0, none⟩) 8 8]] W fun e w' => e = .returned (.slice none 0 0) ∧ P w' ∧ (∀ v0 l, RecsV w2.heap.size v0 l W → RecsV w2.heap.size v0 l w')) := fun W hW =>
          (HFT.out s1 x1 W (.inl ⟨rfl, rfl⟩) hW).mono (fun e w' ⟨v, he, ⟨hV, hN⟩, hb⟩ => ⟨by rw [he, hN.2 hla], HPk.out _ _ hW hb, fun v0 l h => h.below hb⟩)
        rw [hla, List.append_nil] at HLO
        have HEND : Hid (∀ ad c w', RecsV w2.heap.size (.slice ad (pfOf bs s2).length c) (pfOf bs s2) w' → P w' → (pfOf bs s2 = [] → (Value.slice ad (pfOf bs s2).length c) = .slice none 0 0) → (RecsV w.heap.size (.slice ad (pfOf bs s2).length c) (plogOf bs s1 s2) w' ∧ (plogOf bs s1 s2 = [] → (Value.slice ad (pfOf bs s2).length c) = .slice none 0 0)) ∧ Below w.heap.size w w') := fun ad c w' hV hP hN => by
          rw [HLO.out]
          exact ⟨⟨own_low hV (by omega), hN⟩, HB2.out.trans ((HPb.out _ hP).mono (by omega))⟩
        clear hp hla HFT HHD HGN
        generalize pfOf bs s2 = lo at *
        go_wp2_with fail
        go_region_law (first | (go_simp; (with_reducible show Calls Tryz.prog 127 #[.agg #[.int .i64 (s1 : Nat), .slice (some ⟨x1, 0, none⟩) 8 8]] _ _); refine (HF1.out _ (by first | assumption | exact HPc.out)).mono ?_; rintro e w5 ⟨rfl, hp5, hk5⟩; obtain ⟨r0, r1, r2, r3, _⟩ := HPC.out _ hp5; (try have hV6 := hk5 _ _ hV2)) | (go_simp; (with_reducible show Calls Tryz.prog 127 #[.agg #[.int .i64 (s2 : Nat), .slice (some ⟨x2, 0, none⟩) 8 8]] _ _); refine (HF2.out _ (by first | assumption | exact HPc.out)).mono ?_; rintro e w4 ⟨ad2, c2, rfl, hV2, hp4, hk4, hN2⟩; obtain ⟨r0, r1, r2, r3, _⟩ := HPC.out _ hp4) | (refine step_append_nil _ rfl (.tmp 20) (.tmp 22) 49 rfl w2.heap.size 52 i0 5 Tryz.underlying49 hi (.slice ad2 lo.length c2) lo.length (recsCells lo) (by rfl) (by first | exact hV6 | exact hV2) (by rfl) ?_))
        all_goals (go_wp2; go_ret; exact ⟨_, rfl, HEND.out _ _ _ (by assumption) (by assumption) hN2⟩)
      · have hpos : 0 < (pfOf bs s1).length := List.length_pos_iff.2 hla
        have HF1 : Hid (∀ W, P W → Calls Tryz.prog 127 #[.agg #[.int .i64 (s1 : Nat), .slice (some ⟨x1, 0, none⟩) 8 8]] W fun e w' => ∃ g c, e = .returned (.slice (some ⟨g, 0, none⟩) (pfOf bs s1).length c) ∧ RecsV w2.heap.size (.slice (some ⟨g, 0, none⟩) (pfOf bs s1).length c) (pfOf bs s1) w' ∧ P w' ∧ (∀ v0 l, RecsV w2.heap.size v0 l W → RecsV w2.heap.size v0 l w')) := fun W hW =>
          (HFT.out s1 x1 W (.inl ⟨rfl, rfl⟩) hW).mono (fun e w' ⟨v, he, ⟨hV, hN⟩, hb⟩ => by
            obtain ⟨ad, c, rfl⟩ := own_slice hV
            obtain ⟨g4, rfl⟩ : ∃ g4, ad = some ⟨g4, 0, none⟩ := by
              rcases hV.2 with ⟨_, h2⟩ | ⟨g4, cap4, cur, hv, _⟩
              · omega
              · simp at hv; exact ⟨g4, hv.1⟩
            exact ⟨g4, c, he, own_low hV (HPb.out _ hW).size, HPk.out _ _ hW hb, fun v0 l h => h.below hb⟩)
        have HEND : Hid (∀ ad c w' g5 c5 w5, RecsV w2.heap.size (.slice ad (pfOf bs s2).length c) (pfOf bs s2) w' → P w' → w5.ownsRow w2.heap.size 52 5 (.slice (some ⟨g5, 0, none⟩) ((pfOf bs s2).length + (pfOf bs s1).length) c5) ((pfOf bs s2).length + (pfOf bs s1).length) (recsCells (pfOf bs s2) ++ recsCells (pfOf bs s1)) → w'.grownBy w5 (Value.slice ad (pfOf bs s2).length c).ownBlock → (RecsV w.heap.size (.slice (some ⟨g5, 0, none⟩) ((pfOf bs s2).length + (pfOf bs s1).length) c5) (plogOf bs s1 s2) w5 ∧ (plogOf bs s1 s2 = [] → (Value.slice (some ⟨g5, 0, none⟩) ((pfOf bs s2).length + (pfOf bs s1).length) c5) = .slice none 0 0)) ∧ Below w.heap.size w w5) := fun ad c w' g5 c5 w5 hV hP ho hg => by
          rw [HLO.out]
          refine ⟨⟨?_, fun h => absurd (List.append_eq_nil_iff.1 h).2 hla⟩, HB2.out.trans (((HPb.out _ hP).grown hg (HPb.out _ hP).size (fun b e => (World.ownsRow.lt hV b e).1)).mono (by omega))⟩
          unfold RecsV
          rw [List.length_append, recsCells_append]
          exact own_low ho (by omega)
        have HNEW : Hid (∀ (g c : Nat) (w' : World), RecsV w2.heap.size (.slice (some ⟨g, 0, none⟩) (pfOf bs s1).length c) (pfOf bs s1) w' → ∀ j u, (recsCells (pfOf bs s1))[j]? = some u → w'.cell? ((⟨g, 0, none⟩ : Addr).add j) = some u) := fun g c w' hV j u hu => World.ownsRow.cells hV rfl j u hu
        have HSZ : Hid (∀ W, P W → w2.heap.size ≤ W.heap.size) := fun W h => (HPb.out W h).size
        clear hp hla HFT HHD HGN
        generalize pfOf bs s2 = lo at *
        generalize pfOf bs s1 = la at *
        go_wp2_with fail
        go_region_law (first | (go_simp; (with_reducible show Calls Tryz.prog 127 #[.agg #[.int .i64 (s1 : Nat), .slice (some ⟨x1, 0, none⟩) 8 8]] _ _); refine (HF1.out _ (by first | assumption | exact HPc.out)).mono ?_; rintro e w5 ⟨g1, c1, rfl, hV1, hp5, hk5⟩; obtain ⟨r0, r1, r2, r3, _⟩ := HPC.out _ hp5; (try have hV6 := hk5 _ _ hV2)) | (go_simp; (with_reducible show Calls Tryz.prog 127 #[.agg #[.int .i64 (s2 : Nat), .slice (some ⟨x2, 0, none⟩) 8 8]] _ _); refine (HF2.out _ (by first | assumption | exact HPc.out)).mono ?_; rintro e w4 ⟨ad2, c2, rfl, hV2, hp4, hk4, hN2⟩; obtain ⟨r0, r1, r2, r3, _⟩ := HPC.out _ hp4; (try have hV7 := hk4 _ _ hV1)) | (refine step_append_lies _ rfl (.tmp 20) (.tmp 22) 49 rfl w2.heap.size 52 i0 _ 5 40 Tryz.underlying49 hi hz0 hz1 hz2 rfl (by decide) (.slice ad2 lo.length c2) lo.length (recsCells lo) (by rfl) (by first | exact hV6 | exact hV2) ⟨g1, 0, none⟩ la.length c1 (recsCells la) (by rfl) (recsCells_length la) (HNEW.out _ _ _ (by first | exact hV7 | exact hV1)) (recsCells_one la) hpos (by unfold maxLen; omega) (by omega) (HSZ.out _ (by assumption)) _ rfl ?_; intro g5 c5 w8 ho8 hg8 _ _))
        all_goals (go_wp2; go_ret; exact ⟨_, rfl, HEND.out _ _ _ _ _ _ (by first | exact hV6 | exact hV2) (by first | exact hp5 | exact hp4) ho8 (by first | exact hg8)⟩)
end Go.Proofs.YtnjlbgolnbdkaaaGreat
