/- Counted: the walk. -/
import Derived.Test.YtnjlbgolnbdkaaaGreatCp
import Derived.Test.YtnjlbgolnbdkaaaGreatM29
namespace Go.Proofs.YtnjlbgolnbdkaaaGreat
open Go.RowKit

set_option maxRecDepth 100000 in
set_option maxHeartbeats 8000000 in
theorem counted_walk (a0 : Int) (ac : Bool) (vb : Value) (B : List Bw) (rs : Int) (h0 : -9223372036854775808 ≤ a0 ∧ a0 ≤ 9223372036854775807) (hrs : 0 ≤ rs ∧ rs ≤ 255) (w : World) (hB : Blws w vb B) :
    Calls Tryz.prog 10 #[.int .i64 a0, .bool ac, vb, .int .u8 rs] w fun e w' => e = .returned (.bool true) ∧ Below w.heap.size w w' := by
  have HAW := hide (kawake_any w)
  have HP0 : Hid (∀ W, Calls Tryz.prog 17 #[.int .i64 a0, .int .i64 10] W fun e w' => e = .returned (.int .i64 (pickOf a0 10)) ∧ w' = W) := fun W => kpick_any a0 10 W h0.1 h0.2 (by omega) (by omega)
  have hp0 := pickOf_nonneg a0 10 (by omega)
  have hq0 := pickOf_lt a0 10 (by omega)
  generalize pickOf a0 10 = n at *
  have HBL := hide hB
  obtain ⟨ab, cb, rfl, hb3⟩ := hB.lies
  have hbl := hB.len
  obtain ⟨nb, hnb⟩ : ∃ nb, nb = B.length := ⟨_, rfl⟩
  rw [← hnb] at hbl ⊢
  have HNB := hide hnb
  have HB3 := hide hb3
  have HRS := hide hrs
  clear h0 hB hnb hb3 hrs
  go_enter Tryz.func10, Tryz.ntmps10
  go_wp2_with fail
  refine HAW.out.mono ?_
  rintro e w1 ⟨rfl, hb1⟩
  have hs1 := hb1.size
  have HB1 := hide hb1
  have HNF := hide (newFlash_any none 0 0 [] w1 ⟨rfl, Nat.le_refl _, by omega, fun z hz => (by cases hz), fun _ => rfl, fun ad e => (by cases e), fun ad e => (by cases e)⟩ (by omega))
  clear hb1 HAW
  go_wp2_with fail
  refine HNF.out.mono ?_
  rintro e w2 ⟨g, rfl, hg, hF, hb2⟩
  have hg' : w.heap.size ≤ g := by omega
  have HB2 : Hid (Below w.heap.size w w2) := HB1.out.trans (hb2.mono hs1)
  have hs2 := HB2.out.size
  have HF2 : Hid (FlAt w2 g flN) := hF
  clear hF hb2 HNF hg HB1
  go_wp2_with fail
  refine (HP0.out w2).mono ?_
  rintro e w9 ⟨rfl, rfl⟩
  go_upto_if 30 with fail
  go_cut [12, 13] from 30 to 30 (fun v1 v2 wx => ∃ ta md : Int, (ta = 3 ∨ ta = 4) ∧ md = 5 - ta ∧ v1 = .int .i64 ta ∧ v2 = .int .i64 md ∧ wx = w9)
  case first =>
    cases ac
    · go_wp2_with fail
      go_meet
      exact ⟨3, 2, .inl rfl, rfl, rfl, rfl, rfl⟩
    · go_wp2_with fail
      go_meet
      exact ⟨4, 1, .inr rfl, rfl, rfl, rfl, rfl⟩
  case rest =>
  obtain ⟨ta, md, hto, hmd, rfl, rfl, hwc⟩ := hcut
  have HMD := hide hmd
  clear hmd
  subst hwc
  have HTO := hide hto
  obtain ⟨wa, hwa⟩ : ∃ wa, wa = wc.alloc (.cells #[.int .i64 ta, .int .i64 ta, .int .i64 ta, .int .i64 ta, .int .i64 ta] 3) := ⟨_, rfl⟩
  obtain ⟨wb, hwb⟩ : ∃ wb, wb = wa.alloc (.cells #[.int .i64 0, .int .i64 10] 3) := ⟨_, rfl⟩
  have hba : Below wc.heap.size wc wa := by rw [hwa]; exact (Below.refl _ _).alloc (Nat.le_refl _) _
  have hbb : Below wa.heap.size wa wb := by rw [hwb]; exact (Below.refl _ _).alloc (Nat.le_refl _) _
  have hsa : wa.heap.size = wc.heap.size + 1 := by rw [hwa]; simp
  have hA : wb.heap[wc.heap.size]? = some (.cells #[.int .i64 ta, .int .i64 ta, .int .i64 ta, .int .i64 ta, .int .i64 ta] 3 (0, 0)) := (hbb.block _ (by omega)).trans (by rw [hwa]; exact heap_alloc_new wc _)
  have hBB : wb.heap[wa.heap.size]? = some (.cells #[.int .i64 0, .int .i64 10] 3 (0, 0)) := by rw [hwb]; exact heap_alloc_new wa _
  have hia : Ints wb (.slice (some ⟨wc.heap.size, 0, none⟩) 5 5) [ta, ta, ta, ta, ta] := ints_lit wc wb [ta, ta, ta, ta, ta] 5 rfl (by omega) (by omega) (by intro x hx; simp only [List.mem_cons, List.not_mem_nil, or_false] at hx; omega) hA
  have hib : Ints wb (.slice (some ⟨wa.heap.size, 0, none⟩) 2 2) [0, 10] := ints_lit wa wb [0, 10] 2 rfl (by omega) (by omega) (by intro x hx; simp only [List.mem_cons, List.not_mem_nil, or_false] at hx; omega) hBB
  have HPA := hide (kpart_any n _ _ _ _ _ _ wb (by omega) hia hib (Ints.nil wb none 0))
  have hbc : Below wc.heap.size wc wb := hba.trans (hbb.mono (by omega))
  have HFb : Hid (FlAt wb g flN) := HF2.out.below hbc
  have HBb : Hid (Below w.heap.size w wb) := HB2.out.trans (hbc.mono hs2)
  have hsb := HBb.out.size
  rw [hsa] at HPA
  have HWA := hide hwa
  have HWB := hide hwb
  clear hwa hwb hba hbb hA hBB hia hib hbc HF2 HB2 hsa
  go_wp2_with fail
  rw [← HWA.out, ← HWB.out]
  refine HPA.out.mono ?_
  rintro e w3 ⟨vp, rfl, hP3, hb3⟩
  have hlp := partK_len n [ta, ta, ta, ta, ta] [0, 10] []
  obtain ⟨gp, cp, hvp, -, -, -⟩ := hP3.row (by omega)
  subst hvp
  have HF3 : Hid (FlAt w3 g flN) := HFb.out.below hb3
  have HB3' : Hid (Below w.heap.size w w3) := HBb.out.trans (hb3.mono hsb)
  have hs3 := HB3'.out.size
  have HPP := hide (hP3.low hsb)
  obtain ⟨zp, hzp⟩ : ∃ zp, zp = partK n [ta, ta, ta, ta, ta] [0, 10] [] := ⟨_, rfl⟩
  have HZP := hide hzp
  rw [← hzp] at hlp HPP
  obtain ⟨np, hnp⟩ : ∃ np, np = zp.length := ⟨_, rfl⟩
  have HNP := hide hnp.symm
  rw [← hnp] at hlp HPP
  rw [← hzp, ← hnp]
  have HPB := hide (kpart_any 9 (.slice none 0 0) (.slice none 0 0) (.slice none 0 0) [] [] [] w3 (by omega) (Ints.nil _ _ _) (Ints.nil _ _ _) (Ints.nil _ _ _))
  clear hP3 hb3 HPA hzp hnp HP0 HWA HWB HFb HBb
  go_wp2_with fail
  refine HPB.out.mono ?_
  rintro e w4 ⟨vq, rfl, hQ4, hb4⟩
  have hlq := partK_len 9 [] [] []
  obtain ⟨gq, cq, hvq, -, -, -⟩ := hQ4.row (by omega)
  subst hvq
  have HF4 : Hid (FlAt w4 g flN) := HF3.out.below hb4
  have HP4 := hide (HPP.out.below hb4)
  have HB4 : Hid (Below w.heap.size w w4) := HB3'.out.trans (hb4.mono hs3)
  have hs4 := HB4.out.size
  obtain ⟨zq, hzq⟩ : ∃ zq, zq = partK 9 [] [] [] := ⟨_, rfl⟩
  have HZQ := hide hzq
  rw [← hzq] at hlq hQ4
  obtain ⟨nq, hnq⟩ : ∃ nq, nq = zq.length := ⟨_, rfl⟩
  have HNQ := hide hnq.symm
  rw [← hnq] at hlq hQ4
  rw [← hzq, ← hnq]
  have hrw := rows_two HP4.out (hQ4.low hs3) HNP.out HNQ.out (by omega) (by omega)
  obtain ⟨w5, hw5⟩ : ∃ w5, w5 = w4.alloc (.cells #[.slice (some ⟨gp, 0, none⟩) np cp, .slice (some ⟨gq, 0, none⟩) nq cq] 22) := ⟨_, rfl⟩
  rw [← hw5] at hrw
  have hb5 : Below w4.heap.size w4 w5 := by rw [hw5]; exact (Below.refl _ _).alloc (Nat.le_refl _) _
  have HF5 : Hid (FlAt w5 g flN) := HF4.out.below hb5
  have HB5 : Hid (Below w.heap.size w w5) := HB4.out.trans (hb5.mono hs4)
  have hs5 := HB5.out.size
  have HC := hide (kconfig_any 0 _ [zp, zq] 1 w5 (by omega) (by omega) hrw)
  have HPZ : Hid (parseOf (configK 0 [zp, zq] 1) = (cfD (ptC n ta) ptO, 0, 0)) := by rw [HZP.out, HZQ.out]; exact parse_DK n 9 _ _ _ _ _ _ (by omega) (by omega)
  have HZL := hide (config1_len 0 zp zq)
  rw [HNP.out, HNQ.out] at HZL
  have HW5 := hide hw5
  generalize configK 0 [zp, zq] 1 = zs at *
  have HZ1 : Hid (0 < zs.length ∧ zs.length ≤ 100000) := by rw [HZL.out]; exact (by omega : 0 < 16 + np + nq ∧ 16 + np + nq ≤ 100000)
  clear hQ4 hb4 hrw hw5 hb5 HPB hzq hnq HPP HP4 HF3 HF4 HB3' HB4 HZL
  go_wp2_with fail
  rw [← HW5.out]
  refine HC.out.mono ?_
  rintro e w6 ⟨vz, rfl, hC6, hb6⟩
  have HB6 : Hid (Below w.heap.size w w6) := HB5.out.trans (hb6.mono hs5)
  have hs6 := HB6.out.size
  have hF6 : FlAt w6 g flN := HF5.out.below hb6
  have HZ6 := hide (hC6.low hs5)
  have HBO := hide (kboot2 w.heap.size w.heap.size vz zs g flN w6 HZ6.out HZ1.out.1 HZ1.out.2 hF6 flN_ok hg' hs6 (by rw [HPZ.out]))
  rw [HPZ.out] at HBO
  clear hC6 hb6 HC hF6 HF5 HB5 HZP HZQ HNP HNQ HW5
  go_wp2_with fail
  refine HBO.out.mono ?_
  rintro e w7 ⟨kb0, L0, rfl, hk7, hb7⟩
  have HST : Hid (∃ F, Kp w.heap.size w7 kb0 L0 g (bootSt (cfD (ptC n ta) ptO) F.bs, F) ∧ F.dead = false ∧ Cw n 0 0 F.bs) := ⟨flN, hk7, rfl, cw_start n hp0⟩
  have HZ7 := hide (HZ6.out.below hb7)
  have HB7 : Hid (Below w.heap.size w w7) := HB6.out.trans (hb7.mono hs6)
  have hs7 := HB7.out.size
  clear hk7 hb7 HBO HZ6 HB6
  go_wp2_with fail
  go_loopw [16, 17, 18, 19, 20, 21, 22, 23, 24, 25] (fun r k _ t _ _ _ _ _ _ wr => ∃ (j rr kb : Nat) (L : MLay) (F : Fl), j ≤ nb ∧ j ≤ 40 ∧ t = .int .i64 j ∧ r = .int .i64 rr ∧ k = .pointer (some ⟨kb, 0, none⟩) ∧ Kp w.heap.size wr kb L g (bootSt (cfD (ptC n ta) ptO) F.bs, F) ∧ F.dead = false ∧ Cw n (20 * j) rr F.bs ∧ Bys w.heap.size wr vz zs ∧ Below w.heap.size w wr) (fun _ _ _ t _ _ _ _ _ _ _ => 40 - (intOf t).toNat)
  case atStart =>
    obtain ⟨F, a1, a2, a3⟩ := HST.out
    exact ⟨0, 0, kb0, L0, F, by omega, by omega, rfl, rfl, rfl, a1, a2, a3, HZ7.out, HB7.out⟩
  case round =>
    obtain ⟨j, rr, kb, L, F, hj1, hj2, rfl, rfl, rfl, hk, hd, hcw, hz, hB⟩ := hrel
    have hsr := hB.size
    have HB := hide hB
    have HZ := hide hz
    have HK := hide hk
    have HCW := hide (And.intro hd hcw)
    by_cases hgo : j < nb ∧ j < 40
    · obtain ⟨hg1, hg2⟩ := hgo
      have hjb : j < B.length := by have := HNB.out; omega
      obtain ⟨b, off, rfl, hbl2, hcells⟩ := HB3.out (by omega)
      have hr := HBL.out.get j hjb
      have HC0 : Hid (∀ W, Below w.heap.size w W → W.cell? ⟨b, off + j * 3, none⟩ = some (.int .i64 (B.getD j default).1)) := fun W hW => (hW.cell (p := ⟨b, off + j * 3, none⟩) hbl2).trans (hcells j hjb).1
      have HC1 : Hid (∀ W, Below w.heap.size w W → W.cell? ⟨b, off + j * 3 + 1, none⟩ = some (.int .i64 (B.getD j default).2.1)) := fun W hW => (hW.cell (p := ⟨b, off + j * 3 + 1, none⟩) hbl2).trans (hcells j hjb).2.1
      have c2 : wr.cell? ⟨b, off + j * 3 + 2, none⟩ = some (.int .i64 (B.getD j default).2.2) := (hB.cell (p := ⟨b, off + j * 3 + 2, none⟩) hbl2).trans (hcells j hjb).2.2
      have HQ0 : Hid (∀ W, Calls Tryz.prog 17 #[.int .i64 (B.getD j default).1, .int .i64 9] W fun e w' => e = .returned (.int .i64 (pickOf (B.getD j default).1 9)) ∧ w' = W) := fun W => kpick_any _ 9 W hr.1.1 hr.1.2 (by omega) (by omega)
      have HQ1 : Hid (∀ W, Calls Tryz.prog 17 #[.int .i64 (B.getD j default).2.1, .int .i64 5] W fun e w' => e = .returned (.int .i64 (pickOf (B.getD j default).2.1 5)) ∧ w' = W) := fun W => kpick_any _ 5 W hr.2.1.1 hr.2.1.2 (by omega) (by omega)
      have HQ2 : Hid (∀ W, Calls Tryz.prog 17 #[.int .i64 (B.getD j default).2.2, .int .i64 300] W fun e w' => e = .returned (.int .i64 (pickOf (B.getD j default).2.2 300)) ∧ w' = W) := fun W => kpick_any _ 300 W hr.2.2.1 hr.2.2.2 (by omega) (by omega)
      have e0 := pick_nat (B.getD j default).1 9 (by omega)
      have e1 := pick_nat (B.getD j default).2.1 5 (by omega)
      have e2 := pick_nat (B.getD j default).2.2 300 (by omega)
      rw [show ((9 : Nat) : Int) = 9 from rfl] at e0
      rw [show ((5 : Nat) : Int) = 5 from rfl] at e1
      rw [show ((300 : Nat) : Int) = 300 from rfl] at e2
      generalize (pickOf (B.getD j default).1 9).toNat = m0 at e0
      generalize (pickOf (B.getD j default).2.1 5).toNat = cd at e1
      generalize (pickOf (B.getD j default).2.2 300).toNat = af at e2
      rw [e0.1] at HQ0
      rw [e1.1] at HQ1
      rw [e2.1] at HQ2
      have hm0 := e0.2
      have hcd := e1.2
      have haf := e2.2
      generalize (B.getD j default).1 = x0 at *
      generalize (B.getD j default).2.1 = x1 at *
      generalize (B.getD j default).2.2 = x2 at *
      have hdj : decide ((j : Int) < (nb : Nat)) = true := by simp; omega
      have hdj2 : decide ((j : Int) < 40) = true := by simp; omega
      clear e0 e1 e2 hcells hk hd hcw hB hz hr
      go_upto_if 75 with fail
      go_cut [] from 60 to 169 (fun wx => ∃ F1 : Fl, Kp w.heap.size wx kb L g (bootSt (cfD (ptC n ta) ptO) F1.bs, F1) ∧ F1.dead = false ∧ Cw n (20 * j) rr F1.bs ∧ Bys w.heap.size wx vz zs ∧ Below w.heap.size w wx)
      case first =>
        by_cases h2 : 0 ≤ x2
        · have hd2 : decide ((0 : Int) ≤ x2) = true := by simp [h2]
          have HCU := hide (HK.out.cut af rs (by omega) HRS.out)
          go_wp2_with fail
          refine (HQ2.out wr).mono ?_
          rintro e w8 ⟨rfl, rfl⟩
          go_wp2_with fail
          refine HCU.out.mono ?_
          rintro e wx ⟨rfl, hkx, hbx, hkp⟩
          have HEX : Hid (∃ F1 : Fl, Kp w.heap.size wx kb L g (bootSt (cfD (ptC n ta) ptO) F1.bs, F1) ∧ F1.dead = false ∧ Cw n (20 * j) rr F1.bs ∧ Bys w.heap.size wx vz zs ∧ Below w.heap.size w wx) := ⟨F.cut af rs, hkx, HCW.out.1, HCW.out.2, HZ.out.keeps hkp, HB.out.trans hbx⟩
          clear hkx hbx hkp HCU
          go_wp2_with fail
          go_meet
          exact HEX.out
        · have hd2 : decide ((0 : Int) ≤ x2) = false := by simp; omega
          go_wp2_with fail
          go_meet
          exact ⟨F, HK.out, HCW.out.1, HCW.out.2, HZ.out, HB.out⟩
      case rest =>
      obtain ⟨F1, hk1, hd1, hcw1, hz1, hB1⟩ := hcut
      obtain ⟨s1, ht1, hu1, hc1⟩ := count_tick hk1 hd1 hcw1
      have HT := hide (hk1.tick 3 (by show (0 : Int) + 1000 ≤ 1000000000000; omega))
      rw [ht1] at HT
      have HB1 := hide hB1
      have HZ1b := hide hz1
      have HU1 : Hid (s1.1.parts.length = 2 ∧ Fin2 n ta (20 * j + 2 * 0) rr 0 s1) := ⟨hu1.len, .inl ⟨rfl, hu1, hc1⟩⟩
      clear hk1 hd1 hcw1 hz1 hB1 ht1 hu1 hc1 HK HCW HZ HB HQ2 c2
      go_wp2_with fail
      refine HT.out.mono ?_
      rintro e wd ⟨rfl, hkd, hbd, hkp⟩
      have HKD : Hid (Kp w.heap.size wd kb L g s1 ∧ Bys w.heap.size wd vz zs ∧ Below w.heap.size w wd) := ⟨hkd, HZ1b.out.keeps hkp, HB1.out.trans hbd⟩
      clear hkd hbd hkp HT HZ1b HB1
      go_wp2_with fail
      go_loopw [16, 20, 21, 22, 23, 24, 25] (fun r e t _ _ _ _ wx => ∃ (x q : Nat) (ee : Int) (s : SF), x ≤ 1 + m0 ∧ t = .int .i64 x ∧ r = .int .i64 q ∧ e = .int .i64 ee ∧ Kp w.heap.size wx kb L g s ∧ s.1.parts.length = 2 ∧ Fin2 n ta (20 * j + 2 * x) q ee s ∧ Bys w.heap.size wx vz zs ∧ Below w.heap.size w wx) (fun _ _ t _ _ _ _ _ => 10 - (intOf t).toNat)
      case atStart =>
        exact ⟨0, rr, 0, s1, by omega, rfl, rfl, rfl, HKD.out.1, HU1.out.1, HU1.out.2, HKD.out.2.1, HKD.out.2.2⟩
      case round =>
        obtain ⟨x, q, ee, s, hx1, rfl, rfl, rfl, hks, hl2, hfin, hzs, hBs⟩ := hrel
        have c0 := HC0.out _ hBs
        have HKS := hide hks
        have HFN := hide hfin
        have HZS := hide hzs
        have HBS := hide hBs
        have hss := hBs.size
        clear hks hfin hzs hBs
        go_wp2_with fail
        refine (HQ0.out _).mono ?_
        rintro e w8 ⟨rfl, rfl⟩
        by_cases hlt : x < 1 + m0 ∧ ee = 0
        · obtain ⟨hx2, rfl⟩ := hlt
          have hup : Up (ptC n ta) ptO s ∧ Cw n (20 * j + 2 * x) q s.2.bs := by
            rcases HFN.out with ⟨_, a, b⟩ | ⟨e, _⟩
            · exact ⟨a, b⟩
            · exact absurd e (by decide)
          obtain ⟨e1, s', hinj, hl', he1, hf2⟩ := count_one hup.1 hup.2 HTO.out (by omega) (by omega) cd (by omega)
          have hd : decide ((x : Int) < 1 + (m0 : Nat)) = true := by simp; omega
          have HL := hide (HKS.out.look 0 (by omega))
          have HF2 := hide hf2
          have HINJ := hide hinj
          clear hup hf2 hinj HFN c0
          go_wp2_with fail
          refine HL.out.mono ?_
          rintro e wl ⟨v1, rfl, hv1, hk1, hb1⟩
          obtain ⟨y1, d1, z1, f1, rfl, -, -⟩ := hv1
          obtain ⟨mu, hmu⟩ : ∃ mu, mu = (s.1.part 0).mode := ⟨_, rfl⟩
          rw [← hmu]
          have HMU := hide hmu
          obtain ⟨n1, hn1⟩ : ∃ n, n = (s.1.part 0).words.length := ⟨_, rfl⟩
          obtain ⟨m1, hm1⟩ : ∃ n, n = (s.1.part 0).procs.length := ⟨_, rfl⟩
          rw [← hn1, ← hm1]
          clear hn1 hm1 hmu
          generalize restartsOf s.2.bs 0 = r1
          have hBl : Below w.heap.size w wl := HBS.out.trans (hb1.mono hss)
          obtain ⟨we, hwe⟩ : ∃ we, we = wl.alloc (.cells #[.int .i64 mu, .int .i64 r1, .slice (some ⟨y1, 0, none⟩) n1 d1, .slice (some ⟨z1, 0, none⟩) m1 f1] 43) := ⟨_, rfl⟩
          have hbe : Below wl.heap.size wl we := by rw [hwe]; exact (Below.refl _ _).alloc (Nat.le_refl _) _
          have HCE : Hid (we.heap[wl.heap.size]? = some (.cells #[.int .i64 mu, .int .i64 r1, .slice (some ⟨y1, 0, none⟩) n1 d1, .slice (some ⟨z1, 0, none⟩) m1 f1] 43 (0, 0))) := by rw [hwe]; exact heap_alloc_new wl _
          have hBe : Below w.heap.size w we := hBl.trans (hbe.mono hBl.size)
          have c1 := HC1.out we hBe
          rw [hwe] at c1
          have c1b := HC1.out wl hBl
          have HI := hide ((hk1.mono hbe).inject 0 0 cd)
          rw [HINJ.out] at HI
          have HZE := hide ((HZS.out.below hb1).below hbe)
          have HBe := hide hBe
          have HWE := hide hwe
          clear hk1 hb1 hBl hbe hBe hwe HL HKS HZS HBS
          go_wp2_with fail
          rw [← HWE.out]
          refine (HQ1.out we).mono ?_
          rintro e w10 ⟨rfl, rfl⟩
          go_wp2_with fail
          refine HI.out.mono ?_
          rintro e wf ⟨rfl, hkf, hbf, hkp⟩
          have HCF := hide (hkp _ _ _ HCE.out (by decide))
          have HZF := hide (HZE.out.keeps hkp)
          have HBf : Hid (Below w.heap.size w wf) := HBe.out.trans hbf
          have hsf := HBf.out.size
          have HL2 := hide (hkf.look 0 (by omega))
          clear hkf hbf hkp HI HCE HZE HBe HWE c1 c1b
          go_wp2_with fail
          refine HL2.out.mono ?_
          rintro e wg ⟨v2, rfl, hv2, hk2, hb2⟩
          obtain ⟨y2, d2, z2, f2, rfl, -, -⟩ := hv2
          obtain ⟨mv, hmv⟩ : ∃ mv, mv = (s'.1.part 0).mode := ⟨_, rfl⟩
          rw [← hmv]
          have HMV := hide hmv
          obtain ⟨n2, hn2⟩ : ∃ n, n = (s'.1.part 0).words.length := ⟨_, rfl⟩
          obtain ⟨m2, hm2⟩ : ∃ n, n = (s'.1.part 0).procs.length := ⟨_, rfl⟩
          rw [← hn2, ← hm2]
          clear hn2 hm2 hmv
          generalize restartsOf s'.2.bs 0 = r2
          have hBg : Below w.heap.size w wg := HBf.out.trans (hb2.mono hsf)
          obtain ⟨wh, hwh⟩ : ∃ wh, wh = wg.alloc (.cells #[.int .i64 mv, .int .i64 r2, .slice (some ⟨y2, 0, none⟩) n2 d2, .slice (some ⟨z2, 0, none⟩) m2 f2] 43) := ⟨_, rfl⟩
          have hbh : Below wg.heap.size wg wh := by rw [hwh]; exact (Below.refl _ _).alloc (Nat.le_refl _) _
          have hCG := keepB hbh (keepB hb2 HCF.out)
          have hCH : wh.heap[wg.heap.size]? = some (.cells #[.int .i64 mv, .int .i64 r2, .slice (some ⟨y2, 0, none⟩) n2 d2, .slice (some ⟨z2, 0, none⟩) m2 f2] 43 (0, 0)) := by rw [hwh]; exact heap_alloc_new wg _
          have u0 : wh.cell? ⟨wl.heap.size, 0, none⟩ = some (.int .i64 mu) := by rw [cell_of_row _ _ _ _ _ _ hCG]; rfl
          have u1 : wh.cell? ⟨wg.heap.size, 0, none⟩ = some (.int .i64 mv) := by rw [cell_of_row _ _ _ _ _ _ hCH]; rfl
          have HKH := hide (hk2.mono hbh)
          have HZH := hide ((HZF.out.below hb2).below hbh)
          have HBh : Hid (Below w.heap.size w wh) := hBg.trans (hbh.mono hBg.size)
          have HWH := hide hwh
          clear hk2 hb2 hBg hbh hCG hCH hwh HL2 HCF HZF HBf
          go_upto_region 30 with fail
          rw [← HWH.out]
          go_cut [138] from 87 to 144 (fun v wx => v = .bool (decide (e1 = 0 ∧ mu ≠ 3 ∧ mv = md)) ∧ wx = wh)
          case first =>
            rcases he1 with rfl | rfl
            · by_cases hm3 : mu = 3
              · have HV : Hid (decide ((0 : Int) = 0 ∧ mu ≠ 3 ∧ mv = md) = false) := by show _ = _; simp [hm3]
                subst hm3
                go_wp2_with fail
                go_meet
                rw [HV.out]
                exact ⟨rfl, rfl⟩
              · have b1 : (mu == 3) = false := by simp [hm3]
                have b1n : (mu != 3) = true := by simp [hm3]
                by_cases hmm : mv = md
                · have HV : Hid (decide ((0 : Int) = 0 ∧ mu ≠ 3 ∧ mv = md) = true) := by show _ = _; simp [hm3, hmm]
                  subst hmm
                  go_wp2_with fail
                  go_meet
                  rw [HV.out]
                  exact ⟨rfl, rfl⟩
                · have b2 : (mv == md) = false := by simp [hmm]
                  have HV : Hid (decide ((0 : Int) = 0 ∧ mu ≠ 3 ∧ mv = md) = false) := by show _ = _; simp [hmm]
                  go_wp2_with fail
                  go_meet
                  rw [HV.out]
                  exact ⟨rfl, rfl⟩
            · have HV : Hid (decide ((6 : Int) = 0 ∧ mu ≠ 3 ∧ mv = md) = false) := by show _ = _; simp
              go_wp2_with fail
              go_meet
              rw [HV.out]
              exact ⟨rfl, rfl⟩
          case rest =>
          obtain ⟨rfl, hwc⟩ := hcut
          subst hwc
          have HF5 : Hid (∃ q' : Nat, (if decide (e1 = 0 ∧ mu ≠ 3 ∧ mv = md) = true then q + 1 else q) = q' ∧ Fin2 n ta (20 * j + 2 * x + 1) q' e1 s' ∧ q' ≤ 1000) := by
            have hf2 := HF2.out
            rw [← HMU.out, ← HMV.out, ← HMD.out] at hf2
            by_cases hc : e1 = 0 ∧ mu ≠ 3 ∧ mv = md
            · rw [if_pos hc, show ((q : Nat) : Int) + 1 = ((q + 1 : Nat) : Int) by omega] at hf2
              have := hf2.cw.2
              exact ⟨q + 1, by rw [if_pos (decide_eq_true hc)], hf2, by omega⟩
            · rw [if_neg hc] at hf2
              have := hf2.cw.2
              exact ⟨q, by rw [if_neg (by simpa using hc)], hf2, by omega⟩
          generalize decide (e1 = 0 ∧ mu ≠ 3 ∧ mv = md) = bb at *
          obtain ⟨q', hq', hf3, hqb⟩ := HF5.out
          have HF3 := hide hf3
          have HQ' := hide hq'
          clear hf3 HF5 hq' HF2 u0 u1
          go_upto_if 138 with fail
          go_cut [16] from 87 to 144 (fun v wx => v = .int .i64 q' ∧ wx = wc)
          case first =>
            cases bb
            · have e3 : q = q' := HQ'.out
              subst e3
              go_wp2_with fail
              go_meet
              exact ⟨rfl, rfl⟩
            · have e3 : q + 1 = q' := HQ'.out
              have hqq : q ≤ 1000 := by omega
              have HE3 := hide e3
              clear e3
              go_wp2_with fail
              go_meet
              exact ⟨by rw [← HE3.out]; go_num, rfl⟩
          case rest =>
          obtain ⟨rfl, hwc⟩ := hcut
          subst hwc
          rcases HF3.out with ⟨he, hu, hc⟩ | ⟨he, hc⟩
          · subst he
            obtain ⟨e2, s2, hi2, hl3, hf4⟩ := count_two hu hc (by omega)
            have HI2 := hide (HKH.out.inject 1 0 0)
            rw [hi2] at HI2
            have HF4 := hide hf4
            clear hu hc hi2 hf4 HF3
            go_wp2_with fail
            refine HI2.out.mono ?_
            rintro e wi ⟨rfl, hki, hbi, hkp⟩
            have HKI : Hid (Kp w.heap.size wi kb L g s2 ∧ Bys w.heap.size wi vz zs ∧ Below w.heap.size w wi) := ⟨hki, HZH.out.keeps hkp, HBh.out.trans hbi⟩
            clear hki hbi hkp HI2
            go_wp2
            go_roundw
            case rel => exact ⟨x + 1, q', e2, s2, by omega, by go_num, rfl, rfl, HKI.out.1, hl3, HF4.out, HKI.out.2.1, HKI.out.2.2⟩
            case measure => simp [intOf]; omega
          · subst he
            have HC6 := hide hc
            clear hc HF3
            go_wp2
            go_roundw
            case rel => exact ⟨x + 1, q', 6, s', by omega, by go_num, rfl, rfl, HKH.out, hl', .inr ⟨rfl, HC6.out.mono (by omega)⟩, HZH.out, HBh.out⟩
            case measure => simp [intOf]; omega
        · have hcw := HFN.out.cw
          have hq1 := hcw.2
          have HCW2 : Hid (Cw n (20 * (j + 1)) q s.2.restore.bs) := hcw.mono (by omega)
          have hqn : decide (n < ((q : Nat) : Int)) = false := by simp; omega
          have hcase : (decide ((x : Int) < 1 + (m0 : Nat)) = true ∧ ee = 6) ∨ (decide ((x : Int) < 1 + (m0 : Nat)) = false ∧ ee = 0) ∨ (decide ((x : Int) < 1 + (m0 : Nat)) = false ∧ ee = 6) := by
            have he : ee = 0 ∨ ee = 6 := by
              rcases HFN.out with h | h
              · exact .inl h.1
              · exact .inr h.1
            by_cases hx3 : x < 1 + m0
            · exact .inl ⟨by simp; omega, by omega⟩
            · exact .inr (he.imp (fun h => ⟨by simp; omega, h⟩) (fun h => ⟨by simp; omega, h⟩))
          have HRE := hide HKS.out.restore
          clear hcw hq1 hlt HKS HFN c0
          rcases hcase with ⟨hd, rfl⟩ | ⟨hd, rfl⟩ | ⟨hd, rfl⟩
          all_goals
            go_wp2_with fail
            refine HRE.out.mono ?_
            rintro e wm ⟨rfl, hkm, hbm, hkp⟩
            have hzm := HZS.out.keeps hkp
            have hBm := HBS.out.trans hbm
            have HBO := hide (kboot2 w.heap.size w.heap.size vz zs g s.2.restore wm hzm HZ1.out.1 HZ1.out.2 hkm.kn.mo.fl hkm.kn.mo.flok hg' hBm.size (by rw [HPZ.out]))
            rw [HPZ.out] at HBO
            have HZM := hide hzm
            have HBM := hide hBm
            clear hkm hbm hkp hzm hBm HRE HZS HBS
            go_wp2_with fail
            refine HBO.out.mono ?_
            rintro e wn ⟨kb', L', rfl, hkn, hbn⟩
            have HNX : Hid (Kp w.heap.size wn kb' L' g (bootSt (cfD (ptC n ta) ptO) s.2.restore.bs, s.2.restore) ∧ Bys w.heap.size wn vz zs ∧ Below w.heap.size w wn) := ⟨hkn, HZM.out.below hbn, HBM.out.trans (hbn.mono HBM.out.size)⟩
            clear hkn hbn HBO HZM HBM
            go_wp2
            go_roundw
            case rel => exact ⟨j + 1, q, kb', L', s.2.restore, by omega, by omega, by go_num, rfl, rfl, HNX.out.1, rfl, HCW2.out, HNX.out.2.1, HNX.out.2.2⟩
            case measure => simp [intOf]; omega
    · clear hk hd hcw hB hz
      by_cases hd1 : j < nb
      · have hd : decide ((j : Int) < (nb : Nat)) = true := by simp; omega
        have hd2 : decide ((j : Int) < 40) = false := by simp; omega
        clear hgo
        go_wp2
        go_ret
        exact ⟨rfl, HB.out⟩
      · have hd : decide ((j : Int) < (nb : Nat)) = false := by simp; omega
        clear hgo
        go_wp2
        go_ret
        exact ⟨rfl, HB.out⟩
end Go.Proofs.YtnjlbgolnbdkaaaGreat
