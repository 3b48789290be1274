/- Durable: the walk. -/
import Derived.Test.YtnjlbgolnbdkaaaGreatCs
import Derived.Test.YtnjlbgolnbdkaaaGreatM29
namespace Go.Proofs.YtnjlbgolnbdkaaaGreat
open Go.RowKit

theorem tdiv_rng (x : Int) (h1 : -9223372036854775808 ≤ x) (h2 : x ≤ 9223372036854775807) : -9223372036854775808 ≤ x.tdiv 2 ∧ x.tdiv 2 ≤ 9223372036854775807 := by
  by_cases h : 0 ≤ x
  · rw [Int.tdiv_eq_ediv_of_nonneg h]
    omega
  · have e : x = -(-x) := by omega
    rw [e, Int.neg_tdiv, Int.tdiv_eq_ediv_of_nonneg (by omega)]
    omega
set_option maxRecDepth 100000 in
set_option maxHeartbeats 8000000 in
theorem durable_walk (vc : Value) (lc : List Int) (a1 rs : Int) (h1 : -9223372036854775808 ≤ a1 ∧ a1 ≤ 9223372036854775807) (hrs : 0 ≤ rs ∧ rs ≤ 255) (w : World) (hI : Ints w vc lc) :
    Calls Tryz.prog 9 #[vc, .int .i64 a1, .int .u8 rs] w fun e w' => e = .returned (.bool true) ∧ Below w.heap.size w w' := by
  obtain ⟨i0, hi, hz0, hz1, hz2⟩ := info_parts Tryz.info52
  have HAW := hide (kawake_any w)
  have HP0 : Hid (∀ W, Calls Tryz.prog 17 #[.int .i64 a1, .int .i64 1200] W fun e w' => e = .returned (.int .i64 (pickOf a1 1200)) ∧ w' = W) := fun W => kpick_any a1 1200 W h1.1 h1.2 (by omega) (by omega)
  have hp0 := pickOf_nonneg a1 1200 (by omega)
  have hq0 := pickOf_lt a1 1200 (by omega)
  generalize pickOf a1 1200 = af at *
  have HIN := hide hI
  obtain ⟨ac, cc, rfl, hi3⟩ := hI.lies
  have hil := hI.len
  obtain ⟨nl, hnl⟩ : ∃ nl, nl = lc.length := ⟨_, rfl⟩
  rw [← hnl] at hil ⊢
  have HNL := hide hnl
  have HI3 := hide hi3
  have HRS := hide hrs
  clear h1 hI hnl hi3 hrs
  go_enter Tryz.func9, Tryz.ntmps9
  go_wp2_with fail
  refine HAW.out.mono ?_
  rintro e w1 ⟨rfl, hb1⟩
  have hs1 := hb1.size
  have HB1 := hide hb1
  have HNF := hide (newFlash_any none 0 0 [] w1 ⟨rfl, Nat.le_refl _, by omega, fun z hz => (by cases hz), fun _ => rfl, fun ad e => (by cases e), fun ad e => (by cases e)⟩ (by omega))
  clear hb1 HAW
  go_wp2_with fail
  refine HNF.out.mono ?_
  rintro e w2 ⟨g, rfl, hg, hF, hb2⟩
  have hg' : w.heap.size ≤ g := by omega
  have HB2 : Hid (Below w.heap.size w w2) := HB1.out.trans (hb2.mono hs1)
  have hs2 := HB2.out.size
  have HF2 : Hid (FlAt w2 g flN) := hF
  have HPA := hide (kpart_any 9 (.slice none 0 0) (.slice none 0 0) (.slice none 0 0) [] [] [] w2 (by omega) (Ints.nil _ _ _) (Ints.nil _ _ _) (Ints.nil _ _ _))
  clear hF hb2 HNF hg HB1
  go_wp2_with fail
  refine HPA.out.mono ?_
  rintro e w3 ⟨vp, rfl, hP3, hb3⟩
  have hlp := partK_len 9 [] [] []
  obtain ⟨gp, cp, hvp, -, -, -⟩ := hP3.row (by omega)
  subst hvp
  have HF3 : Hid (FlAt w3 g flN) := HF2.out.below hb3
  have HB3' : Hid (Below w.heap.size w w3) := HB2.out.trans (hb3.mono hs2)
  have hs3 := HB3'.out.size
  have HPP := hide (hP3.low hs2)
  obtain ⟨zp, hzp⟩ : ∃ zp, zp = partK 9 [] [] [] := ⟨_, rfl⟩
  have HZP := hide hzp
  rw [← hzp] at hlp HPP
  obtain ⟨np, hnp⟩ : ∃ np, np = zp.length := ⟨_, rfl⟩
  have HNP := hide hnp.symm
  rw [← hnp] at hlp HPP
  rw [← hzp, ← hnp]
  obtain ⟨wa, hwa⟩ : ∃ wa, wa = w3.alloc (.cells #[.int .i64 3, .int .i64 4] 3) := ⟨_, rfl⟩
  have hba : Below w3.heap.size w3 wa := by rw [hwa]; exact (Below.refl _ _).alloc (Nat.le_refl _) _
  have hA : wa.heap[w3.heap.size]? = some (.cells #[.int .i64 3, .int .i64 4] 3 (0, 0)) := by rw [hwa]; exact heap_alloc_new w3 _
  have hia : Ints wa (.slice (some ⟨w3.heap.size, 0, none⟩) 2 2) [3, 4] := ints_lit w3 wa [3, 4] 2 rfl (by omega) (by omega) (by intro x hx; simp only [List.mem_cons, List.not_mem_nil, or_false] at hx; omega) hA
  have HPB := hide (kpart_any 9 _ (.slice none 0 0) (.slice none 0 0) _ [] [] wa (by omega) hia (Ints.nil _ _ _) (Ints.nil _ _ _))
  have HFa : Hid (FlAt wa g flN) := HF3.out.below hba
  have HPa := hide (HPP.out.below hba)
  have HBa : Hid (Below w.heap.size w wa) := HB3'.out.trans (hba.mono hs3)
  have hsa := HBa.out.size
  have HWA := hide hwa
  clear hP3 hb3 HPA hzp hnp hwa hba hA hia HF2 HF3 HPP HB2 HB3'
  go_wp2_with fail
  rw [← HWA.out]
  refine HPB.out.mono ?_
  rintro e w4 ⟨vq, rfl, hQ4, hb4⟩
  have hlq := partK_len 9 [3, 4] [] []
  obtain ⟨gq, cq, hvq, -, -, -⟩ := hQ4.row (by omega)
  subst hvq
  have HF4 : Hid (FlAt w4 g flN) := HFa.out.below hb4
  have HP4 := hide (HPa.out.below hb4)
  have HB4 : Hid (Below w.heap.size w w4) := HBa.out.trans (hb4.mono hsa)
  have hs4 := HB4.out.size
  obtain ⟨zq, hzq⟩ : ∃ zq, zq = partK 9 [3, 4] [] [] := ⟨_, rfl⟩
  have HZQ := hide hzq
  rw [← hzq] at hlq hQ4
  obtain ⟨nq, hnq⟩ : ∃ nq, nq = zq.length := ⟨_, rfl⟩
  have HNQ := hide hnq.symm
  rw [← hnq] at hlq hQ4
  rw [← hzq, ← hnq]
  have hrw := rows_two HP4.out (hQ4.low hsa) HNP.out HNQ.out (by omega) (by omega)
  obtain ⟨w5, hw5⟩ : ∃ w5, w5 = w4.alloc (.cells #[.slice (some ⟨gp, 0, none⟩) np cp, .slice (some ⟨gq, 0, none⟩) nq cq] 22) := ⟨_, rfl⟩
  rw [← hw5] at hrw
  have hb5 : Below w4.heap.size w4 w5 := by rw [hw5]; exact (Below.refl _ _).alloc (Nat.le_refl _) _
  have HF5 : Hid (FlAt w5 g flN) := HF4.out.below hb5
  have HB5 : Hid (Below w.heap.size w w5) := HB4.out.trans (hb5.mono hs4)
  have hs5 := HB5.out.size
  have HC := hide (kconfig_any 0 _ [zp, zq] 1 w5 (by omega) (by omega) hrw)
  have HPZ : Hid (parseOf (configK 0 [zp, zq] 1) = (cfD ptO ptW, 0, 0)) := by rw [HZP.out, HZQ.out]; exact parse_DK 9 9 _ _ _ _ _ _ (by omega) (by omega)
  have HZL := hide (config1_len 0 zp zq)
  rw [HNP.out, HNQ.out] at HZL
  have HW5 := hide hw5
  generalize configK 0 [zp, zq] 1 = zs at *
  have HZ1 : Hid (0 < zs.length ∧ zs.length ≤ 100000) := by rw [HZL.out]; exact (by omega : 0 < 16 + np + nq ∧ 16 + np + nq ≤ 100000)
  clear hQ4 hb4 hrw hw5 hb5 HPB hzq hnq HP4 HFa HPa HBa HF4 HB4 HZL HWA
  go_wp2_with fail
  rw [← HW5.out]
  refine HC.out.mono ?_
  rintro e w6 ⟨vz, rfl, hC6, hb6⟩
  have HB6 : Hid (Below w.heap.size w w6) := HB5.out.trans (hb6.mono hs5)
  have hs6 := HB6.out.size
  have hF6 : FlAt w6 g flN := HF5.out.below hb6
  have HZ6 := hide (hC6.low hs5)
  have HBO := hide (kboot2 w.heap.size w.heap.size vz zs g flN w6 HZ6.out HZ1.out.1 HZ1.out.2 hF6 flN_ok hg' hs6 (by rw [HPZ.out]))
  rw [HPZ.out] at HBO
  clear hC6 hb6 HC hF6 HF5 HB5 HZP HZQ HNP HNQ HW5
  go_wp2_with fail
  refine HBO.out.mono ?_
  rintro e w7 ⟨kb0, L0, rfl, hk7, hb7⟩
  have HK7 := hide hk7
  have HZ7 := hide (HZ6.out.below hb7)
  have HB7 : Hid (Below w.heap.size w w7) := HB6.out.trans (hb7.mono hs6)
  have HCU := hide (hk7.cut af rs (by omega) HRS.out)
  clear hk7 hb7 HBO HZ6 HB6
  go_wp2_with fail
  refine (HP0.out w7).mono ?_
  rintro e w8 ⟨rfl, rfl⟩
  go_wp2_with fail
  refine HCU.out.mono ?_
  rintro e wx ⟨rfl, hkx, hbx, hkp⟩
  have HST : Hid (∃ s, Kp w.heap.size wx kb0 L0 g s ∧ Dst [] false ((0 : Nat) : Int) ((0 : Nat) : Int) s ∧ Bys w.heap.size wx vz zs ∧ Below w.heap.size w wx) := ⟨_, hkx, dur_start hkx rfl rfl, HZ7.out.keeps hkp, HB7.out.trans hbx⟩
  clear hkx hbx hkp HCU HK7 HZ7 HB7 HP0
  go_wp2_with fail
  go_loopw [11, 12, 13, 14, 15, 16, 17, 18] (fun _ v p c lo t _ _ wr => ∃ (j pt cd : Nat) (al : List (Nat → Int)) (lost : Bool) (s : SF), j ≤ nl ∧ j ≤ 60 ∧ al.length ≤ j ∧ t = .int .i64 j ∧ p = .int .i64 pt ∧ c = .int .i64 cd ∧ lo = .bool lost ∧ RecsV w.heap.size v al wr ∧ Kp w.heap.size wr kb0 L0 g s ∧ Dst al lost pt cd s ∧ Bys w.heap.size wr vz zs ∧ Below w.heap.size w wr) (fun _ _ _ _ _ t _ _ _ => 60 - (intOf t).toNat)
  case atStart =>
    obtain ⟨s, a1, a2, a3, a4⟩ := HST.out
    exact ⟨0, 0, 0, [], false, s, by omega, by omega, by simp, rfl, rfl, rfl, rfl, World.ownsRow_nil _ _ _ _, a1, a2, a3, a4⟩
  case round =>
    obtain ⟨j, pt0, cd0, al, lost, s, hj1, hj2, hal, rfl, rfl, rfl, rfl, hv, hk, hD, hz, hB⟩ := hrel
    have hsr := hB.size
    have HB := hide hB
    have HZ := hide hz
    have HK := hide hk
    have HD := hide hD
    obtain ⟨ad2, c2, hv2, hcap2, -⟩ := hv.whole
    subst hv2
    obtain ⟨n2, hn2⟩ : ∃ n2, n2 = al.length := ⟨_, rfl⟩
    rw [← hn2] at hv hcap2 hal ⊢
    have HV := hide hv
    have HN2 := hide hn2.symm
    clear hk hD hz hB hv hn2
    by_cases hgo : j < nl ∧ j < 60 ∧ lost = false
    · obtain ⟨hg1, hg2, rfl⟩ := hgo
      have hjl : j < lc.length := by have := HNL.out; omega
      obtain ⟨b, off, rfl, hbl2, hcells⟩ := HI3.out (by omega)
      have hr := getD_rng HIN.out.rng j
      have c0 : wr.cell? ⟨b, off + j, none⟩ = some (.int .i64 (lc.getD j 0)) := (HB.out.cell (p := ⟨b, off + j, none⟩) hbl2).trans (hcells j hjl)
      generalize lc.getD j 0 = x at *
      have hty := tdiv_rng x hr.1 hr.2
      have HP1 := hide (kpick_any x 2 wr hr.1 hr.2 (by omega) (by omega))
      have HP2 : Hid (∀ W, Calls Tryz.prog 17 #[.int .i64 (x.tdiv 2), .int .i64 5] W fun e w' => e = .returned (.int .i64 (pickOf (x.tdiv 2) 5)) ∧ w' = W) := fun W => kpick_any (x.tdiv 2) 5 W hty.1 hty.2 (by omega) (by omega)
      have e1 := pick_nat x 2 (by omega)
      have e2 := pick_nat (x.tdiv 2) 5 (by omega)
      rw [show ((2 : Nat) : Int) = 2 from rfl] at e1
      rw [show ((5 : Nat) : Int) = 5 from rfl] at e2
      generalize (pickOf x 2).toNat = pt at e1
      generalize (pickOf (x.tdiv 2) 5).toNat = cd at e2
      rw [e1.1] at HP1
      rw [e2.1] at HP2
      have hpt := e1.2
      have hcd := e2.2
      have hdj : decide ((j : Int) < (nl : Nat)) = true := by simp; omega
      have hdj2 : decide ((j : Int) < 60) = true := by simp; omega
      have hU : Up ptO ptW s ∧ (s.1.part 0).mode ≠ 3 ∧ Jd al s.2.bs := by
        rcases HD.out with ⟨_, a, b, c⟩ | ⟨e, _⟩
        · exact ⟨a, b, c⟩
        · cases e
      have hseq : Seqs al := hU.2.2.1
      obtain ⟨ee, s', hinj, hcs⟩ := dur_one hU.1 hU.2.1 hU.2.2 (by have := HN2.out; omega) pt cd hpt (by omega)
      have HI := hide (HK.out.inject pt 0 cd)
      rw [hinj] at HI
      have HCS := hide hcs
      have HSQ := hide hseq
      clear e1 e2 hcells hU hinj hcs hseq HK HD
      go_wp2_with fail
      refine HP1.out.mono ?_
      rintro e w8 ⟨rfl, rfl⟩
      go_wp2_with fail
      refine (HP2.out _).mono ?_
      rintro e w8 ⟨rfl, rfl⟩
      clear hr hty
      go_wp2_with fail
      refine HI.out.mono ?_
      rintro e wf ⟨rfl, hkf, hbf, hkp⟩
      have HVF := hide (HV.out.keeps hkp)
      have HZF := hide (HZ.out.keeps hkp)
      have HBF : Hid (Below w.heap.size w wf) := HB.out.trans hbf
      have hsf := HBF.out.size
      have HL := hide hkf.log
      clear hkf hbf hkp HI HP1 HP2 HV HZ HB c0
      go_wp2_with fail
      refine HL.out.mono ?_
      rintro e wl ⟨vl, rfl, hvl, hkl, hbl⟩
      have HKL := hide hkl
      have HVL := hide (HVF.out.below hbl)
      have HZL := hide (HZF.out.below hbl)
      have HBL : Hid (Below w.heap.size w wl) := HBF.out.trans (hbl.mono hsf)
      have hsl := HBL.out.size
      obtain ⟨ad1, c1, hv1, hcap1, hli1⟩ := hvl.whole
      subst hv1
      have hl14 := logOf_le s'.2.bs
      obtain ⟨n1, hn1⟩ : ∃ n1, n1 = (logOf s'.2.bs).length := ⟨_, rfl⟩
      rw [← hn1] at hcap1 hl14 ⊢
      have HN1 := hide hn1.symm
      have HLI1 := hide hli1
      have HLI2 : Hid (Lies wl ad2 al) := by
        obtain ⟨ad, c, hv, _, h⟩ := HVL.out.whole
        rw [HN2.out] at hv
        cases hv
        exact h
      clear hvl hkl hbl hli1 hn1 HL HVF HZF HBF
      rcases HCS.out with ⟨he, hp1, hD', hlast⟩ | ⟨he, l', r, hlog, hr3, hD'⟩ | ⟨he, hD'⟩
      · subst he
        subst hp1
        by_cases hn0 : n1 = 0
        · have hd1 : decide ((0 : Int) < (n1 : Nat)) = false := by simp; omega
          have hd1b : decide (0 < n1) = false := by simp; omega
          clear hn0
          go_upto_region 19 with fail
          go_cut [18] from 51 to 139 (fun v wx => v = .bool false ∧ Below wl.heap.size wl wx)
          case first =>
            go_wp2_with fail
            go_region
            all_goals
              go_wp2_with fail
              go_meet
              exact ⟨rfl, (Below.refl _ _).trans ⟨rfl, rfl, rfl, Nat.le_refl _, fun _ _ => rfl⟩⟩
          case rest =>
          obtain ⟨rfl, hbx⟩ := hcut
          have HE := hide (And.intro (HVL.out.below hbx) (And.intro (HKL.out.mono hbx) (And.intro (HZL.out.below hbx) (HBL.out.trans (hbx.mono hsl)))))
          have HD' := hide hD'
          clear hbx hD' HVL HKL HZL HBL
          go_wp2
          go_roundw
          case rel => exact ⟨j + 1, 1, cd, al, false, s', by omega, by omega, by have := HN2.out; omega, by go_num, rfl, rfl, rfl, HE.out.1, HE.out.2.1, HD'.out, HE.out.2.2.1, HE.out.2.2.2⟩
          case measure => simp [intOf]; omega
        · obtain ⟨hal0, l', q, hlog, hq3⟩ := hlast (by intro h; have := HN1.out; rw [h] at this; simp at this; omega)
          have hn20 : n2 ≠ 0 := by intro h; have := HN2.out; exact hal0 (List.length_eq_zero_iff.1 (by omega))
          obtain ⟨g1, o1, q1, ha1, hq1, -, -, -, x3, -⟩ := lies_get HLI1.out (n1 - 1) (by have := HN1.out; omega)
          subst ha1
          have hqq : q1 = q := by
            have h1 : n1 = l'.length + 1 := by have := HN1.out; rw [hlog, List.length_append] at this; simpa using this.symm
            rw [hlog, h1, Nat.add_sub_cancel, List.getElem?_append_right (Nat.le_refl _), Nat.sub_self] at hq1
            simpa using hq1.symm
          subst hqq
          have hd1 : decide ((0 : Int) < (n1 : Nat)) = true := by simp; omega
          have hd1b : decide (0 < n1) = true := by simp; omega
          obtain ⟨m1, hm1⟩ : ∃ m1, m1 = n1 - 1 := ⟨_, rfl⟩
          have hs1 : ((n1 : Nat) : Int) - 1 = ((m1 : Nat) : Int) := by omega
          have hm1n : m1 < n1 := by omega
          obtain ⟨g2, o2, q2, ha2, hq2, -, -, -, y3, -⟩ := lies_get HLI2.out (n2 - 1) (by have := HN2.out; omega)
          subst ha2
          have hq23 : q2 3 = (n2 : Int) := by
            have := seqs_last HSQ.out (by rw [HN2.out]; exact hq2)
            rw [HN2.out] at this
            exact this
          obtain ⟨m2, hm2⟩ : ∃ m2, m2 = n2 - 1 := ⟨_, rfl⟩
          have hs2 : ((n2 : Nat) : Int) - 1 = ((m2 : Nat) : Int) := by omega
          have hm2n : m2 < n2 := by omega
          have hz2n : (((n2 : Nat) : Int) == 0) = false := by simp; omega
          have hz2m : (n2 == 0) = false := by simp; omega
          rw [← hm2] at y3
          rw [← hm1] at x3
          have hne : (q1 3 == q2 3 + 1) = false := beq_false_of_ne (by have := HN2.out; omega)
          have hqb : 0 ≤ q2 3 ∧ q2 3 ≤ 100 := by omega
          generalize q1 3 = y1 at *
          generalize q2 3 = y2 at *
          clear hq1 hq2 hq3 hq23 hlast hlog hm1 hm2 hal0 hn0 hn20
          go_upto_region 19 with fail
          go_cut [18] from 51 to 139 (fun v wx => v = .bool false ∧ Below wl.heap.size wl wx)
          case first =>
            go_wp2_with fail
            go_region
            all_goals
              go_wp2_with fail
              go_meet
              exact ⟨rfl, (Below.refl _ _).trans ⟨rfl, rfl, rfl, Nat.le_refl _, fun _ _ => rfl⟩⟩
          case rest =>
          obtain ⟨rfl, hbx⟩ := hcut
          have HE := hide (And.intro (HVL.out.below hbx) (And.intro (HKL.out.mono hbx) (And.intro (HZL.out.below hbx) (HBL.out.trans (hbx.mono hsl)))))
          have HD' := hide hD'
          clear hbx hD' HVL HKL HZL HBL
          go_wp2
          go_roundw
          case rel => exact ⟨j + 1, 1, cd, al, false, s', by omega, by omega, by have := HN2.out; omega, by go_num, rfl, rfl, rfl, HE.out.1, HE.out.2.1, HD'.out, HE.out.2.2.1, HE.out.2.2.2⟩
          case measure => simp [intOf]; omega
      · subst he
        have h1 : n1 = l'.length + 1 := by have := HN1.out; rw [hlog, List.length_append] at this; simpa using this.symm
        obtain ⟨g1, o1, q1, ha1, hq1, x0, x1, x2, x3, x4⟩ := lies_get HLI1.out (n1 - 1) (by have := HN1.out; omega)
        subst ha1
        have hqq : q1 = r := by
          rw [hlog, h1, Nat.add_sub_cancel, List.getElem?_append_right (Nat.le_refl _), Nat.sub_self] at hq1
          simpa using hq1.symm
        subst hqq
        have hd1 : decide ((0 : Int) < (n1 : Nat)) = true := by simp; omega
        have hd1b : decide (0 < n1) = true := by simp; omega
        obtain ⟨m1, hm1⟩ : ∃ m1, m1 = n1 - 1 := ⟨_, rfl⟩
        have hs1 : ((n1 : Nat) : Int) - 1 = ((m1 : Nat) : Int) := by omega
        have hm1n : m1 < n1 := by omega
        rw [← hm1] at x0 x1 x2 x3 x4
        have HX : Hid (∀ W, Below wl.heap.size wl W → W.cell? ⟨g1, o1 + m1 * 5, none⟩ = some (.int .i64 (q1 0)) ∧ W.cell? ⟨g1, o1 + m1 * 5 + 1, none⟩ = some (.int .i64 (q1 1)) ∧ W.cell? ⟨g1, o1 + m1 * 5 + 2, none⟩ = some (.int .i64 (q1 2)) ∧ W.cell? ⟨g1, o1 + m1 * 5 + 3, none⟩ = some (.int .i64 (q1 3)) ∧ W.cell? ⟨g1, o1 + m1 * 5 + 4, none⟩ = some (.int .i64 (q1 4))) := fun W hW => by
          have hx : ∀ o, W.cell? ⟨g1, o, none⟩ = wl.cell? ⟨g1, o, none⟩ := fun o => hW.cell (p := ⟨g1, o, none⟩) (lt_of_cell x0)
          exact ⟨(hx _).trans x0, (hx _).trans x1, (hx _).trans x2, (hx _).trans x3, (hx _).trans x4⟩
        have HRC : Hid (recCells q1 = [.int .i64 (q1 0), .int .i64 (q1 1), .int .i64 (q1 2), .int .i64 (q1 3), .int .i64 (q1 4)]) := rfl
        have HR3 := hide hr3
        clear hq1 hm1 h1 hlog hr3 x0 x1 x2 x4
        go_upto_region 19 with fail
        go_cut [18] from 51 to 139 (fun v wx => v = .bool true ∧ Below wl.heap.size wl wx)
        case first =>
          by_cases hn20 : n2 = 0
          · have hz2n : (((n2 : Nat) : Int) == 0) = true := by simp; omega
            have hz2m : (n2 == 0) = true := by simp; omega
            clear hn20
            go_wp2_with fail
            go_region
            all_goals
              go_wp2_with fail
              go_meet
              exact ⟨rfl, (Below.refl _ _).trans ⟨rfl, rfl, rfl, Nat.le_refl _, fun _ _ => rfl⟩⟩
          · obtain ⟨g2, o2, q2, ha2, hq2, -, -, -, y3, -⟩ := lies_get HLI2.out (n2 - 1) (by have := HN2.out; omega)
            subst ha2
            have hq23 : q2 3 = (n2 : Int) := by
              have := seqs_last HSQ.out (by rw [HN2.out]; exact hq2)
              rw [HN2.out] at this
              exact this
            obtain ⟨m2, hm2⟩ : ∃ m2, m2 = n2 - 1 := ⟨_, rfl⟩
            have hs2 : ((n2 : Nat) : Int) - 1 = ((m2 : Nat) : Int) := by omega
            have hm2n : m2 < n2 := by omega
            have hz2n : (((n2 : Nat) : Int) == 0) = false := by simp; omega
            have hz2m : (n2 == 0) = false := by simp; omega
            rw [← hm2] at y3
            have hye : (q1 3 == q2 3 + 1) = true := by rw [HR3.out, hq23, HN2.out]; simp
            have hqb : 0 ≤ q2 3 ∧ q2 3 ≤ 100 := by omega
            generalize q1 3 = y1 at *
            generalize q2 3 = y2 at *
            clear hq2 hq23 hm2 hn20
            go_wp2_with fail
            go_region
            all_goals
              go_wp2_with fail
              go_meet
              exact ⟨rfl, (Below.refl _ _).trans ⟨rfl, rfl, rfl, Nat.le_refl _, fun _ _ => rfl⟩⟩
        case rest =>
        obtain ⟨rfl, hbx⟩ := hcut
        obtain ⟨x0, x1, x2, x4', x4⟩ := HX.out wc hbx
        have HVX := hide (HVL.out.below hbx)
        have HKX := hide (HKL.out.mono hbx)
        have HZX := hide (HZL.out.below hbx)
        have HBX : Hid (Below w.heap.size w wc) := HBL.out.trans (hbx.mono hsl)
        have hsx := HBX.out.size
        have HD' := hide hD'
        clear hbx hD' HVL HKL HZL HBL HX x3 HLI1 HLI2 HSQ
        generalize q1 0 = r0 at x0 HRC
        generalize q1 1 = r1 at x1 HRC
        generalize q1 2 = r2 at x2 HRC
        generalize q1 3 = r3 at x4' HRC HR3
        generalize q1 4 = r4 at x4 HRC
        go_wp2_with (at_builtin; go_must (refine wpList_append_lies _ rfl (.tmp 123) (.tmp 130) 49 rfl w.heap.size 52 i0 _ 5 40 Tryz.underlying49 hi hz0 hz1 hz2 rfl (by decide) (.slice ad2 n2 c2) n2 (recsCells al) rfl (by have := HVX.out; unfold RecsV at this; rw [HN2.out] at this; exact this.alloc _) ⟨wc.heap.size, 0, none⟩ 1 1 [.int .i64 r0, .int .i64 r1, .int .i64 r2, .int .i64 r3, .int .i64 r4] (by rfl) rfl (by have := news_at wc #[.int .i64 r0, .int .i64 r1, .int .i64 r2, .int .i64 r3, .int .i64 r4] 52; simpa using this) (ints_one _ (by simp)) (by omega) (by unfold maxLen; omega) (by omega) (by simp; omega) _ rfl ?_))
        intro g5 cap5 w5 hown5 hgrow5 _ _
        have hg5 := grown_alloc hgrow5
        have hlow : ∀ b, (Value.slice ad2 n2 c2).ownBlock = some b → w.heap.size ≤ b := fun b e => (World.ownsRow.lt HVX.out b e).1
        obtain ⟨hk5, hkeep5⟩ := HKX.out.row HVX.out hg5
        have H5 : Hid (RecsV w.heap.size (.slice (some ⟨g5, 0, none⟩) (n2 + 1) cap5) (al ++ [q1]) w5 ∧ Kp w.heap.size w5 kb0 L0 g s' ∧ Bys w.heap.size w5 vz zs ∧ Below w.heap.size w w5) := by
          refine ⟨?_, hk5, HZX.out.row5 hkeep5, HBX.out.grown hg5 hsx hlow⟩
          unfold RecsV
          rw [recsCells_append, List.length_append, HN2.out]
          show w5.ownsRow _ _ _ _ _ (_ ++ (recCells q1 ++ []))
          rw [List.append_nil, HRC.out]
          exact hown5
        clear hown5 hgrow5 hg5 hlow hk5 hkeep5 HVX HKX HZX HBX
        go_wp2
        go_roundw
        case rel => exact ⟨j + 1, pt, cd, al ++ [q1], false, s', by omega, by omega, by rw [List.length_append, HN2.out]; simp; omega, by go_num, rfl, rfl, rfl, H5.out.1, H5.out.2.1, HD'.out, H5.out.2.2.1, H5.out.2.2.2⟩
        case measure => simp [intOf]; omega
      · subst he
        by_cases hn0 : n1 = 0
        · have hd1 : decide ((0 : Int) < (n1 : Nat)) = false := by simp; omega
          have hd1b : decide (0 < n1) = false := by simp; omega
          clear hn0
          go_upto_region 19 with fail
          go_cut [18] from 51 to 139 (fun v wx => v = .bool false ∧ Below wl.heap.size wl wx)
          case first =>
            go_wp2_with fail
            go_region
            all_goals
              go_wp2_with fail
              go_meet
              exact ⟨rfl, (Below.refl _ _).trans ⟨rfl, rfl, rfl, Nat.le_refl _, fun _ _ => rfl⟩⟩
          case rest =>
          obtain ⟨rfl, hbx⟩ := hcut
          have HE := hide (And.intro (HVL.out.below hbx) (And.intro (HKL.out.mono hbx) (And.intro (HZL.out.below hbx) (HBL.out.trans (hbx.mono hsl)))))
          have HD' := hide hD'
          clear hbx hD' HVL HKL HZL HBL
          go_wp2
          go_roundw
          case rel => exact ⟨j + 1, pt, cd, al, true, s', by omega, by omega, by have := HN2.out; omega, by go_num, rfl, rfl, rfl, HE.out.1, HE.out.2.1, HD'.out, HE.out.2.2.1, HE.out.2.2.2⟩
          case measure => simp [intOf]; omega
        · obtain ⟨g1, o1, q1, ha1, hq1, -, -, -, x3, -⟩ := lies_get HLI1.out (n1 - 1) (by have := HN1.out; omega)
          subst ha1
          have hd1 : decide ((0 : Int) < (n1 : Nat)) = true := by simp; omega
          have hd1b : decide (0 < n1) = true := by simp; omega
          obtain ⟨m1, hm1⟩ : ∃ m1, m1 = n1 - 1 := ⟨_, rfl⟩
          have hs1 : ((n1 : Nat) : Int) - 1 = ((m1 : Nat) : Int) := by omega
          have hm1n : m1 < n1 := by omega
          rw [← hm1] at x3
          by_cases hn20 : n2 = 0
          · clear hq1 hm1 hn0
            have hz2n : (((n2 : Nat) : Int) == 0) = true := by simp; omega
            have hz2m : (n2 == 0) = true := by simp; omega
            clear hn20
            go_upto_region 19 with fail
            go_cut [18] from 51 to 139 (fun v wx => v = .bool true ∧ Below wl.heap.size wl wx)
            case first =>
              go_wp2_with fail
              go_region
              all_goals
                go_wp2_with fail
                go_meet
                exact ⟨rfl, (Below.refl _ _).trans ⟨rfl, rfl, rfl, Nat.le_refl _, fun _ _ => rfl⟩⟩
            case rest =>
            obtain ⟨rfl, hbx⟩ := hcut
            have HE := hide (And.intro (HVL.out.below hbx) (And.intro (HKL.out.mono hbx) (And.intro (HZL.out.below hbx) (HBL.out.trans (hbx.mono hsl)))))
            have HD' := hide hD'
            clear hbx hD' HVL HKL HZL HBL
            go_wp2
            go_roundw
            case rel => exact ⟨j + 1, pt, cd, al, true, s', by omega, by omega, by have := HN2.out; omega, by go_num, rfl, rfl, rfl, HE.out.1, HE.out.2.1, HD'.out, HE.out.2.2.1, HE.out.2.2.2⟩
            case measure => simp [intOf]; omega
          · obtain ⟨g2, o2, q2, ha2, hq2, -, -, -, y3, -⟩ := lies_get HLI2.out (n2 - 1) (by have := HN2.out; omega)
            subst ha2
            have hq23 : q2 3 = (n2 : Int) := by
              have := seqs_last HSQ.out (by rw [HN2.out]; exact hq2)
              rw [HN2.out] at this
              exact this
            obtain ⟨m2, hm2⟩ : ∃ m2, m2 = n2 - 1 := ⟨_, rfl⟩
            have hs2 : ((n2 : Nat) : Int) - 1 = ((m2 : Nat) : Int) := by omega
            have hm2n : m2 < n2 := by omega
            have hz2n : (((n2 : Nat) : Int) == 0) = false := by simp; omega
            have hz2m : (n2 == 0) = false := by simp; omega
            rw [← hm2] at y3
            have hqb : 0 ≤ q2 3 ∧ q2 3 ≤ 100 := by omega
            generalize q1 3 = y1 at *
            generalize q2 3 = y2 at *
            clear hq1 hq2 hq23 hm1 hm2 hn0 hn20
            by_cases hyy : y1 = y2 + 1
            · have hye : (y1 == y2 + 1) = true := by simp [hyy]
              clear hyy
              go_upto_region 19 with fail
              go_cut [18] from 51 to 139 (fun v wx => v = .bool true ∧ Below wl.heap.size wl wx)
              case first =>
                go_wp2_with fail
                go_region
                all_goals
                  go_wp2_with fail
                  go_meet
                  exact ⟨rfl, (Below.refl _ _).trans ⟨rfl, rfl, rfl, Nat.le_refl _, fun _ _ => rfl⟩⟩
              case rest =>
              obtain ⟨rfl, hbx⟩ := hcut
              have HE := hide (And.intro (HVL.out.below hbx) (And.intro (HKL.out.mono hbx) (And.intro (HZL.out.below hbx) (HBL.out.trans (hbx.mono hsl)))))
              have HD' := hide hD'
              clear hbx hD' HVL HKL HZL HBL
              go_wp2
              go_roundw
              case rel => exact ⟨j + 1, pt, cd, al, true, s', by omega, by omega, by have := HN2.out; omega, by go_num, rfl, rfl, rfl, HE.out.1, HE.out.2.1, HD'.out, HE.out.2.2.1, HE.out.2.2.2⟩
              case measure => simp [intOf]; omega
            · have hye : (y1 == y2 + 1) = false := by simp [hyy]
              clear hyy
              go_upto_region 19 with fail
              go_cut [18] from 51 to 139 (fun v wx => v = .bool false ∧ Below wl.heap.size wl wx)
              case first =>
                go_wp2_with fail
                go_region
                all_goals
                  go_wp2_with fail
                  go_meet
                  exact ⟨rfl, (Below.refl _ _).trans ⟨rfl, rfl, rfl, Nat.le_refl _, fun _ _ => rfl⟩⟩
              case rest =>
              obtain ⟨rfl, hbx⟩ := hcut
              have HE := hide (And.intro (HVL.out.below hbx) (And.intro (HKL.out.mono hbx) (And.intro (HZL.out.below hbx) (HBL.out.trans (hbx.mono hsl)))))
              have HD' := hide hD'
              clear hbx hD' HVL HKL HZL HBL
              go_wp2
              go_roundw
              case rel => exact ⟨j + 1, pt, cd, al, true, s', by omega, by omega, by have := HN2.out; omega, by go_num, rfl, rfl, rfl, HE.out.1, HE.out.2.1, HD'.out, HE.out.2.2.1, HE.out.2.2.2⟩
              case measure => simp [intOf]; omega
    · have hcase : ((decide ((j : Int) < (nl : Nat)) = false ∧ ¬ j < nl)) ∨ ((decide ((j : Int) < (nl : Nat)) = true ∧ decide ((j : Int) < 60) = false) ∧ j < nl ∧ ¬ j < 60) ∨ ((decide ((j : Int) < (nl : Nat)) = true ∧ decide ((j : Int) < 60) = true) ∧ (j < nl ∧ j < 60) ∧ lost = true) := by
        by_cases h1 : j < nl
        · by_cases h2 : j < 60
          · refine .inr (.inr ⟨⟨by simp; omega, by simp; omega⟩, ⟨h1, h2⟩, ?_⟩)
            cases lost
            · exact absurd ⟨h1, h2, rfl⟩ hgo
            · rfl
          · exact .inr (.inl ⟨⟨by simp; omega, by simp; omega⟩, h1, h2⟩)
        · exact .inl ⟨by simp; omega, h1⟩
      obtain ⟨hsq, hend⟩ := HD.out.ends
      have HEN := hide (And.intro hsq hend)
      have HRE := hide HK.out.restore
      clear hgo hsq hend HK HD
      rcases hcase with ⟨hd, hdn⟩ | ⟨⟨hd, hd2⟩, hdn, hdm⟩ | ⟨⟨hd, hd2⟩, ⟨hdn, hdm⟩, rfl⟩
      all_goals
        go_wp2_with fail
        refine HRE.out.mono ?_
        rintro e wm ⟨rfl, hkm, hbm, hkp⟩
        have hzm := HZ.out.keeps hkp
        have hBm := HB.out.trans hbm
        have HBO := hide (kboot2 w.heap.size w.heap.size vz zs g s.2.restore wm hzm HZ1.out.1 HZ1.out.2 hkm.kn.mo.fl hkm.kn.mo.flok hg' hBm.size (by rw [HPZ.out]))
        rw [HPZ.out] at HBO
        have HVM := hide (HV.out.keeps hkp)
        have HBM := hide hBm
        have hsm := hBm.size
        clear hkm hbm hkp hzm hBm HRE HZ HB HV
        go_wp2_with fail
        refine HBO.out.mono ?_
        rintro e wn ⟨kb', L', rfl, hkn, hbn⟩
        have HVN := hide (HVM.out.below hbn)
        have HBN : Hid (Below w.heap.size w wn) := HBM.out.trans (hbn.mono hsm)
        have hsn := HBN.out.size
        have HL := hide hkn.log
        clear hkn hbn HBO HVM HBM
        go_wp2_with fail
        refine HL.out.mono ?_
        rintro e wl ⟨vl, rfl, hvl, -, hbl⟩
        have hBl : Below w.heap.size w wl := HBN.out.trans (hbl.mono hsn)
        obtain ⟨ad1, c1, hv1, hcap1, hli1⟩ := hvl.whole
        subst hv1
        have hli2 : Lies wl ad2 al := by
          obtain ⟨ad, c, hv, _, h⟩ := (HVN.out.below hbl).whole
          rw [HN2.out] at hv
          cases hv
          exact h
        have HPI := hide (kpiece_any ad1 ad2 c1 c2 (logOf s.2.bs) al pt0 cd0 wl (by have := HN2.out; omega) hcap1 (by have := HN2.out; omega) hli1 hli2 HEN.out.1 HEN.out.2)
        rw [HN2.out] at HPI
        have hl14 := logOf_le s.2.bs
        have hmin : min al.length 7 ≤ (logOf s.2.bs).length := by
          obtain ⟨pre, X, h1, h2, h3⟩ := HEN.out.2
          rcases h3 with h3 | ⟨r, h3, -⟩
          · rw [h3]; exact h2
          · rw [h3, List.length_append]; omega
        obtain ⟨n1, hn1⟩ : ∃ n1, n1 = (logOf s.2.bs).length := ⟨_, rfl⟩
        have hn1' : (logOf s.2.restore.bs).length = n1 := hn1.symm
        rw [hn1']
        rw [← hn1] at HPI hmin hl14
        rw [HN2.out] at hmin
        have hge : decide (min ((n2 : Nat) : Int) 7 ≤ ((n1 : Nat) : Int)) = true := by simp; omega
        have HBl := hide hBl
        clear hvl hbl hBl hli1 hli2 hn1 hn1' HL HVN HBN
        go_wp2_with fail
        refine HPI.out.mono ?_
        rintro e wp ⟨rfl, hbp⟩
        have HBp : Hid (Below w.heap.size w wp) := HBl.out.trans (hbp.mono HBl.out.size)
        clear hbp HPI hge
        by_cases h7 : n2 ≤ 7
        · have hm7 : min ((n2 : Nat) : Int) 7 = ((n2 : Nat) : Int) := by omega
          have hge : decide (((n2 : Nat) : Int) ≤ ((n1 : Nat) : Int)) = true := by simp; omega
          have hge2 : decide (n2 ≤ n1) = true := by simp; omega
          go_wp2
          go_ret
          exact ⟨rfl, HBp.out⟩
        · have hm7 : min ((n2 : Nat) : Int) 7 = 7 := by omega
          have hge : decide ((7 : Int) ≤ ((n1 : Nat) : Int)) = true := by simp; omega
          have hge2 : decide (7 ≤ n1) = true := by simp; omega
          go_wp2
          go_ret
          exact ⟨rfl, HBp.out⟩
end Go.Proofs.YtnjlbgolnbdkaaaGreat
