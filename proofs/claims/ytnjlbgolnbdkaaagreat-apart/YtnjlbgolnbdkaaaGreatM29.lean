/- Texts of the proof of Apart, one behind the other. -/
import Derived.Test.YtnjlbgolnbdkaaaGreatM28
/- Apart: the walk. -/
namespace Go.Proofs.YtnjlbgolnbdkaaaGreat
open Go.RowKit

theorem partK_len (limit : Int) (acts one two : List Int) : 14 ≤ (partK limit acts one two).length ∧ (partK limit acts one two).length ≤ 94 := by
  have h1 := codeK_len one
  have h2 := codeK_len two
  unfold partK
  rw [List.length_append, List.length_append, actsK_len]
  simp only [List.length_cons, List.length_nil]
  split
  · rw [List.length_append]
    simp only [List.length_cons, List.length_nil]
    omega
  · rw [List.length_append, List.length_append]
    simp only [List.length_cons, List.length_nil]
    omega
theorem parse_AK (w : Int) (l1 l2 : Int) (a1 o1 t1 a2 o2 t2 : List Int) (hw : 0 ≤ w ∧ w ≤ 200) (h1 : 0 ≤ l1 ∧ l1 ≤ 9) (h2 : 0 ≤ l2 ∧ l2 ≤ 9) : parseOf (configK w [partK l1 a1 o1 t1, partK l2 a2 o2 t2] 3) = (cfX w (ptK l1 a1 o1 t1) (ptK l2 a2 o2 t2), 0, 0) := by
  rw [← enc_part, ← enc_part]
  exact parse_X w _ _ hw (ptK_fit l1 a1 o1 t1 h1) (ptK_fit l2 a2 o2 t2 h2)
theorem config2_len (w : Int) (p q : List Int) : (configK w [p, q] 3).length = 16 + p.length + q.length := by
  rw [configK_len]
  simp only [List.flatten_cons, List.flatten_nil, List.length_append, List.length_nil, List.length_cons]
  omega

theorem own_states {w : World} {base b c n : Nat} {l : List RProc} (h : w.ownsRow base 47 3 (.slice (some ⟨b, 0, none⟩) n c) n (l.flatMap stateCells)) (i : Nat) (hi : i < l.length) : w.cell? ⟨b, i * 3, none⟩ = some (.int .i64 (l.getD i default).next) ∧ w.cell? ⟨b, i * 3 + 1, none⟩ = some (.int .i64 (l.getD i default).acc) ∧ w.cell? ⟨b, i * 3 + 2, none⟩ = some (.bool (l.getD i default).stopped) := by
  have key : ∀ f, f < 3 → w.cell? ⟨b, i * 3 + f, none⟩ = (stateCells (l.getD i default))[f]? := fun f hf => by
    have e1 : (l.flatMap stateCells)[i * 3 + f]? = (stateCells (l.getD i default))[f]? := by
      clear h
      induction l generalizing i with
      | nil => simp at hi
      | cons x l ih =>
        rw [List.flatMap_cons]
        cases i with
        | zero =>
          rw [List.getElem?_append_left (by simp [stateCells]; omega)]
          simp
        | succ i =>
          rw [List.getElem?_append_right (by simp [stateCells]; omega)]
          have := ih i (by simpa using hi)
          rw [show (i + 1) * 3 + f - (stateCells x).length = i * 3 + f by simp [stateCells]; omega, this]
          rfl
    have hs : ∃ u, (stateCells (l.getD i default))[f]? = some u := by
      have : f < (stateCells (l.getD i default)).length := by simp [stateCells]; omega
      exact ⟨_, List.getElem?_eq_getElem this⟩
    obtain ⟨u, hu⟩ := hs
    have h2 := h.cells (g := b) rfl (i * 3 + f) u (e1.trans hu)
    have e2 : (⟨b, 0, none⟩ : Addr).add (i * 3 + f) = ⟨b, 0 + (i * 3 + f), none⟩ := by unfold Addr.add; split <;> simp_all
    rw [e2, Nat.zero_add] at h2
    rw [h2, hu]
  exact ⟨key 0 (by omega), key 1 (by omega), key 2 (by omega)⟩

set_option maxRecDepth 100000 in
set_option maxHeartbeats 4000000 in
theorem apart_walk (a0 a1 : Int) (v2 v3 v4 v5 v6 v7 v8 v9 : Value) (l2 l3 l4 l6 l7 l9 : List Int) (B5 B8 : List Bw) (h0 : -9223372036854775808 ≤ a0 ∧ a0 ≤ 9223372036854775807) (h1 : -9223372036854775808 ≤ a1 ∧ a1 ≤ 9223372036854775807) (w : World)
    (h2 : Ints w v2 l2) (h3 : Ints w v3 l3) (h4 : Ints w v4 l4) (h5 : Blows w v5 B5) (h6 : Ints w v6 l6) (h7 : Ints w v7 l7) (h8 : Blows w v8 B8) (h9 : Ints w v9 l9) :
    Calls Tryz.prog 7 #[.int .i64 a0, .int .i64 a1, v2, v3, v4, v5, v6, v7, v8, v9] w fun e w' => e = .returned (.bool true) ∧ Below w.heap.size w w' := by
  have HAW := hide (kawake_any w)
  have HP0 : Hid (∀ W, Calls Tryz.prog 17 #[.int .i64 a0, .int .i64 10] W fun e w' => e = .returned (.int .i64 (pickOf a0 10)) ∧ w' = W) := fun W => kpick_any a0 10 W h0.1 h0.2 (by omega) (by omega)
  have HP1 : Hid (∀ W, Calls Tryz.prog 17 #[.int .i64 a1, .int .i64 40] W fun e w' => e = .returned (.int .i64 (pickOf a1 40)) ∧ w' = W) := fun W => kpick_any a1 40 W h1.1 h1.2 (by omega) (by omega)
  have hp0 := pickOf_nonneg a0 10 (by omega)
  have hq0 := pickOf_lt a0 10 (by omega)
  have hp1 := pickOf_nonneg a1 40 (by omega)
  have hq1 := pickOf_lt a1 40 (by omega)
  generalize pickOf a0 10 = lim at *
  generalize pickOf a1 40 = wt at *
  have H2 := hide h2
  have H3 := hide h3
  have H4 := hide h4
  have H5 := hide h5
  have H6 := hide h6
  have H7 := hide h7
  have H8 := hide h8
  have H9 := hide h9
  clear h0 h1 h2 h3 h4 h5 h6 h7 h8 h9
  go_enter Tryz.func7, Tryz.ntmps7
  go_wp2_with fail
  refine HAW.out.mono ?_
  rintro e w1 ⟨rfl, hb1⟩
  have hs1 := hb1.size
  have HB1 := hide hb1
  clear hb1 HAW
  have HPA := hide (kpart_any lim v2 v3 v4 l2 l3 l4 w1 (by omega) (H2.out.below HB1.out (Nat.le_refl _)) (H3.out.below HB1.out (Nat.le_refl _)) (H4.out.below HB1.out (Nat.le_refl _)))
  go_wp2_with fail
  refine (HP0.out w1).mono ?_
  rintro e w9 ⟨rfl, rfl⟩
  go_wp2_with fail
  refine HPA.out.mono ?_
  rintro e w2 ⟨vp, rfl, hP2, hb2⟩
  have hlp := partK_len lim l2 l3 l4
  obtain ⟨gp, cp, hvp, -, -, -⟩ := hP2.row (by omega)
  subst hvp
  have HB2 : Hid (Below w.heap.size w w2) := HB1.out.trans (hb2.mono hs1)
  have hs2 := HB2.out.size
  have HPP := hide (hP2.low hs1)
  have HPB := hide (kpart_any 3 v9 v6 v7 l9 l6 l7 w2 (by omega) (H9.out.below HB2.out (Nat.le_refl _)) (H6.out.below HB2.out (Nat.le_refl _)) (H7.out.below HB2.out (Nat.le_refl _)))
  obtain ⟨zp, hzp⟩ : ∃ zp, zp = partK lim l2 l3 l4 := ⟨_, rfl⟩
  have HZP := hide hzp
  rw [← hzp] at hlp HPP
  obtain ⟨np, hnp⟩ : ∃ np, np = zp.length := ⟨_, rfl⟩
  have HNP := hide hnp.symm
  rw [← hnp] at hlp HPP
  rw [← hzp, ← hnp]
  clear hP2 hb2 HPA hzp hnp HP0
  go_wp2_with fail
  refine (HP1.out w2).mono ?_
  rintro e w8 ⟨rfl, rfl⟩
  go_wp2_with fail
  refine HPB.out.mono ?_
  rintro e w3 ⟨vq, rfl, hQ3, hb3⟩
  have hlq := partK_len 3 l9 l6 l7
  obtain ⟨gq, cq, hvq, -, -, -⟩ := hQ3.row (by omega)
  subst hvq
  have HP3 := hide (HPP.out.below hb3)
  have HB3 : Hid (Below w.heap.size w w3) := HB2.out.trans (hb3.mono hs2)
  have hs3 := HB3.out.size
  obtain ⟨zq, hzq⟩ : ∃ zq, zq = partK 3 l9 l6 l7 := ⟨_, rfl⟩
  have HZQ := hide hzq
  rw [← hzq] at hlq hQ3
  obtain ⟨nq, hnq⟩ : ∃ nq, nq = zq.length := ⟨_, rfl⟩
  have HNQ := hide hnq.symm
  rw [← hnq] at hlq hQ3
  rw [← hzq, ← hnq]
  have hrw := rows_two HP3.out (hQ3.low hs2) HNP.out HNQ.out (by omega) (by omega)
  obtain ⟨w4, hw4⟩ : ∃ w4, w4 = w3.alloc (.cells #[.slice (some ⟨gp, 0, none⟩) np cp, .slice (some ⟨gq, 0, none⟩) nq cq] 22) := ⟨_, rfl⟩
  rw [← hw4] at hrw
  have hb4 : Below w3.heap.size w3 w4 := by rw [hw4]; exact (Below.refl _ _).alloc (Nat.le_refl _) _
  have HB4 : Hid (Below w.heap.size w w4) := HB3.out.trans (hb4.mono hs3)
  have hs4 := HB4.out.size
  have HP4 := hide (HP3.out.below hb4)
  have HC := hide (kconfig_any wt _ [zp, zq] 3 w4 (by omega) (by omega) hrw)
  have HPZ : Hid (parseOf (configK wt [zp, zq] 3) = (cfX wt (ptK lim l2 l3 l4) (ptK 3 l9 l6 l7), 0, 0)) := by rw [HZP.out, HZQ.out]; exact parse_AK wt lim 3 l2 l3 l4 l9 l6 l7 (by omega) (by omega) (by omega)
  have HZL := hide (config2_len wt zp zq)
  rw [HNP.out, HNQ.out] at HZL
  have HW4 := hide hw4
  generalize configK wt [zp, zq] 3 = zs at *
  clear hQ3 hb3 hrw hw4 hb4 HPB hzq hnq HPP HP3
  go_wp2_with fail
  rw [← HW4.out]
  refine HC.out.mono ?_
  rintro e w5 ⟨v5', rfl, hC5, hb5⟩
  have HB5 : Hid (Below w.heap.size w w5) := HB4.out.trans (hb5.mono hs4)
  have hs5 := HB5.out.size
  have HP5 := hide (HP4.out.below hb5)
  have HSU := hide (ksuffers_any w4.heap.size v5' v5 v8 zs B5 B8 wt (ptK lim l2 l3 l4) (ptK 3 l9 l6 l7) w5 hC5 (by rw [HZL.out]; omega) (by rw [HZL.out]; omega) HPZ.out (H5.out.below HB5.out (Nat.le_refl _)) (H8.out.below HB5.out (Nat.le_refl _)) (ptK_alone _ _ _ _) (ptK_alone _ _ _ _) (ptK_many _ _ _ _) (ptK_many _ _ _ _))
  clear hC5 hb5 HC HP4 HZL HPZ
  go_wp2_with fail
  refine HSU.out.mono ?_
  rintro e w6 ⟨ka, La, ga, sa, ca, rfl, hka, hia, hpa, hb6⟩
  have HKA := hide hka
  have HIA := hide hia
  have HQA := hide hpa
  have HP6 := hide (HP5.out.below hb6)
  have HB6 : Hid (Below w.heap.size w w6) := HB5.out.trans (hb6.mono hs5)
  have hs6 := HB6.out.size
  clear hka hia hpa hb6 HSU HP5
  have HPC := hide (kpart_any 0 (.slice none 0 0) (.slice none 0 0) (.slice none 0 0) [] [] [] w6 (by omega) (Ints.nil _ _ _) (Ints.nil _ _ _) (Ints.nil _ _ _))
  go_wp2_with fail
  refine HPC.out.mono ?_
  rintro e w7 ⟨vr, rfl, hR7, hb7⟩
  have hlr := partK_len 0 [] [] []
  obtain ⟨gr, cr, hvr, -, -, -⟩ := hR7.row (by omega)
  subst hvr
  have HP7 := hide (HP6.out.below hb7)
  have HKA7 := hide (HKA.out.mono hb7)
  have HB7 : Hid (Below w.heap.size w w7) := HB6.out.trans (hb7.mono hs6)
  have hs7 := HB7.out.size
  obtain ⟨zr, hzr⟩ : ∃ zr, zr = partK 0 [] [] [] := ⟨_, rfl⟩
  have HZR := hide hzr
  rw [← hzr] at hlr hR7
  obtain ⟨nr, hnr⟩ : ∃ nr, nr = zr.length := ⟨_, rfl⟩
  have HNR := hide hnr.symm
  rw [← hnr] at hlr hR7
  rw [← hzr, ← hnr]
  have hrw := rows_two HP7.out (hR7.low hs6) HNP.out HNR.out (by omega) (by omega)
  obtain ⟨wa, hwa⟩ : ∃ wa, wa = w7.alloc (.cells #[.slice (some ⟨gp, 0, none⟩) np cp, .slice (some ⟨gr, 0, none⟩) nr cr] 22) := ⟨_, rfl⟩
  rw [← hwa] at hrw
  have hba : Below w7.heap.size w7 wa := by rw [hwa]; exact (Below.refl _ _).alloc (Nat.le_refl _) _
  have HBA : Hid (Below w.heap.size w wa) := HB7.out.trans (hba.mono hs7)
  have hsa := HBA.out.size
  have HKB := hide (HKA7.out.mono hba)
  have HC := hide (kconfig_any wt _ [zp, zr] 3 wa (by omega) (by omega) hrw)
  have HPZ : Hid (parseOf (configK wt [zp, zr] 3) = (cfX wt (ptK lim l2 l3 l4) (ptK 0 [] [] []), 0, 0)) := by rw [HZP.out, HZR.out]; exact parse_AK wt lim 0 l2 l3 l4 [] [] [] (by omega) (by omega) (by omega)
  have HZL := hide (config2_len wt zp zr)
  rw [HNP.out, HNR.out] at HZL
  have HWA := hide hwa
  generalize configK wt [zp, zr] 3 = zs2 at *
  clear hR7 hb7 hrw hwa hba HPC hzr hnr HP6 HP7 HKA HKA7
  go_wp2_with fail
  rw [← HWA.out]
  refine HC.out.mono ?_
  rintro e wb ⟨vb, rfl, hCb, hbb⟩
  have HBB : Hid (Below w.heap.size w wb) := HBA.out.trans (hbb.mono hsa)
  have hsb := HBB.out.size
  have HKC := hide (HKB.out.mono hbb)
  have HSU := hide (ksuffers_any wa.heap.size vb v5 (.slice none 0 0) zs2 B5 [] wt (ptK lim l2 l3 l4) (ptK 0 [] [] []) wb hCb (by rw [HZL.out]; omega) (by rw [HZL.out]; omega) HPZ.out (H5.out.below HBB.out (Nat.le_refl _)) (Blows.nil _ _ _) (ptK_alone _ _ _ _) (ptK_alone _ _ _ _) (ptK_many _ _ _ _) (ptK_many _ _ _ _))
  clear hCb hbb HC HKB HZL HPZ
  go_wp2_with fail
  refine HSU.out.mono ?_
  rintro e wc ⟨kb, Lb, gb, sb, cb, rfl, hkb, hib, hpb, hbc⟩
  have HKD := hide (HKC.out.mono hbc)
  have HKE := hide hkb
  have HPI : Hid (PiOf 0 sa = PiOf 0 sb) := HQA.out.trans hpb.symm
  have HLA : Hid (0 < sa.1.parts.length) := by rw [HIA.out.len]; exact (by omega : 0 < 2)
  have HLB : Hid (0 < sb.1.parts.length) := by rw [hib.len]; exact (by omega : 0 < 2)
  have HWL : Hid ((sb.1.part 0).words.length = 4) := by
    have := (hkb.run.2.part 0 (by rw [hib.len]; omega)).1
    rw [hib.cf] at this
    exact this
  have HPL := hide (hib.pl 0 (by omega))
  have HBC : Hid (Below w.heap.size w wc) := HBB.out.trans (hbc.mono hsb)
  have hsc := HBC.out.size
  have hsbc := hbc.size
  have HL := hide (HKD.out.look 0 HLA.out)
  clear hkb hib hpb hbc HSU HKC HQA HIA H2 H3 H4 H5 H6 H7 H8 H9
  go_wp2_with fail
  refine HL.out.mono ?_
  rintro e wd ⟨vd, rfl, hvd, hkd, hbd⟩
  have HKF := hide (HKE.out.mono hbd)
  obtain ⟨y1, d1, y2, d2, rfl, hw1, hs1'⟩ := hvd
  have hpi1 : sa.1.part 0 = sb.1.part 0 := congrArg Prod.fst HPI.out
  have hpi2 : restartsOf sa.2.bs 0 = restartsOf sb.2.bs 0 := congrArg (fun x => x.2.2) HPI.out
  rw [hpi1] at hw1 hs1'
  rw [hpi1, hpi2]
  have HBD : Hid (Below w.heap.size w wd) := HBC.out.trans (hbd.mono hsc)
  have hsd := HBD.out.size
  have hwl := HWL.out
  have hpl := HPL.out
  clear HKE HKD HL hkd hbd hpi1 hpi2 HPI
  obtain ⟨rs, hrs⟩ : ∃ rs, rs = restartsOf sb.2.bs 0 := ⟨_, rfl⟩
  rw [← hrs]
  have HRS := hide hrs
  clear hrs
  obtain ⟨P, hP⟩ : ∃ P, P = sb.1.part 0 := ⟨_, rfl⟩
  rw [← hP] at hw1 hs1' hwl hpl
  rw [← hP]
  obtain ⟨md, ws, prs, wch⟩ := P
  simp only at hw1 hs1' hwl hpl ⊢
  have HW1 : Hid (∀ i, i < 4 → wd.cell? ⟨y1, i, none⟩ = some (.int .i64 (ws.getD i 0))) := fun i hi => own_ints hw1 i (by omega)
  have HS1 := hide (own_states hs1')
  rw [hwl]
  obtain ⟨nn, hnn⟩ : ∃ nn, nn = prs.length := ⟨_, rfl⟩
  have HNN := hide hnn
  rw [← hnn] at hpl HS1
  rw [← hnn]
  have hly1 := (World.ownsRow.lt hw1 y1 rfl).2
  have hly2 := (World.ownsRow.lt hs1' y2 rfl).2
  have HPQ := hide hP
  clear hP hw1 hs1' hnn HWL HPL
  obtain ⟨we, hwe⟩ : ∃ we, we = wd.alloc (.cells #[.int .i64 md, .int .i64 rs, .slice (some ⟨y1, 0, none⟩) 4 d1, .slice (some ⟨y2, 0, none⟩) nn d2] 43) := ⟨_, rfl⟩
  have hbe : Below wd.heap.size wd we := by rw [hwe]; exact (Below.refl _ _).alloc (Nat.le_refl _) _
  have HCE : Hid (we.heap[wd.heap.size]? = some (.cells #[.int .i64 md, .int .i64 rs, .slice (some ⟨y1, 0, none⟩) 4 d1, .slice (some ⟨y2, 0, none⟩) nn d2] 43 (0, 0))) := by rw [hwe]; exact heap_alloc_new wd _
  have HBE : Hid (Below w.heap.size w we) := HBD.out.trans (hbe.mono hsd)
  have hse := HBE.out.size
  have HW2 : Hid (∀ i, i < 4 → we.cell? ⟨y1, i, none⟩ = some (.int .i64 (ws.getD i 0))) := fun i hi => (hbe.cell (p := ⟨y1, i, none⟩) hly1).trans (HW1.out i hi)
  have HS2 : Hid (∀ o, we.cell? ⟨y2, o, none⟩ = wd.cell? ⟨y2, o, none⟩) := fun o => hbe.cell (p := ⟨y2, o, none⟩) hly2
  have hle := hbe.size
  have hkg := HKF.out.mono hbe
  have HL3 := hide (hkg.look 0 HLB.out)
  rw [← HPQ.out, ← HRS.out] at HL3
  have HWE := hide hwe
  clear hwe hbe HKF hkg
  go_wp2_with fail
  rw [← HWE.out]
  refine HL3.out.mono ?_
  rintro e wf ⟨vf, rfl, hvf, -, hbf⟩
  obtain ⟨y3, d3, y4, d4, rfl, hw3, hs3'⟩ := hvf
  simp only at hw3 hs3' ⊢
  rw [hwl] at hw3 ⊢
  rw [← HNN.out] at hs3' ⊢
  have HBF : Hid (Below w.heap.size w wf) := HBE.out.trans (hbf.mono hse)
  have hsf := HBF.out.size
  have HW3 : Hid (∀ i, i < 4 → wf.cell? ⟨y3, i, none⟩ = some (.int .i64 (ws.getD i 0))) := fun i hi => own_ints hw3 i (by omega)
  have HS3 := hide (own_states hs3')
  have hly3 := (World.ownsRow.lt hw3 y3 rfl).2
  have hly4 := (World.ownsRow.lt hs3' y4 rfl).2
  have HCF := hide (keepB hbf HCE.out)
  obtain ⟨wg, hwg⟩ : ∃ wg, wg = wf.alloc (.cells #[.int .i64 md, .int .i64 rs, .slice (some ⟨y3, 0, none⟩) 4 d3, .slice (some ⟨y4, 0, none⟩) nn d4] 43) := ⟨_, rfl⟩
  have hbg : Below wf.heap.size wf wg := by rw [hwg]; exact (Below.refl _ _).alloc (Nat.le_refl _) _
  have HC1 := hide (keepB hbg HCF.out)
  have HC2 : Hid (wg.heap[wf.heap.size]? = some (.cells #[.int .i64 md, .int .i64 rs, .slice (some ⟨y3, 0, none⟩) 4 d3, .slice (some ⟨y4, 0, none⟩) nn d4] 43 (0, 0))) := by rw [hwg]; exact heap_alloc_new wf _
  have HBG : Hid (Below w.heap.size w wg) := HBF.out.trans (hbg.mono hsf)
  have hsg := HBG.out.size
  have hfe := hbf.size
  have HA : Hid (∀ i, i < 4 → wg.cell? ⟨y1, i, none⟩ = some (.int .i64 (ws.getD i 0))) := fun i hi => ((hbg.cell (p := ⟨y1, i, none⟩) (by show y1 < _; omega)).trans (hbf.cell (p := ⟨y1, i, none⟩) (by show y1 < _; omega))).trans (HW2.out i hi)
  have HB : Hid (∀ i, i < 4 → wg.cell? ⟨y3, i, none⟩ = some (.int .i64 (ws.getD i 0))) := fun i hi => (hbg.cell (p := ⟨y3, i, none⟩) hly3).trans (HW3.out i hi)
  have HY2 : Hid (∀ i, i < nn → wg.cell? ⟨y2, i * 3, none⟩ = some (.int .i64 (prs.getD i default).next) ∧ wg.cell? ⟨y2, i * 3 + 1, none⟩ = some (.int .i64 (prs.getD i default).acc) ∧ wg.cell? ⟨y2, i * 3 + 2, none⟩ = some (.bool (prs.getD i default).stopped)) := fun i hi => by
    have hx : ∀ o, wg.cell? ⟨y2, o, none⟩ = wd.cell? ⟨y2, o, none⟩ := fun o => ((hbg.cell (p := ⟨y2, o, none⟩) (by show y2 < _; omega)).trans (hbf.cell (p := ⟨y2, o, none⟩) (by show y2 < _; omega))).trans (HS2.out o)
    rw [hx, hx, hx]
    exact HS1.out i hi
  have HY4 : Hid (∀ i, i < nn → wg.cell? ⟨y4, i * 3, none⟩ = some (.int .i64 (prs.getD i default).next) ∧ wg.cell? ⟨y4, i * 3 + 1, none⟩ = some (.int .i64 (prs.getD i default).acc) ∧ wg.cell? ⟨y4, i * 3 + 2, none⟩ = some (.bool (prs.getD i default).stopped)) := fun i hi => by
    have hx : ∀ o, wg.cell? ⟨y4, o, none⟩ = wf.cell? ⟨y4, o, none⟩ := fun o => hbg.cell (p := ⟨y4, o, none⟩) hly4
    rw [hx, hx, hx]
    exact HS3.out i (by rw [← HNN.out]; exact hi)
  have HSI := hide (ksame_any y1 y3 d1 d3 4 ws wg (by omega) HA.out HB.out)
  have a2 : (wf.alloc (.cells #[.int .i64 md, .int .i64 rs, .slice (some ⟨y3, 0, none⟩) 4 d3, .slice (some ⟨y4, 0, none⟩) nn d4] 43)).cell? ⟨wd.heap.size, 2, none⟩ = some (.slice (some ⟨y1, 0, none⟩) 4 d1) := by rw [← hwg, cell_of_row _ _ _ _ _ _ HC1.out]; rfl
  have b2' : (wf.alloc (.cells #[.int .i64 md, .int .i64 rs, .slice (some ⟨y3, 0, none⟩) 4 d3, .slice (some ⟨y4, 0, none⟩) nn d4] 43)).cell? ⟨wf.heap.size, 2, none⟩ = some (.slice (some ⟨y3, 0, none⟩) 4 d3) := by rw [← hwg, cell_of_row _ _ _ _ _ _ HC2.out]; rfl
  have HWG := hide hwg
  clear hw3 hs3' hbf hwg hbg HL3 HCE HCF HW1 HW2 HW3 HS1 HS2 HS3
  go_wp2_with fail
  rw [← HWG.out]
  refine HSI.out.mono ?_
  rintro e wh ⟨rfl, hbh⟩
  have HBH := hide hbh
  have hsh := hbh.size
  have hC1 := keepB hbh HC1.out
  have hC2 := keepB hbh HC2.out
  have p0 : wh.cell? ⟨wd.heap.size, 0, none⟩ = some (.int .i64 md) := by rw [cell_of_row _ _ _ _ _ _ hC1]; rfl
  have p1 : wh.cell? ⟨wd.heap.size, 1, none⟩ = some (.int .i64 rs) := by rw [cell_of_row _ _ _ _ _ _ hC1]; rfl
  have p3 : wh.cell? ⟨wd.heap.size, 3, none⟩ = some (.slice (some ⟨y2, 0, none⟩) nn d2) := by rw [cell_of_row _ _ _ _ _ _ hC1]; rfl
  have q0 : wh.cell? ⟨wf.heap.size, 0, none⟩ = some (.int .i64 md) := by rw [cell_of_row _ _ _ _ _ _ hC2]; rfl
  have q1 : wh.cell? ⟨wf.heap.size, 1, none⟩ = some (.int .i64 rs) := by rw [cell_of_row _ _ _ _ _ _ hC2]; rfl
  have q3 : wh.cell? ⟨wf.heap.size, 3, none⟩ = some (.slice (some ⟨y4, 0, none⟩) nn d4) := by rw [cell_of_row _ _ _ _ _ _ hC2]; rfl
  have HD1 := hide hC1
  have HD2 := hide hC2
  have HGY : Hid (y2 < wg.heap.size ∧ y4 < wg.heap.size ∧ wd.heap.size < wh.heap.size ∧ wf.heap.size < wh.heap.size) := ⟨by
    have := lt_of_cell (HY2.out 0 (by omega)).1
    exact this, by
    have := lt_of_cell (HY4.out 0 (by omega)).1
    exact this, lt_of_block hC1, lt_of_block hC2⟩
  clear hC1 hC2 hbh HSI
  go_wp2_with fail
  go_loopw [33, 34] (fun v t wr => v = .bool true ∧ ∃ k : Nat, k ≤ nn ∧ t = .int .i64 k ∧ Below wh.heap.size wh wr) (fun _ t _ => nn - (intOf t).toNat)
  case atStart => exact ⟨rfl, 0, by omega, rfl, Below.refl _ _⟩
  case round =>
    obtain ⟨rfl, k, hk, rfl, hB⟩ := hrel
    have hD1 := keepB hB HD1.out
    have hD2 := keepB hB HD2.out
    have r3 : wr.cell? ⟨wd.heap.size, 3, none⟩ = some (.slice (some ⟨y2, 0, none⟩) nn d2) := by rw [cell_of_row _ _ _ _ _ _ hD1]; rfl
    have t3 : wr.cell? ⟨wf.heap.size, 3, none⟩ = some (.slice (some ⟨y4, 0, none⟩) nn d4) := by rw [cell_of_row _ _ _ _ _ _ hD2]; rfl
    have HBR : Hid (Below w.heap.size w wr) := (HBG.out.trans (HBH.out.mono hsg)).trans (hB.mono (by omega))
    by_cases hlt : k < nn
    · have hx2 : ∀ o, wr.cell? ⟨y2, o, none⟩ = wg.cell? ⟨y2, o, none⟩ := fun o => (hB.cell (p := ⟨y2, o, none⟩) (by have := HGY.out.1; show y2 < _; omega)).trans (HBH.out.cell (p := ⟨y2, o, none⟩) HGY.out.1)
      have hx4 : ∀ o, wr.cell? ⟨y4, o, none⟩ = wg.cell? ⟨y4, o, none⟩ := fun o => (hB.cell (p := ⟨y4, o, none⟩) (by have := HGY.out.2.1; show y4 < _; omega)).trans (HBH.out.cell (p := ⟨y4, o, none⟩) HGY.out.2.1)
      have u0 := (hx2 _).trans (HY2.out k hlt).1
      have u1 := (hx2 _).trans (HY2.out k hlt).2.1
      have u2 := (hx2 _).trans (HY2.out k hlt).2.2
      have z0 := (hx4 _).trans (HY4.out k hlt).1
      have z1 := (hx4 _).trans (HY4.out k hlt).2.1
      have z2 := (hx4 _).trans (HY4.out k hlt).2.2
      have HB := hide hB
      generalize (prs.getD k default).next = x0 at *
      generalize (prs.getD k default).acc = x1 at *
      generalize (prs.getD k default).stopped = x2 at *
      have hd : decide ((k : Int) < (nn : Nat)) = true := by simp; omega
      clear hB hx2 hx4 hD1 hD2
      go_wp2_with fail
      go_region
      all_goals
        go_wp2
        go_roundw
        case rel => exact ⟨rfl, k + 1, by omega, by go_num, HB.out.trans ⟨rfl, rfl, rfl, Nat.le_refl _, fun _ _ => rfl⟩⟩
        case measure => simp [intOf]; omega
    · have hd : decide ((k : Int) < (nn : Nat)) = false := by simp; omega
      clear hB hD1 hD2
      go_wp2
      go_ret
      exact ⟨rfl, HBR.out⟩
end Go.Proofs.YtnjlbgolnbdkaaaGreat
