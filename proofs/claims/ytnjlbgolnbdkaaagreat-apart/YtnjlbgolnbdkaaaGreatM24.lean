/- Texts of the proofs of Watched and Clocked, one behind the other. -/
import Derived.Test.YtnjlbgolnbdkaaaGreatM23
/- Watched: the walk. -/
namespace Go.Proofs.YtnjlbgolnbdkaaaGreat
open Go.RowKit

theorem ptI_fit : PtFit ptI := ⟨by decide, by decide, rfl, by decide, by decide, by decide, fun q hq => by
  simp only [ptI, List.mem_cons, List.not_mem_nil, or_false] at hq
  subst hq
  exact ⟨by decide, by decide, by decide⟩⟩
theorem ptN_fit : PtFit ptN := ⟨by decide, by decide, rfl, by decide, by decide, by decide, fun q hq => by
  simp only [ptN, List.mem_cons, List.not_mem_nil, or_false] at hq
  subst hq
  exact ⟨by decide, by decide, by decide⟩⟩
theorem ptQ_fit : PtFit ptQ := ⟨by decide, by decide, rfl, by decide, by decide, by decide, fun q hq => by
  simp only [ptQ, List.mem_cons, List.not_mem_nil, or_false] at hq
  subst hq
  exact ⟨by decide, by decide, by decide⟩⟩
theorem ptP_fit (w : Nat) : PtFit (ptP w) := by
  unfold ptP
  split
  · exact ptN_fit
  · exact ptQ_fit
theorem parse_W (w : Nat) (hw : w ≤ 200) : parseOf (configK w [encPt ptI, encPt (ptP w)] 1) = (cfW w (ptP w), 0, 0) := by
  have := parse_config w [ptI, ptP w] 1 (by omega) (by omega) (by simp) (by simp) (fun p hp => by
    simp only [List.mem_cons, List.not_mem_nil, or_false] at hp
    rcases hp with rfl | rfl
    · exact ptI_fit
    · exact ptP_fit w)
  exact this
theorem encP_len (w : Nat) : 14 ≤ (encPt (ptP w)).length ∧ (encPt (ptP w)).length ≤ 18 := by
  unfold ptP
  split <;> decide
theorem bys_lit (w : World) (zs : List Int) (n : Nat) (hn : zs.length = n) (hm : n ≤ 1000) (hb : Bytes zs) : Bys w.heap.size (w.alloc (.cells (vals zs).toArray 5)) (.slice (some ⟨w.heap.size, 0, none⟩) n n) zs := by
  subst hn
  exact ⟨own_lit w zs _ rfl (by unfold maxLen; omega), hb⟩
theorem encI_bytes : Bytes (encPt ptI) := by
  intro z hz
  have : ∀ z ∈ encPt ptI, 0 ≤ z ∧ z < 256 := by decide
  exact this z hz
theorem encN_bytes : Bytes (encPt ptN) := by
  intro z hz
  have : ∀ z ∈ encPt ptN, 0 ≤ z ∧ z < 256 := by decide
  exact this z hz
theorem encQ_bytes : Bytes (encPt ptQ) := by
  intro z hz
  have : ∀ z ∈ encPt ptQ, 0 ≤ z ∧ z < 256 := by decide
  exact this z hz
theorem rows_two {w2 : World} {base g1 c1 g2 c2 n1 n2 : Nat} {p q : List Int} (h : Bys base w2 (.slice (some ⟨g1, 0, none⟩) n1 c1) p) (k : Bys base w2 (.slice (some ⟨g2, 0, none⟩) n2 c2) q) (hn1 : p.length = n1) (hn2 : q.length = n2) (h0 : 0 < n1 ∧ n1 ≤ 1000) (k0 : 0 < n2 ∧ n2 ≤ 1000) : Rows2 (w2.alloc (.cells #[.slice (some ⟨g1, 0, none⟩) n1 c1, .slice (some ⟨g2, 0, none⟩) n2 c2] 22)) (.slice (some ⟨w2.heap.size, 0, none⟩) 2 2) [p, q] := by
  subst hn1 hn2
  have hl := World.ownsRow.lt h.own g1 rfl
  have kl := World.ownsRow.lt k.own g2 rfl
  have hb : Below w2.heap.size w2 (w2.alloc (.cells #[.slice (some ⟨g1, 0, none⟩) p.length c1, .slice (some ⟨g2, 0, none⟩) q.length c2] 22)) := (Below.refl _ _).alloc (Nat.le_refl _) _
  refine ⟨by simp, fun r hr => ?_, w2.heap.size, 0, 2, rfl, by simp, fun i hi => ?_⟩
  · simp only [List.mem_cons, List.not_mem_nil, or_false] at hr
    rcases hr with rfl | rfl
    · exact ⟨h0.1, h0.2, h.bytes⟩
    · exact ⟨k0.1, k0.2, k.bytes⟩
  · have hi' : i < 2 := hi
    obtain rfl | rfl : i = 0 ∨ i = 1 := by omega
    · refine ⟨g1, c1, ?_, Nat.lt_of_lt_of_le hl.2 hb.size, fun j u hj => ?_⟩
      · rw [cell_of_row _ _ _ _ _ _ (heap_alloc_new w2 _)]
        rfl
      · rw [← h.news j u hj]
        exact hb.cell (by rw [add_block]; exact hl.2)
    · refine ⟨g2, c2, ?_, Nat.lt_of_lt_of_le kl.2 hb.size, fun j u hj => ?_⟩
      · rw [cell_of_row _ _ _ _ _ _ (heap_alloc_new w2 _)]
        rfl
      · rw [← k.news j u hj]
        exact hb.cell (by rw [add_block]; exact kl.2)

theorem recs_head {w : World} {base : Nat} {v : Value} {l : List (Nat → Int)} {a0 a1 a2 a3 a4 : Int} (h : RecsV base v l w) (hh : (l.map recL).head? = some [a0, a1, a2, a3, a4]) :
    ∃ gl cap c, v = .slice (some ⟨gl, 0, none⟩) l.length cap ∧ (1 ≤ l.length ∧ l.length ≤ 9223372036854775807) ∧ w.heap[gl]? = some (.cells c 52 (0, 0)) ∧ c[0]? = some (.int .i64 a0) ∧ c[1]? = some (.int .i64 a1) ∧ c[2]? = some (.int .i64 a2) ∧ c[3]? = some (.int .i64 a3) ∧ c[4]? = some (.int .i64 a4) := by
  cases l with
  | nil => simp at hh
  | cons r l =>
    simp only [List.map_cons, List.head?_cons, Option.some.injEq, recL, List.cons.injEq, and_true] at hh
    obtain ⟨e0, e1, e2, e3, e4⟩ := hh
    rcases h.2 with ⟨_, h2⟩ | ⟨g, cap, cur, hv, hb, hx, hc, hm, hs, ht⟩
    · simp at h2
    · have hk : ∀ k, k < 5 → cur[k]? = (recCells r)[k]? := fun k hk => by
        have h3 : (cur.toList.take ((r :: l).length * 5))[k]? = (recsCells (r :: l))[k]? := by rw [ht]
        rw [List.getElem?_take_of_lt (by simp only [List.length_cons]; omega), show recsCells (r :: l) = recCells r ++ recsCells l from rfl, List.getElem?_append_left (by simp only [recCells, List.length_cons, List.length_nil]; omega)] at h3
        rw [← h3]
        simp
      refine ⟨g, cap, cur, hv, ⟨by simp, by unfold maxLen at hm; omega⟩, hx, ?_, ?_, ?_, ?_, ?_⟩
      · rw [hk 0 (by omega), ← e0]; rfl
      · rw [hk 1 (by omega), ← e1]; rfl
      · rw [hk 2 (by omega), ← e2]; rfl
      · rw [hk 3 (by omega), ← e3]; rfl
      · rw [hk 4 (by omega), ← e4]; rfl
theorem configK_len (watch : Int) (ps : List (List Int)) (t : Int) : (configK watch ps t).length = 10 + ps.flatten.length + 3 * ps.length := by
  have h : ∀ n, (be4 n).length = 4 := fun _ => rfl
  unfold configK bodyK
  simp only [List.length_append, headK, List.length_cons, List.length_nil, winsK_len, h]
  omega

set_option maxRecDepth 100000 in
set_option maxHeartbeats 4000000 in
theorem watched_walk (a0 a1 : Int) (h0 : -9223372036854775808 ≤ a0 ∧ a0 ≤ 9223372036854775807) (h1 : -9223372036854775808 ≤ a1 ∧ a1 ≤ 9223372036854775807) (w : World) :
    Calls Tryz.prog 6 #[.int .i64 a0, .int .i64 a1] w fun e w' => e = .returned (.bool true) ∧ Below w.heap.size w w' := by
  have HAW := hide (kawake_any w)
  have HPK : Hid (∀ W, Calls Tryz.prog 17 #[.int .i64 a0, .int .i64 100] W fun e w' => e = .returned (.int .i64 (pickOf a0 100)) ∧ w' = W) := fun W => kpick_any a0 100 W h0.1 h0.2 (by omega) (by omega)
  have HPL : Hid (∀ W, Calls Tryz.prog 17 #[.int .i64 a1, .int .i64 300] W fun e w' => e = .returned (.int .i64 (pickOf a1 300)) ∧ w' = W) := fun W => kpick_any a1 300 W h1.1 h1.2 (by omega) (by omega)
  have hp1 := pickOf_nonneg a0 100 (by omega)
  have hp2 := pickOf_lt a0 100 (by omega)
  have hq1 := pickOf_nonneg a1 300 (by omega)
  have hq2 := pickOf_lt a1 300 (by omega)
  obtain ⟨p, hp⟩ := Int.eq_ofNat_of_zero_le hp1
  obtain ⟨n, hn⟩ := Int.eq_ofNat_of_zero_le hq1
  rw [hp] at HPK hp2
  rw [hn] at HPL hq2
  obtain ⟨x, hx⟩ : ∃ x : Nat, x = 2 + p := ⟨_, rfl⟩
  have hxi : (2 : Int) + (p : Nat) = (x : Nat) := by omega
  have hx1 : 2 ≤ x ∧ x ≤ 101 := by omega
  clear hp1 hq1 hp hn h0 h1 hx
  go_enter Tryz.func6, Tryz.ntmps6
  go_wp2_with fail
  refine HAW.out.mono ?_
  rintro e w1 ⟨rfl, hb1⟩
  have hs1 := hb1.size
  have HB1 := hide hb1
  clear hb1 HAW
  go_wp2_with fail
  refine (HPK.out w1).mono ?_
  rintro e w9 ⟨rfl, rfl⟩
  obtain ⟨w2, hw2⟩ : ∃ w2, w2 = w9.alloc (.cells (vals (encPt ptI)).toArray 5) := ⟨_, rfl⟩
  have hb2 : Below w9.heap.size w9 w2 := by rw [hw2]; exact (Below.refl _ _).alloc (Nat.le_refl _) _
  obtain ⟨w3, hw3⟩ : ∃ w3, w3 = w2.alloc (.cells (vals (encPt ptQ)).toArray 5) := ⟨_, rfl⟩
  have hb3 : Below w2.heap.size w2 w3 := by rw [hw3]; exact (Below.refl _ _).alloc (Nat.le_refl _) _
  have HI : Hid (Bys w.heap.size w3 (.slice (some ⟨w9.heap.size, 0, none⟩) 14 14) (encPt ptI)) := (by
    have := bys_lit w9 (encPt ptI) 14 rfl (by omega) encI_bytes
    rw [← hw2] at this
    exact (this.below hb3).low hs1)
  have HQ : Hid (Bys w.heap.size w3 (.slice (some ⟨w2.heap.size, 0, none⟩) 18 18) (encPt ptQ)) := (by
    have := bys_lit w2 (encPt ptQ) 18 rfl (by omega) encQ_bytes
    rw [← hw3] at this
    exact this.low (Nat.le_trans hs1 hb2.size))
  have HN : Hid (Bys w.heap.size (w3.alloc (.cells (vals (encPt ptN)).toArray 5)) (.slice (some ⟨w3.heap.size, 0, none⟩) 14 14) (encPt ptN)) := (bys_lit w3 (encPt ptN) 14 rfl (by omega) encN_bytes).low (by have := hb2.size; have := hb3.size; omega)
  have HB3 : Hid (Below w.heap.size w w3) := (HB1.out.trans (hb2.mono hs1)).trans (hb3.mono (by have := hb2.size; omega))
  have hs3 := HB3.out.size
  have HS2 : Hid (w2.heap.size = w9.heap.size + 1) := by rw [hw2]; exact (by simp : (w9.alloc _).heap.size = w9.heap.size + 1)
  have HW2 : Hid (w9.alloc (.cells #[.int .u8 0, .int .u8 1, .int .u8 0, .int .u8 1, .int .u8 1, .int .u8 1, .int .u8 1, .int .u8 1, .int .u8 6, .int .u8 1, .int .u8 0, .int .u8 1, .int .u8 0, .int .u8 0] 5) = w2) := by rw [hw2]; exact rfl
  have HW3 : Hid (w2.alloc (.cells #[.int .u8 0, .int .u8 1, .int .u8 0, .int .u8 1, .int .u8 1, .int .u8 1, .int .u8 1, .int .u8 1, .int .u8 6, .int .u8 1, .int .u8 0, .int .u8 3, .int .u8 9, .int .u8 0, .int .u8 1, .int .u8 1, .int .u8 4, .int .u8 0] 5) = w3) := by rw [hw3]; exact rfl
  have HB4 : Hid (Below w3.heap.size w3 (w3.alloc (.cells #[.int .u8 0, .int .u8 1, .int .u8 0, .int .u8 1, .int .u8 1, .int .u8 1, .int .u8 1, .int .u8 1, .int .u8 1, .int .u8 1, .int .u8 0, .int .u8 1, .int .u8 0, .int .u8 0] 5))) := (Below.refl _ _).alloc (Nat.le_refl _) _
  rw [HS2.out] at HQ
  clear hw2 hw3 hb2 hb3
  go_upto_if 31 with fail
  rw [HW2.out, HW3.out]
  go_cut [8] from 31 to 32 (fun v wx => ∃ gp np, v = .slice (some ⟨gp, 0, none⟩) np np ∧ (encPt (ptP x)).length = np ∧ Bys w.heap.size wx (.slice (some ⟨gp, 0, none⟩) np np) (encPt (ptP x)) ∧ Bys w.heap.size wx (.slice (some ⟨w9.heap.size, 0, none⟩) 14 14) (encPt ptI) ∧ Below w.heap.size w wx)
  case first =>
    by_cases h7 : x < 7
    · have hd : decide ((x : Int) < 7) = true := by simp; omega
      go_wp2_with fail
      go_meet
      rw [show ptP x = ptN from if_pos h7]
      exact ⟨_, 14, rfl, rfl, HN.out, HI.out.below HB4.out, HB3.out.trans (HB4.out.mono hs3)⟩
    · have hd : decide ((x : Int) < 7) = false := by simp; omega
      go_wp2_with fail
      go_meet
      rw [show ptP x = ptQ from if_neg h7]
      exact ⟨_, 18, rfl, rfl, HQ.out, HI.out, HB3.out⟩
  case rest =>
  obtain ⟨gp, np, rfl, hnp, hP, hI, hB⟩ := hcut
  have hel := encP_len x
  rw [hnp] at hel
  have hsc := hB.size
  have HBC := hide hB
  have hrw := rows_two hI hP rfl hnp (by omega) (by omega)
  obtain ⟨w4, hw4⟩ : ∃ w4, w4 = wc.alloc (.cells #[.slice (some ⟨w9.heap.size, 0, none⟩) 14 14, .slice (some ⟨gp, 0, none⟩) np np] 22) := ⟨_, rfl⟩
  rw [← hw4] at hrw
  have hb4 : Below wc.heap.size wc w4 := by rw [hw4]; exact (Below.refl _ _).alloc (Nat.le_refl _) _
  have HBD : Hid (Below w.heap.size w w4) := HBC.out.trans (hb4.mono hsc)
  have hsd := HBD.out.size
  have HC := hide (kconfig_any x _ [encPt ptI, encPt (ptP x)] 1 w4 (by omega) (by omega) hrw)
  have HW4 := hide hw4
  have HPA := hide (parse_W x (by omega))
  have HML := hide (watched_model x hx1.1 hx1.2)
  have HZL : Hid (0 < (configK x [encPt ptI, encPt (ptP x)] 1).length ∧ (configK x [encPt ptI, encPt (ptP x)] 1).length ≤ 100000) := by
    have h9 : (encPt ptI).length = 14 := rfl
    show 0 < _ ∧ _ ≤ 100000
    rw [configK_len]
    simp only [List.flatten_cons, List.flatten_nil, List.length_append, List.length_nil, List.length_cons, h9, hnp]
    omega
  generalize configK x [encPt ptI, encPt (ptP x)] 1 = zs at *
  clear hP hI hB hrw hw4 hb4 hnp HI HQ HN HW2 HW3 HB4 HS2
  go_wp2_with fail
  rw [← HW4.out]
  refine HC.out.mono ?_
  rintro e w5 ⟨v5, rfl, hC5, hb5⟩
  have HB5 : Hid (Below w.heap.size w w5) := HBD.out.trans (hb5.mono hsd)
  have hs5 := HB5.out.size
  have HZ5 := hide (hC5.low hsd)
  have HNF := hide (newFlash_any none 0 0 [] w5 ⟨rfl, Nat.le_refl _, by omega, fun z hz => (by cases hz), fun _ => rfl, fun ad e => (by cases e), fun ad e => (by cases e)⟩ (by omega))
  clear hC5 hb5 HC
  go_wp2_with fail
  refine HNF.out.mono ?_
  rintro e w6 ⟨g, rfl, hg, hF, hb6⟩
  have HB6 : Hid (Below w.heap.size w w6) := HB5.out.trans (hb6.mono hs5)
  have hs6 := HB6.out.size
  have HBO := hide (kboot_any w.heap.size v5 zs g flN w6 (Bys.below HZ5.out hb6) HZL.out.1 HZL.out.2 hF flN_ok (by omega) hs6 (by rw [HPA.out]))
  rw [HPA.out] at HBO
  clear hF hb6 HNF
  go_wp2_with fail
  refine HBO.out.mono ?_
  rintro e w7 ⟨kb, L, rfl, hk7, hb7⟩
  have HB7 : Hid (Below w.heap.size w w7) := HB6.out.trans (hb7.mono hs6)
  have hs7 := HB7.out.size
  obtain ⟨s1, s2, t1, hd1, hl1, hm1, hnw1, t2, hd2, hl2, hm2, hnw2, hlog, hrest⟩ := HML.out
  obtain ⟨s3, t3, hd3, hl3, hm3⟩ := hrest n (by omega)
  have e1 := tickCall_all (bootSt (cfW x (ptP x)) flN.bs, flN) s1 x (by omega) rfl t1 hd1
  have e2 : tickCall 1 s1 = ((1, 0), s2) := tickCall_all s1 s2 1 (by omega) hd1 t2 hd2
  have e3 := tickCall_all s2 s3 n (by omega) hd2 t3 hd3
  have HT := hide (hk7.tick x (show (0 : Int) + 1000 ≤ _ by omega))
  rw [e1] at HT
  have HE2 := hide e2
  have HE3 := hide e3
  have HD := hide (And.intro hl1 (And.intro hm1 (And.intro hnw1 (And.intro hl2 (And.intro hm2 (And.intro hnw2 (And.intro hlog (And.intro hl3 hm3))))))))
  clear hk7 hb7 HBO e1 e2 e3 t1 t2 t3 hd1 hd2 hd3 hl1 hm1 hnw1 hl2 hm2 hnw2 hlog hl3 hm3 hrest HML HPA HZ5 HZL
  simp only at HT
  go_wp2_with fail
  refine HT.out.mono ?_
  rintro e w8 ⟨rfl, hk8, hb8, -⟩
  have HB8 : Hid (Below w.heap.size w w8) := HB7.out.trans hb8
  have hs8 := HB8.out.size
  have HL := hide (hk8.look 0 (by rw [HD.out.1]; omega))
  clear hk8 hb8 HT
  go_wp2_with fail
  refine HL.out.mono ?_
  rintro e wd ⟨v1, rfl, hv1, hk1, hb1⟩
  obtain ⟨y1, d1, z1, f1, rfl, -, -⟩ := hv1
  rw [show (s1.1.part 0).mode = 1 from HD.out.2.1]
  obtain ⟨n1, hn1⟩ : ∃ n, n = (s1.1.part 0).words.length := ⟨_, rfl⟩
  obtain ⟨m1, hm1⟩ : ∃ n, n = (s1.1.part 0).procs.length := ⟨_, rfl⟩
  rw [← hn1, ← hm1]
  clear hn1 hm1
  generalize restartsOf s1.2.bs 0 = r1
  have HBwd : Hid (Below w.heap.size w wd) := HB8.out.trans (hb1.mono hs8)
  have hswd := HBwd.out.size
  obtain ⟨we, hwe⟩ : ∃ we, we = wd.alloc (.cells #[.int .i64 1, .int .i64 r1, .slice (some ⟨y1, 0, none⟩) n1 d1, .slice (some ⟨z1, 0, none⟩) m1 f1] 43) := ⟨_, rfl⟩
  have hbe : Below wd.heap.size wd we := by rw [hwe]; exact (Below.refl _ _).alloc (Nat.le_refl _) _
  have hCE : we.heap[wd.heap.size]? = some (.cells #[.int .i64 1, .int .i64 r1, .slice (some ⟨y1, 0, none⟩) n1 d1, .slice (some ⟨z1, 0, none⟩) m1 f1] 43 (0, 0)) := by rw [hwe]; exact heap_alloc_new wd _
  have HBe : Hid (Below w.heap.size w we) := HBwd.out.trans (hbe.mono hswd)
  have hse := HBe.out.size
  have HT2 := hide ((hk1.mono hbe).tick 1 (by rw [HD.out.2.2.1]; omega))
  rw [HE2.out] at HT2
  have HCE := hide hCE
  have HWE := hide hwe
  clear hk1 hb1 HL hwe hbe hCE
  go_wp2_with fail
  rw [← HWE.out]
  refine HT2.out.mono ?_
  rintro e wf ⟨rfl, hkf, hbf, hkeep⟩
  have HBf : Hid (Below w.heap.size w wf) := HBe.out.trans hbf
  have hsf := HBf.out.size
  have HCF := hide (hkeep _ _ _ HCE.out (by decide))
  have HL2 := hide (hkf.look 0 (by rw [HD.out.2.2.2.1]; omega))
  clear hkf hbf hkeep HT2 HCE
  go_wp2_with fail
  refine HL2.out.mono ?_
  rintro e wg ⟨v2, rfl, hv2, hk2, hb2⟩
  obtain ⟨y2, d2, z2, f2, rfl, -, -⟩ := hv2
  rw [show (s2.1.part 0).mode = 3 from HD.out.2.2.2.2.1]
  obtain ⟨n2, hn2⟩ : ∃ n, n = (s2.1.part 0).words.length := ⟨_, rfl⟩
  obtain ⟨m2, hm2⟩ : ∃ n, n = (s2.1.part 0).procs.length := ⟨_, rfl⟩
  rw [← hn2, ← hm2]
  clear hn2 hm2
  generalize restartsOf s2.2.bs 0 = r2
  have HBwg : Hid (Below w.heap.size w wg) := HBf.out.trans (hb2.mono hsf)
  have hswg := HBwg.out.size
  have hCG := keepB hb2 HCF.out
  obtain ⟨wh, hwh⟩ : ∃ wh, wh = wg.alloc (.cells #[.int .i64 3, .int .i64 r2, .slice (some ⟨y2, 0, none⟩) n2 d2, .slice (some ⟨z2, 0, none⟩) m2 f2] 43) := ⟨_, rfl⟩
  have hbh : Below wg.heap.size wg wh := by rw [hwh]; exact (Below.refl _ _).alloc (Nat.le_refl _) _
  have HC1 := hide (keepB hbh hCG)
  have HC2 : Hid (wh.heap[wg.heap.size]? = some (.cells #[.int .i64 3, .int .i64 r2, .slice (some ⟨y2, 0, none⟩) n2 d2, .slice (some ⟨z2, 0, none⟩) m2 f2] 43 (0, 0))) := by rw [hwh]; exact heap_alloc_new wg _
  have HBh : Hid (Below w.heap.size w wh) := HBwg.out.trans (hbh.mono hswg)
  have hsh := HBh.out.size
  have HLG := hide (hk2.mono hbh).log
  have HWH := hide hwh
  clear hk2 hb2 HL2 hwh hbh hCG HCF
  go_wp2_with fail
  rw [← HWH.out]
  refine HLG.out.mono ?_
  rintro e wi ⟨vl, rfl, hvl, hki, hbi⟩
  have HBi : Hid (Below w.heap.size w wi) := HBh.out.trans (hbi.mono hsh)
  have hsi := HBi.out.size
  have HC3 := hide (keepB hbi HC1.out)
  have HC4 := hide (keepB hbi HC2.out)
  have HT3 := hide (hki.tick n (by rw [HD.out.2.2.2.2.2.1]; omega))
  rw [HE3.out] at HT3
  have HVL := hide hvl
  clear hki hbi HLG HC1 HC2 hvl
  go_wp2_with fail
  refine (HPL.out wi).mono ?_
  rintro e w0 ⟨rfl, rfl⟩
  go_wp2_with fail
  refine HT3.out.mono ?_
  rintro e wj ⟨rfl, hkj, hbj, hkeep⟩
  obtain ⟨gl, cl, cc, hvl, hll, hcl, k0, k1, k2, k3, k4⟩ := recs_head HVL.out HD.out.2.2.2.2.2.2.1
  obtain ⟨ll, hle⟩ : ∃ ll, ll = (logOf s2.2.bs).length := ⟨_, rfl⟩
  rw [← hle] at hvl hll
  subst hvl
  have HBj : Hid (Below w.heap.size w wj) := HBi.out.trans hbj
  have hsj := HBj.out.size
  have HC5 := hide (hkeep _ _ _ HC3.out (by decide))
  have HC6 := hide (hkeep _ _ _ HC4.out (by decide))
  have HC7 := hide (hkeep _ _ _ hcl (by decide))
  have HL3 := hide (hkj.look 1 (by rw [HD.out.2.2.2.2.2.2.2.1]; omega))
  have HK := hide (And.intro k0 (And.intro k1 (And.intro k2 (And.intro k3 k4))))
  clear hkj hbj hkeep HT3 HC3 HC4 hcl k0 k1 k2 k3 k4 hle HVL
  go_wp2_with fail
  refine HL3.out.mono ?_
  rintro e wk ⟨v3, rfl, hv3, hk3, hb3⟩
  obtain ⟨y3, d3, z3, f3, rfl, -, -⟩ := hv3
  rw [show (s3.1.part 1).mode = 1 from HD.out.2.2.2.2.2.2.2.2]
  obtain ⟨n3, hn3⟩ : ∃ n, n = (s3.1.part 1).words.length := ⟨_, rfl⟩
  obtain ⟨m3, hm3⟩ : ∃ n, n = (s3.1.part 1).procs.length := ⟨_, rfl⟩
  rw [← hn3, ← hm3]
  clear hn3 hm3
  generalize restartsOf s3.2.bs 1 = r3
  have HBk : Hid (Below w.heap.size w wk) := HBj.out.trans (hb3.mono hsj)
  have hsk := HBk.out.size
  have hC8 := keepB hb3 HC5.out
  have hC9 := keepB hb3 HC6.out
  have hCA := keepB hb3 HC7.out
  obtain ⟨wl, hwl⟩ : ∃ wl, wl = wk.alloc (.cells #[.int .i64 1, .int .i64 r3, .slice (some ⟨y3, 0, none⟩) n3 d3, .slice (some ⟨z3, 0, none⟩) m3 f3] 43) := ⟨_, rfl⟩
  have hbl : Below wk.heap.size wk wl := by rw [hwl]; exact (Below.refl _ _).alloc (Nat.le_refl _) _
  have hCB : wl.heap[wk.heap.size]? = some (.cells #[.int .i64 1, .int .i64 r3, .slice (some ⟨y3, 0, none⟩) n3 d3, .slice (some ⟨z3, 0, none⟩) m3 f3] 43 (0, 0)) := by rw [hwl]; exact heap_alloc_new wk _
  have hCC := keepB hbl hC8
  have hCD := keepB hbl hC9
  have hCE := keepB hbl hCA
  have a0' : wl.cell? ⟨wd.heap.size, 0, none⟩ = some (.int .i64 1) := by rw [cell_of_row _ _ _ _ _ _ hCC]; rfl
  have a1' : wl.cell? ⟨wg.heap.size, 0, none⟩ = some (.int .i64 3) := by rw [cell_of_row _ _ _ _ _ _ hCD]; rfl
  have a2' : wl.cell? ⟨wk.heap.size, 0, none⟩ = some (.int .i64 1) := by rw [cell_of_row _ _ _ _ _ _ hCB]; rfl
  have l0 : wl.cell? ⟨gl, 0, none⟩ = some (.int .i64 1) := by rw [cell_of_row _ _ _ _ _ _ hCE]; exact HK.out.1
  have l1 : wl.cell? ⟨gl, 1, none⟩ = some (.int .i64 0) := by rw [cell_of_row _ _ _ _ _ _ hCE]; exact HK.out.2.1
  have l2 : wl.cell? ⟨gl, 2, none⟩ = some (.int .i64 5) := by rw [cell_of_row _ _ _ _ _ _ hCE]; exact HK.out.2.2.1
  have l3 : wl.cell? ⟨gl, 3, none⟩ = some (.int .i64 1) := by rw [cell_of_row _ _ _ _ _ _ hCE]; exact HK.out.2.2.2.1
  have l4 : wl.cell? ⟨gl, 4, none⟩ = some (.int .i64 6) := by rw [cell_of_row _ _ _ _ _ _ hCE]; exact HK.out.2.2.2.2
  have HBl : Hid (Below w.heap.size w wl) := HBk.out.trans (hbl.mono hsk)
  have HWL := hide hwl
  clear hk3 hb3 HL3 hC8 hC9 hCA hCB hCC hCD hCE hwl hbl HC5 HC6 HC7
  go_wp2_with fail
  rw [← HWL.out]
  refine (HPL.out wl).mono ?_
  rintro e wm ⟨rfl, rfl⟩
  have hge : decide ((1 : Int) ≤ (ll : Nat)) = true := by simp; omega
  go_wp2
  go_ret
  exact ⟨rfl, HBl.out⟩
end Go.Proofs.YtnjlbgolnbdkaaaGreat
