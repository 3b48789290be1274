/- Texts of the proof of Apart, one behind the other. -/
import Derived.Test.YtnjlbgolnbdkaaaGreatM27
/- The keeper's suffers: a kernel of two partitions, what befalls it. -/
namespace Go.Proofs.YtnjlbgolnbdkaaaGreat
open Go.RowKit

abbrev Bw := Int × Int × Int
structure Blows (w : World) (v : Value) (l : List Bw) : Prop where
  len : l.length ≤ 9223372036854775807
  rng : ∀ x ∈ l, (-9223372036854775808 ≤ x.2.1 ∧ x.2.1 ≤ 9223372036854775807) ∧ -9223372036854775808 ≤ x.2.2 ∧ x.2.2 ≤ 9223372036854775807
  lies : ∃ ao c, v = .slice ao l.length c ∧ (0 < l.length → ∃ b off, ao = some ⟨b, off, none⟩ ∧ b < w.heap.size ∧ ∀ i, i < l.length → w.cell? ⟨b, off + i * 3 + 1, none⟩ = some (.int .i64 (l.getD i default).2.1) ∧ w.cell? ⟨b, off + i * 3 + 2, none⟩ = some (.int .i64 (l.getD i default).2.2))
theorem Blows.nil (w : World) (ao : Option Addr) (c : Nat) : Blows w (.slice ao 0 c) [] := ⟨by simp, by simp, ao, c, rfl, by simp⟩
theorem Blows.below {w w' : World} {v : Value} {l : List Bw} {base : Nat} (h : Blows w v l) (hb : Below base w w') (hB : w.heap.size ≤ base) : Blows w' v l := by
  obtain ⟨h1, h2, ao, c, hv, h3⟩ := h
  refine ⟨h1, h2, ao, c, hv, fun h0 => ?_⟩
  obtain ⟨b, off, ha, hl, hc⟩ := h3 h0
  have hx : ∀ o, w'.cell? ⟨b, o, none⟩ = w.cell? ⟨b, o, none⟩ := fun o => hb.cell (p := ⟨b, o, none⟩) (Nat.lt_of_lt_of_le hl hB)
  exact ⟨b, off, ha, Nat.lt_of_lt_of_le hl hb.size, fun i hi => ⟨(hx _).trans (hc i hi).1, (hx _).trans (hc i hi).2⟩⟩
def codeB (l : List Bw) (k : Nat) : Nat := (pickOf (l.getD k default).2.1 5).toNat
def manyB (l : List Bw) (k : Nat) : Nat := (pickOf (l.getD k default).2.2 30).toNat
def blowsTo (p : Pt) (w : Int) (l : List Bw) : Nat → PX
  | 0 => startPx p
  | k + 1 => blowPx p w (codeB l k) (manyB l k) (blowsTo p w l k)
theorem pick_nat (a : Int) (n : Nat) (hn : 0 < n) : pickOf a n = (((pickOf a n).toNat : Nat) : Int) ∧ (pickOf a n).toNat < n := by
  have h1 := pickOf_nonneg a n (by omega)
  have h2 := pickOf_lt a n (by omega)
  omega
theorem Blows.get {w : World} {v : Value} {l : List Bw} (h : Blows w v l) (k : Nat) (hk : k < l.length) : (-9223372036854775808 ≤ (l.getD k default).2.1 ∧ (l.getD k default).2.1 ≤ 9223372036854775807) ∧ -9223372036854775808 ≤ (l.getD k default).2.2 ∧ (l.getD k default).2.2 ≤ 9223372036854775807 := by
  refine h.rng _ ?_
  rw [List.getD_eq_getElem?_getD, List.getElem?_eq_getElem hk]
  simp
theorem kboot2 (base base' : Nat) (v : Value) (zs : List Int) (g : Nat) (F : Fl) (w : World) (hz : Bys base' w v zs) (h0 : 0 < zs.length) (hn : zs.length ≤ 100000) (hF : FlAt w g F) (hok : FlOk F) (hg : base ≤ g) (hb : base ≤ w.heap.size) (hp : (parseOf zs).2.2 = 0) :
    Calls Tryz.prog 11 #[v, .pointer (some ⟨g, 0, none⟩)] w fun e w' => ∃ kb L, e = .returned (.tuple #[.pointer (some ⟨kb, 0, none⟩), .int .i64 0]) ∧ Kp base w' kb L g (bootSt (parseOf zs).1 F.bs, F) ∧ Below w.heap.size w w' := by
  obtain ⟨gz, c, rfl, hh⟩ := hz.held h0
  refine (pboot_any (some ⟨gz, 0, none⟩) zs.length c zs g F.bs F.left F.res F.dead F.done w hh (by omega) hF).mono ?_
  rintro e w1 ⟨h1 | ⟨_, kb, L, rfl, hk, hlo⟩, hb1⟩
  · exact absurd hp h1.1
  · refine ⟨kb, L, rfl, ⟨⟨hk.box, ⟨hk.mach, hk.lay, hk.ok, FlashAt.below hF hb1, hok⟩⟩, ⟨kboot_run _ _ hk.ok, hk.ok⟩, Nat.le_trans hb hb1.size, ?_⟩, hb1⟩
    intro b hd
    have hlo2 : ∀ x, MBlk L (bootSt (parseOf zs).1 F.bs) x → base ≤ x := fun x hx => Nat.le_trans hb (hlo x (.inr hx))
    rcases hd with rfl | rfl | ⟨i, hi, rfl | rfl⟩ | ⟨j, hj, rfl⟩ | rfl
    · exact hlo2 _ (.inl rfl)
    · exact hlo2 _ (.inr (.inl rfl))
    · exact hlo2 _ (.inr (.inr (.inr (.inr (.inl ⟨i, hi, .inl rfl⟩)))))
    · exact hlo2 _ (.inr (.inr (.inr (.inr (.inl ⟨i, hi, .inr (.inl rfl)⟩)))))
    · exact hlo2 _ (.inr (.inr (.inr (.inr (.inr (.inl ⟨j, hj, rfl⟩))))))
    · exact hg
set_option maxRecDepth 100000 in
set_option maxHeartbeats 4000000 in
theorem ksuffers_any (base' : Nat) (v vm vo : Value) (zs : List Int) (mine others : List Bw) (wt : Int) (p q : Pt) (w : World) (hz : Bys base' w v zs) (hz0 : 0 < zs.length) (hzn : zs.length ≤ 100000) (hpa : parseOf zs = (cfX wt p q, 0, 0)) (hM : Blows w vm mine) (hO : Blows w vo others)
    (hp : PtAlone p) (hq : PtAlone q) (hp2 : 1 ≤ p.procs.length ∧ p.procs.length ≤ 2) (hq2 : 1 ≤ q.procs.length ∧ q.procs.length ≤ 2) :
    Calls Tryz.prog 23 #[v, vm, vo] w fun e w' => ∃ kb L g s c, e = .returned (.tuple #[.pointer (some ⟨kb, 0, none⟩), .bool true]) ∧ Kp w.heap.size w' kb L g s ∧ Iv c wt p q s ∧ PiOf 0 s = blowsTo p wt mine (min mine.length 30) ∧ Below w.heap.size w w' := by
  have HM := hide hM
  have HO := hide hO
  have HZ := hide hz
  obtain ⟨am, cm, rfl, hm3⟩ := hM.lies
  obtain ⟨ao, co, rfl, ho3⟩ := hO.lies
  obtain ⟨nm, hnm⟩ : ∃ nm, nm = mine.length := ⟨_, rfl⟩
  obtain ⟨no, hno⟩ : ∃ no, no = others.length := ⟨_, rfl⟩
  have hml := hM.len
  have hol := hO.len
  rw [← hnm] at hml ⊢
  rw [← hno] at hol ⊢
  have HNM := hide hnm
  have HNO := hide hno
  have HNF := hide (newFlash_any none 0 0 [] w ⟨rfl, Nat.le_refl _, by omega, fun z hz => (by cases hz), fun _ => rfl, fun ad e => (by cases e), fun ad e => (by cases e)⟩ (by omega))
  clear hz hM hO hnm hno
  go_enter Tryz.func23, Tryz.ntmps23
  go_wp2_with fail
  refine HNF.out.mono ?_
  rintro e w6 ⟨g, rfl, hg, hF, hb6⟩
  have HB6 := hide hb6
  have hs6 := hb6.size
  have HBO := hide (kboot2 w.heap.size base' v zs g flN w6 (HZ.out.below hb6) hz0 hzn hF flN_ok hg hs6 (by rw [hpa]))
  rw [hpa] at HBO
  obtain ⟨hiv, hpi⟩ := boot_X wt p q hp2 hq2
  clear hF hb6 HNF
  go_wp2_with fail
  refine HBO.out.mono ?_
  rintro e w7 ⟨kb, L, rfl, hk7, hb7⟩
  have HST : Hid (∃ (k : Nat) (s : SF), k = 0 ∧ Kp w.heap.size w7 kb L g s ∧ Iv 0 wt p q s ∧ (0 ≤ s.1.now ∧ s.1.now ≤ 0) ∧ PiOf 0 s = blowsTo p wt mine 0) := ⟨0, _, rfl, hk7, hiv, ⟨Int.le_refl _, Int.le_refl _⟩, hpi 0 (by omega)⟩
  have HB7 : Hid (Below w.heap.size w w7) := HB6.out.trans (hb7.mono hs6)
  have hs7 := HB7.out.size
  clear hk7 hb7 HBO hiv hpi
  go_wp2_with fail
  go_loopw [10, 11, 12, 13, 14, 15] (fun t _ _ _ _ _ wr => ∃ (k : Nat) (s : SF), k ≤ nm ∧ k ≤ 30 ∧ t = .int .i64 k ∧ Kp w.heap.size wr kb L g s ∧ Iv (212 * k) wt p q s ∧ (0 ≤ s.1.now ∧ s.1.now ≤ 30 * k) ∧ PiOf 0 s = blowsTo p wt mine k ∧ Below w.heap.size w wr) (fun t _ _ _ _ _ _ => 30 - (intOf t).toNat)
  case atStart =>
    obtain ⟨k, s, rfl, a1, a2, a3, a4⟩ := HST.out
    exact ⟨0, s, by omega, by omega, rfl, a1, a2, by omega, a4, HB7.out⟩
  case round =>
    obtain ⟨k, s, hk1, hk2, rfl, hk, hiv, hnow, hpi, hB⟩ := hrel
    have hsr := hB.size
    have HB := hide hB
    have HIV := hide hiv
    have HPI := hide hpi
    by_cases hgo : k < nm ∧ k < 30
    · obtain ⟨hg1, hg2⟩ := hgo
      have hkm : k < mine.length := by have := HNM.out; omega
      obtain ⟨b, off, rfl, hbl, hcells⟩ := hm3 (by omega)
      have hr := HM.out.get k hkm
      have hx : ∀ o, wr.cell? ⟨b, o, none⟩ = w.cell? ⟨b, o, none⟩ := fun o => hB.cell (p := ⟨b, o, none⟩) hbl
      have c1 := (hx _).trans (hcells k hkm).1
      have HC2 : Hid (w.cell? ⟨b, off + k * 3 + 2, none⟩ = some (.int .i64 (mine.getD k default).2.2)) := (hcells k hkm).2
      have HP1 := hide (kpick_any (mine.getD k default).2.1 5 wr hr.1.1 hr.1.2 (by omega) (by omega))
      have HP2 : Hid (∀ W, Calls Tryz.prog 17 #[.int .i64 (mine.getD k default).2.2, .int .i64 30] W fun e w' => e = .returned (.int .i64 (pickOf (mine.getD k default).2.2 30)) ∧ w' = W) := fun W => kpick_any _ 30 W hr.2.1 hr.2.2 (by omega) (by omega)
      have e1 := pick_nat (mine.getD k default).2.1 5 (by omega)
      have e2 := pick_nat (mine.getD k default).2.2 30 (by omega)
      have HBT : Hid (blowsTo p wt mine (k + 1) = blowPx p wt (codeB mine k) (manyB mine k) (blowsTo p wt mine k)) := rfl
      have ecd : (pickOf (mine.getD k default).2.1 5).toNat = codeB mine k := rfl
      have emn : (pickOf (mine.getD k default).2.2 30).toNat = manyB mine k := rfl
      rw [show ((5 : Nat) : Int) = 5 from rfl, ecd] at e1
      rw [show ((30 : Nat) : Int) = 30 from rfl, emn] at e2
      rw [e1.1] at HP1
      rw [e2.1] at HP2
      have hcd := e1.2
      have hmn := e2.2
      generalize codeB mine k = cd at *
      generalize manyB mine k = mn at *
      generalize (mine.getD k default).2.1 = x1 at *
      generalize (mine.getD k default).2.2 = x2 at *
      obtain ⟨s1, f1, i1, n1, p1, -⟩ := inject_pi hiv hp hq 0 0 cd (by omega) (by have := (hiv.pl 0 (by omega)).1; omega) (by omega) (by omega)
      have HI := hide (hk.inject 0 0 cd)
      have f1' : injectCall 0 0 cd s = (0, s1) := f1
      rw [f1'] at HI
      have hd : decide ((k : Int) < (nm : Nat)) = true := by simp; omega
      have hd2 : decide ((k : Int) < 30) = true := by simp; omega
      clear hk hiv hB hpi e1 e2 ecd emn hcells hx f1 f1'
      go_wp2_with fail
      refine HP1.out.mono ?_
      rintro e w8 ⟨rfl, rfl⟩
      go_wp2_with fail
      refine HI.out.mono ?_
      rintro e w9 ⟨rfl, hk9, hb9, -⟩
      have HK9 := hide hk9
      have HB9 : Hid (Below w.heap.size w w9) := HB.out.trans hb9
      have hs9 := HB9.out.size
      have HI1 := hide i1
      have HQ1 := hide p1
      have hn1 : 0 ≤ s1.1.now ∧ s1.1.now ≤ 30 * k := by rw [n1]; exact hnow
      clear hk9 hb9 HI HP1 i1 p1 n1 c1
      go_upto_if 49 with fail
      go_cut [12] from 28 to 84 (fun v wx => v = .int .i64 0 ∧ ∃ s2 : SF, Kp w.heap.size wx kb L g s2 ∧ Iv (212 * k + 2) wt p q s2 ∧ (0 ≤ s2.1.now ∧ s2.1.now ≤ 30 * k) ∧ PiOf 0 s2 = PiOf 0 s1 ∧ Below w.heap.size w wx)
      case first =>
        by_cases ho : k < no
        · have hd3 : decide ((k : Int) < (no : Nat)) = true := by simp; omega
          have hko : k < others.length := by have := HNO.out; omega
          obtain ⟨b2, off2, rfl, hbl2, hcells2⟩ := ho3 (by omega)
          have hr2 := HO.out.get k hko
          have c3 := (HB9.out.cell (p := ⟨b2, off2 + k * 3 + 1, none⟩) hbl2).trans (hcells2 k hko).1
          have HP3 := hide (kpick_any (others.getD k default).2.1 5 w9 hr2.1.1 hr2.1.2 (by omega) (by omega))
          have e3 := pick_nat (others.getD k default).2.1 5 (by omega)
          rw [show ((5 : Nat) : Int) = 5 from rfl] at e3
          obtain ⟨ce, hce⟩ : ∃ ce, ce = (pickOf (others.getD k default).2.1 5).toNat := ⟨_, rfl⟩
          rw [← hce] at e3
          rw [e3.1] at HP3
          have hce2 := e3.2
          clear hce e3
          generalize (others.getD k default).2.1 = x3 at *
          obtain ⟨s2, f2, i2, n2, -, o2⟩ := inject_pi HI1.out hp hq 1 0 ce (by omega) (by have := (HI1.out.pl 1 (by omega)).1; omega) (by omega) (by omega)
          have HI2 := hide (HK9.out.inject 1 0 ce)
          have f2' : injectCall 1 0 ce s1 = (0, s2) := f2
          rw [f2'] at HI2
          have HX2 := hide (And.intro i2 (And.intro n2 (o2 0 (by omega) (by omega))))
          clear hcells2 f2 f2' i2 n2 o2
          go_wp2_with fail
          refine HP3.out.mono ?_
          rintro e w8 ⟨rfl, rfl⟩
          go_wp2_with fail
          refine HI2.out.mono ?_
          rintro e wa ⟨rfl, hka, hba, -⟩
          have HKA := hide (And.intro hka (HB9.out.trans hba))
          clear hka hba HI2 HP3 c3
          go_wp2_with fail
          go_meet
          exact ⟨rfl, s2, HKA.out.1, HX2.out.1, by rw [HX2.out.2.1]; exact hn1, HX2.out.2.2, HKA.out.2⟩
        · have hd3 : decide ((k : Int) < (no : Nat)) = false := by simp; omega
          go_wp2_with fail
          go_meet
          exact ⟨rfl, s1, HK9.out, HI1.out.mono (by omega), hn1, rfl, HB9.out⟩
      case rest =>
      obtain ⟨rfl, s2, hk2', hi2, hn2, hp2', hbx⟩ := hcut
      obtain ⟨s3, t3, i3, n3, p3⟩ := ticks_piX hi2 hp hq mn (by omega) hn2.1
      have hx3 := tickCall_all s2 s3 mn (by omega) hi2.dead t3 i3.dead
      have HT := hide (hk2'.tick mn (by omega))
      rw [hx3] at HT
      have c2 := (hbx.cell (p := ⟨b, off + k * 3 + 2, none⟩) hbl).trans HC2.out
      have HBX := hide hbx
      have HI3 := hide i3
      have HP3 : Hid (PiOf 0 s3 = blowsTo p wt mine (k + 1)) := by
        rw [p3 0 (by omega), hp2', HQ1.out, HPI.out, HBT.out]
        exact rfl
      have hn3 : 0 ≤ s3.1.now ∧ s3.1.now ≤ 30 * ((k + 1 : Nat) : Int) := by rw [n3]; omega
      clear hk2' hi2 hp2' hbx t3 i3 n3 p3 hx3 HQ1 HI1 HK9 HB9
      go_wp2_with fail
      refine (HP2.out wc).mono ?_
      rintro e w8 ⟨rfl, rfl⟩
      go_wp2_with fail
      refine HT.out.mono ?_
      rintro e wd ⟨rfl, hkd, hbd, -⟩
      have HKD := hide (And.intro hkd (HBX.out.trans hbd))
      clear hkd hbd HT HP2 c2
      go_wp2
      go_roundw
      case rel => exact ⟨k + 1, s3, by omega, by omega, by go_num, HKD.out.1, HI3.out.mono (by omega), hn3, HP3.out, HKD.out.2⟩
      case measure => simp [intOf]; omega
    · have HKK := hide hk
      have hkk : k = min nm 30 := by omega
      have HEND : Hid (PiOf 0 s = blowsTo p wt mine (min nm 30)) := by rw [← hkk]; exact HPI.out
      clear hk hiv hB hpi hkk
      by_cases hd1 : k < nm
      · have hd : decide ((k : Int) < (nm : Nat)) = true := by simp; omega
        have hd2 : decide ((k : Int) < 30) = false := by simp; omega
        clear hgo
        go_wp2
        go_ret2
        exact ⟨kb, L, g, s, _, rfl, HKK.out, HIV.out, HEND.out, HB.out⟩
      · have hd : decide ((k : Int) < (nm : Nat)) = false := by simp; omega
        clear hgo
        go_wp2
        go_ret2
        exact ⟨kb, L, g, s, _, rfl, HKK.out, HIV.out, HEND.out, HB.out⟩
end Go.Proofs.YtnjlbgolnbdkaaaGreat
/- The keeper's sameInts: of two lists of the same numbers. -/
namespace Go.Proofs.YtnjlbgolnbdkaaaGreat
open Go.RowKit

theorem own_ints {w : World} {base b c n : Nat} {l : List Int} (h : w.ownsRow base 3 1 (.slice (some ⟨b, 0, none⟩) n c) n (l.map (Value.int .i64))) (i : Nat) (hi : i < l.length) : w.cell? ⟨b, i, none⟩ = some (.int .i64 (l.getD i 0)) := by
  have := h.cells (g := b) rfl i (.int .i64 (l.getD i 0)) (by simp [List.getD_eq_getElem?_getD, List.getElem?_eq_getElem hi])
  have e2 : (⟨b, 0, none⟩ : Addr).add i = ⟨b, 0 + i, none⟩ := by unfold Addr.add; split <;> simp_all
  rw [e2, Nat.zero_add] at this
  exact this
set_option maxHeartbeats 1000000 in
theorem ksame_any (b1 b2 c1 c2 n : Nat) (l : List Int) (w : World) (hm : n ≤ 1000000) (h1 : ∀ i, i < n → w.cell? ⟨b1, i, none⟩ = some (.int .i64 (l.getD i 0))) (h2 : ∀ i, i < n → w.cell? ⟨b2, i, none⟩ = some (.int .i64 (l.getD i 0))) :
    Calls Tryz.prog 24 #[.slice (some ⟨b1, 0, none⟩) n c1, .slice (some ⟨b2, 0, none⟩) n c2] w fun e w' => e = .returned (.bool true) ∧ Below w.heap.size w w' := by
  have H1 := hide h1
  have H2 := hide h2
  clear h1 h2
  go_enter Tryz.func24, Tryz.ntmps24
  go_wp2_with fail
  go_loopw [5] (fun t wr => ∃ k : Nat, k ≤ n ∧ t = .int .i64 k ∧ Below w.heap.size w wr) (fun t _ => n - (intOf t).toNat)
  case atStart => exact ⟨0, by omega, rfl, Below.refl _ _⟩
  case round =>
    obtain ⟨k, hk, rfl, hB⟩ := hrel
    by_cases hlt : k < n
    · have q1 := H1.out k hlt
      have q2 := H2.out k hlt
      have l1 := lt_of_cell q1
      have l2 := lt_of_cell q2
      have c1' : wr.cell? ⟨b1, k, none⟩ = some (.int .i64 (l.getD k 0)) := (hB.cell (p := ⟨b1, k, none⟩) l1).trans q1
      have c2' : wr.cell? ⟨b2, k, none⟩ = some (.int .i64 (l.getD k 0)) := (hB.cell (p := ⟨b2, k, none⟩) l2).trans q2
      have HB := hide hB
      clear hB q1 q2 l1 l2
      generalize l.getD k 0 = x at *
      go_wp2_with fail
      go_region
      all_goals
        go_wp2
        go_roundw
        case rel => exact ⟨k + 1, by omega, by go_num, HB.out.trans ⟨rfl, rfl, rfl, Nat.le_refl _, fun _ _ => rfl⟩⟩
        case measure => simp [intOf]; omega
    · obtain rfl : k = n := by omega
      have HB := hide hB
      clear hB
      go_wp2
      go_ret
      exact ⟨rfl, HB.out⟩
end Go.Proofs.YtnjlbgolnbdkaaaGreat
