/- Texts of the proof of Boots, one behind the other. -/
import Derived.Test.YtnjlbgolnbdkaaaGreatJ27
import Derived.Test.YtnjlbgolnbdkaaaGreatJ22
import Derived.Deep.RegionLaw
import Derived.Deep.CutRange
import Derived.Test.YtnjlbgolnbdkaaaGreatJ09
/- The program's start: all partitions. -/
namespace Go.Proofs.YtnjlbgolnbdkaaaGreat
open Go.RowKit

/- where the partitions of a configuration lie -/
structure CLay where
  px : Nat
  pc : Nat
  q : Nat → Nat
  c : Nat → Nat
  l : Nat → List (Pr × Value)
structure PartsMem (w : World) (D : CLay) (ps : List Pt) : Prop where
  row : ∀ j p, ps[j]? = some p → w.cell? ⟨D.px, j * 10, none⟩ = some (.bool p.sys) ∧ w.cell? ⟨D.px, j * 10 + 1, none⟩ = some (.int .i64 p.words) ∧ w.cell? ⟨D.px, j * 10 + 2, none⟩ = some (.int .i64 p.limit) ∧ w.cell? ⟨D.px, j * 10 + 3, none⟩ = some (.int .i64 (p.acts.getD 0 0)) ∧ w.cell? ⟨D.px, j * 10 + 4, none⟩ = some (.int .i64 (p.acts.getD 1 0)) ∧ w.cell? ⟨D.px, j * 10 + 5, none⟩ = some (.int .i64 (p.acts.getD 2 0)) ∧ w.cell? ⟨D.px, j * 10 + 6, none⟩ = some (.int .i64 (p.acts.getD 3 0)) ∧ w.cell? ⟨D.px, j * 10 + 7, none⟩ = some (.int .i64 (p.acts.getD 4 0)) ∧ w.cell? ⟨D.px, j * 10 + 8, none⟩ = some (.int .i64 (p.acts.getD 5 0)) ∧ w.cell? ⟨D.px, j * 10 + 9, none⟩ = some (.slice (some ⟨D.q j, 0, none⟩) (D.l j).length (D.c j))
  procs : ∀ j p, ps[j]? = some p → (D.l j).map Prod.fst = p.procs ∧ ProcsAt w (D.q j) (D.c j) (D.l j) (prioOf p) ∧ ∀ r ∈ D.l j, CodeV 0 r.2 r.1.code w
theorem PartsMem.keep {w w' : World} {D : CLay} {ps : List Pt} (h : PartsMem w D ps) (hb : Below w.heap.size w w') : PartsMem w' D ps := by
  refine ⟨fun j p hp => ?_, fun j p hp => ?_⟩
  · obtain ⟨r0, r1, r2, r3, r4, r5, r6, r7, r8, r9⟩ := h.row j p hp
    have hk := hb.block D.px (lt_of_cell r0)
    exact ⟨(cell_same hk _).trans r0, (cell_same hk _).trans r1, (cell_same hk _).trans r2, (cell_same hk _).trans r3, (cell_same hk _).trans r4, (cell_same hk _).trans r5, (cell_same hk _).trans r6, (cell_same hk _).trans r7, (cell_same hk _).trans r8, (cell_same hk _).trans r9⟩
  · obtain ⟨h1, h2, h3⟩ := h.procs j p hp
    exact ⟨h1, h2.keep hb.size (hb.block _ h2.lt), fun r hr => own_keep (h3 r hr) (fun b e => hb.block b (World.ownsRow.lt (h3 r hr) b e).2)⟩

/- partitions as they start, in memory -/
structure Parts0 (w : World) (lo : Nat) (D : CLay) (ps : List Pt) (log : List (Nat → Int)) (n : Nat) (wd pr tn : Nat → Nat) : Prop where
  words : ∀ i p, i < n → ps[i]? = some p → lo ≤ wd i ∧ w.heap[wd i]? = some (.cells ((List.replicate p.words.toNat (0 : Int)).map (Value.int .i64)).toArray 3 (0, 0))
  procs : ∀ i p, i < n → ps[i]? = some p → lo ≤ pr i ∧ w.heap[pr i]? = some (.cells ((D.l i).flatMap fun p => mprocCells p.2 proc0).toArray 166 (0, 0))
  turns : ∀ i p, i < n → ps[i]? = some p → lo ≤ tn i ∧ w.heap[tn i]? = some (.cells ((turnI p.procs.length (prioOf p)).map (Value.int .i64)).toArray 3 (0, 0))
  wdwd : ∀ i j, i < n → j < n → wd i = wd j → i = j
  prpr : ∀ i j, i < n → j < n → pr i = pr j → i = j
  wdtn : ∀ i j, i < n → j < n → wd i ≠ tn j
theorem Parts0.keep {w w' : World} {lo n : Nat} {D : CLay} {ps : List Pt} {log : List (Nat → Int)} {wd pr tn : Nat → Nat} (h : Parts0 w lo D ps log n wd pr tn) (hk : ∀ b, lo ≤ b → b < w.heap.size → w'.heap[b]? = w.heap[b]?) : Parts0 w' lo D ps log n wd pr tn :=
  ⟨fun i p hi hp => ⟨(h.words i p hi hp).1, (hk _ (h.words i p hi hp).1 (lt_of_heap (h.words i p hi hp).2)).trans (h.words i p hi hp).2⟩, fun i p hi hp => ⟨(h.procs i p hi hp).1, (hk _ (h.procs i p hi hp).1 (lt_of_heap (h.procs i p hi hp).2)).trans (h.procs i p hi hp).2⟩, fun i p hi hp => ⟨(h.turns i p hi hp).1, (hk _ (h.turns i p hi hp).1 (lt_of_heap (h.turns i p hi hp).2)).trans (h.turns i p hi hp).2⟩, h.wdwd, h.prpr, h.wdtn⟩

def elP (a b d : Nat) (i : Nat) (c : Pt) (mo : Int) (nw np : Nat) : El := ⟨fun | 0 => i | 1 => c.limit | 2 => c.acts.getD 0 0 | 3 => c.acts.getD 1 0 | 4 => c.acts.getD 2 0 | 5 => c.acts.getD 3 0 | 6 => c.acts.getD 4 0 | 7 => c.acts.getD 5 0 | 8 => mo | _ => 0, c.sys, fun | 0 => some ⟨a, 0, none⟩ | 1 => some ⟨b, 0, none⟩ | _ => some ⟨d, 0, none⟩, fun | 0 => nw | _ => np, fun | 0 => nw | _ => np, none⟩

theorem parts_any (cb lb base : Nat) (D : CLay) (ps : List Pt) (v : Value) (log : List (Nat → Int)) (w : World) (hn : ps.length ≤ 4) (hg : ∀ p ∈ ps, PtGood p) (hlog : log.length ≤ 100) (hv : RecsV base v log w) (hm : PartsMem w D ps) (h0 : w.cell? ⟨cb, 2, none⟩ = some (.slice (some ⟨D.px, 0, none⟩) ps.length D.pc)) (h1 : w.cell? ⟨lb, 0, none⟩ = some v) :
    Calls Tryz.prog 49 #[.int .i64 ps.length, .func (.func 50) #[] #[.pointer (some ⟨cb, 0, none⟩), .pointer (some ⟨lb, 0, none⟩)]] w fun e w' => ∃ (y : Nat) (wd pr tn : Nat → Nat), e = .returned (.agg #[.slice (some ⟨y, 0, none⟩) ps.length ps.length]) ∧ w.heap.size ≤ y ∧ w'.heap[y]? = some (.cells (rowsL ps.length fun i => mpartC (wd i) (pr i) (tn i) i (ps.getD i default) (part0 log i (ps.getD i default))).toArray 120 (0, 0)) ∧ Parts0 w' w.heap.size D ps log ps.length wd pr tn ∧ Below w.heap.size w w' := by
  refine (makePart_any cb lb ps.length (by omega) (fun _ => False) w (fun _ h => h.elim) (fun j r W => ∃ wd pr tn : Nat → Nat, r.flatMap mkpC = rowsL j (fun i => mpartC (wd i) (pr i) (tn i) i (ps.getD i default) (part0 log i (ps.getD i default))) ∧ Parts0 W (w.heap.size + 3) D ps log j wd pr tn ∧ Touch (fun b => w.heap.size ≤ b) w W) ?_ (fun j r W hj hI hsW => ?_) ⟨fun _ => 0, fun _ => 0, fun _ => 0, by simp [rowsL], ⟨fun i p hi => by omega, fun i p hi => by omega, fun i p hi => by omega, fun i j hi => by omega, fun i j hi => by omega, fun i j hi => by omega⟩, Touch.refl _ _⟩).mono ?_
  · rintro j r W W' ⟨wd, pr, tn, h1, h2, h3⟩ t
    exact ⟨wd, pr, tn, h1, h2.keep (fun b hb hl => t.block b hl (by omega)), h3.trans t (fun i hi => .inl hi.1)⟩
  · obtain ⟨wd, pr, tn, hr, hP, hT⟩ := hI
    have hB : Below w.heap.size w W := hT.below (Nat.le_refl _) (fun k hk => hk)
    have hp := List.getElem?_eq_getElem hj
    have hdj : ps.getD j default = ps[j] := by rw [List.getD_eq_getElem?_getD, hp]; rfl
    have hgp := hg _ (List.getElem_mem hj)
    have hM := hm.keep hB
    obtain ⟨r0, r1, r2, r3, r4, r5, r6, r7, r8, r9⟩ := hM.row j _ hp
    obtain ⟨p1, p2, p3⟩ := hM.procs j _ hp
    have hlen : (D.l j).length = (ps[j]).procs.length := by rw [← p1, List.length_map]
    obtain ⟨wn, hwn⟩ := Int.eq_ofNat_of_zero_le (show 0 ≤ (ps[j]).words by have := hgp.words; omega)
    rw [hwn] at r1
    have hw16 := hgp.words.2
    refine (startOne_any cb lb D.px ps.length D.pc j _ wn _ _ _ _ _ _ _ _ _ _ _ base v log W hj (by omega) hlog (own_keep hv (fun b e => hB.block b (World.ownsRow.lt hv b e).2)) p2 ⟨(cell_same (hB.block cb (lt_of_cell h0)) _).trans h0, (cell_same (hB.block lb (lt_of_cell h1)) _).trans h1, r0, r1, r2, r3, r4, r5, r6, r7, r8, r9⟩).mono ?_
    rintro e w' ⟨xw, xp, xt, rfl, ⟨x1, x2, x3, x4⟩, b1, b2, b3, hb⟩
    refine ⟨elP xw xp xt j (ps[j]) (modeOf log j) wn (D.l j).length, rfl, ⟨fun i => if i = j then xw else wd i, fun i => if i = j then xp else pr i, fun i => if i = j then xt else tn i, ?_, ?_, hT.trans (Touch.ofBelow (S := fun _ => False) hb) (fun _ h => h.elim)⟩, Touch.ofBelow hb⟩
    · rw [List.flatMap_append, hr, rowsL_succ]
      congr 1
      · exact rowsL_congr _ _ _ (fun i hi => by simp only [if_neg (show ¬ i = j by omega)])
      · simp only [if_pos]
        rw [hdj]
        simp only [List.flatMap_cons, List.flatMap_nil, List.append_nil, mkpC, elP, mpartC, part0, List.length_replicate, hlen, hwn, Int.toNat_natCast]
    · have hP' := hP.keep (w' := w') (fun b hb' hl => hb.block b hl)
      have lw : ∀ i, i < j → wd i < W.heap.size := fun i hi => lt_of_heap (hP.words i _ hi (List.getElem?_eq_getElem (by omega))).2
      have lp : ∀ i, i < j → pr i < W.heap.size := fun i hi => lt_of_heap (hP.procs i _ hi (List.getElem?_eq_getElem (by omega))).2
      have lt : ∀ i, i < j → tn i < W.heap.size := fun i hi => lt_of_heap (hP.turns i _ hi (List.getElem?_eq_getElem (by omega))).2
      refine ⟨fun i p hi hip => ?_, fun i p hi hip => ?_, fun i p hi hip => ?_, fun i k hi hk he => ?_, fun i k hi hk he => ?_, fun i k hi hk => ?_⟩
      · by_cases hij : i = j
        · subst hij
          rw [hp] at hip
          obtain rfl := Option.some.inj hip
          simp only [if_pos]
          exact ⟨by omega, by rw [hwn]; exact b1⟩
        · simp only [if_neg hij]
          exact hP'.words i p (by omega) hip
      · by_cases hij : i = j
        · subst hij
          simp only [if_pos]
          exact ⟨by omega, b2⟩
        · simp only [if_neg hij]
          exact hP'.procs i p (by omega) hip
      · by_cases hij : i = j
        · subst hij
          rw [hp] at hip
          obtain rfl := Option.some.inj hip
          simp only [if_pos]
          exact ⟨by omega, by rw [← hlen]; exact b3⟩
        · simp only [if_neg hij]
          exact hP'.turns i p (by omega) hip
      · by_cases hij : i = j
        · by_cases hkj : k = j
          · omega
          · simp only [if_pos hij, if_neg hkj] at he
            have := lw k (by omega)
            omega
        · by_cases hkj : k = j
          · simp only [if_neg hij, if_pos hkj] at he
            have := lw i (by omega)
            omega
          · simp only [if_neg hij, if_neg hkj] at he
            exact hP.wdwd i k (by omega) (by omega) he
      · by_cases hij : i = j
        · by_cases hkj : k = j
          · omega
          · simp only [if_pos hij, if_neg hkj] at he
            have := lp k (by omega)
            omega
        · by_cases hkj : k = j
          · simp only [if_neg hij, if_pos hkj] at he
            have := lp i (by omega)
            omega
          · simp only [if_neg hij, if_neg hkj] at he
            exact hP.prpr i k (by omega) (by omega) he
      · by_cases hij : i = j
        · by_cases hkj : k = j
          · simp only [if_pos hij, if_pos hkj]
            exact x4
          · simp only [if_pos hij, if_neg hkj]
            have := lt k (by omega)
            omega
        · by_cases hkj : k = j
          · simp only [if_neg hij, if_pos hkj]
            have := lw i (by omega)
            omega
          · simp only [if_neg hij, if_neg hkj]
            exact hP.wdtn i k (by omega) (by omega)
  · rintro e w' ⟨y, r, rfl, ⟨wd, pr, tn, hr, hP, ht⟩, _, hown⟩
    obtain ⟨g1, g2⟩ := own_cells hown
    refine ⟨y, wd, pr, tn, rfl, g1, by rw [g2, show mkpsC r = _ from hr], ⟨fun i p hi hp => ⟨by have := (hP.words i p hi hp).1; omega, (hP.words i p hi hp).2⟩, fun i p hi hp => ⟨by have := (hP.procs i p hi hp).1; omega, (hP.procs i p hi hp).2⟩, fun i p hi hp => ⟨by have := (hP.turns i p hi hp).1; omega, (hP.turns i p hi hp).2⟩, hP.wdwd, hP.prpr, hP.wdtn⟩, ht.below (Nat.le_refl _) (fun k hk => hk)⟩
end Go.Proofs.YtnjlbgolnbdkaaaGreat
/- The document's Boot. -/
namespace Go.Proofs.YtnjlbgolnbdkaaaGreat
open Go.RowKit

theorem rdTo_mem {α : Type} (f : Rd → α × Rd) (k : Nat) (r : Rd) : ∀ x ∈ (rdTo f k r).1, ∃ r', x = (f r').1 := by
  induction k with
  | zero => intro x hx; simp [rdTo] at hx
  | succ k ih =>
    intro x hx
    by_cases he : (rdTo f k r).2.err = 0
    · rw [rdTo_go f k r he] at hx
      rcases List.mem_append.1 hx with hx | hx
      · exact ih x hx
      · exact ⟨_, List.mem_singleton.1 hx⟩
    · rw [rdTo_stop f k r he (k + 1) (by omega)] at hx
      exact ih x hx
theorem rdTo_le {α : Type} (f : Rd → α × Rd) (k : Nat) (r : Rd) : (rdTo f k r).1.length ≤ k := by
  induction k with
  | zero => exact Nat.le_refl _
  | succ k ih =>
    by_cases he : (rdTo f k r).2.err = 0
    · rw [rdTo_go f k r he, List.length_append]; simp; exact ih
    · rw [rdTo_stop f k r he (k + 1) (by omega)]; omega
structure CfSmall (cf : Cf) : Prop where
  parts : cf.parts.length ≤ 4
  procs : ∀ p ∈ cf.parts, (1 ≤ p.words ∧ p.words ≤ 16) ∧ p.procs.length ≤ 2
  wins : cf.wins.length ≤ 8
  chans : cf.chans.length ≤ 4
theorem conf_small (zs : List Int) : CfSmall (rdConf zs).1 := by
  refine ⟨Nat.le_trans (rdTo_le _ _ _) ?_, fun p hp => ?_, Nat.le_trans (rdTo_le _ _ _) ?_, Nat.le_trans (rdTo_le _ _ _) ?_⟩
  · have := fun r => (rdB_val zs 1 4 r (by omega)).2
    have := this (rdB zs 72 72 ⟨0, 0, 0, 0⟩).2
    omega
  · obtain ⟨r', rfl⟩ := rdTo_mem _ _ _ p hp
    refine ⟨part_words zs r', Nat.le_trans (rdTo_le _ _ _) ?_⟩
    have := (rdB_val zs 1 2 (rdActs zs 6 (rdB zs 0 9 (rdB zs 1 16 (rdB zs 0 1 r').2).2).2).2 (by omega)).2
    omega
  · generalize (rdTo (rdPart zs) _ _).2 = r
    have := (rdB_val zs 1 8 r (by omega)).2
    omega
  · generalize (rdTo (rdWin zs _ _) _ _).2 = r
    have := (rdB_val zs 0 4 r (by omega)).2
    omega
theorem noCf_small : CfSmall noCf := ⟨by simp [noCf], fun p hp => by simp [noCf] at hp, by simp [noCf], by simp [noCf]⟩
theorem parse_small (zs : List Int) : CfSmall (parseOf zs).1 := by
  unfold parseOf
  simp only
  repeat' split
  all_goals first | exact noCf_small | exact conf_small zs
theorem partsTo_length (log : List (Nat → Int)) (ps : List Pt) (k : Nat) (h : k ≤ ps.length) : (partsTo log ps k).length = k := by
  induction k with
  | zero => rfl
  | succ k ih =>
    show (partsTo log ps k ++ _).length = k + 1
    rw [List.length_append, ih (by omega), List.getElem?_eq_getElem (by omega)]
    rfl
abbrev confObj (fr wt : Int) (vP vW vC : Value) : Obj := .cells #[.int .i64 fr, .int .i64 wt, vP, vW, vC] 71

set_option maxRecDepth 100000 in
set_option maxHeartbeats 4000000 in
theorem rboot_any (ao : Option Addr) (n cap : Nat) (zs : List Int) (g : Nat) (bs : List Int) (left res : Int) (dead : Bool) (done : Int) (w : World) (hz : Held w ao n cap zs) (hn : n ≤ 140737488351232) (hF : FlashAt w g bs left res dead done) :
    Calls Tryz.prog 60 #[.slice ao n cap, .pointer (some ⟨g, 0, none⟩)] w fun e w' => (((parseOf zs).2.2 ≠ 0 ∧ e = .returned (.tuple #[.pointer none, .int .i64 (parseOf zs).2.2])) ∨ ((parseOf zs).2.2 = 0 ∧ ∃ kb, e = .returned (.tuple #[.pointer (some ⟨kb, 0, none⟩), .int .i64 0]) ∧ RefK w.heap.size kb g (bootSt (parseOf zs).1 bs) w')) ∧ Below w.heap.size w w' := by
  obtain ⟨i0, hi, hz0, hz1, hz2⟩ := info_parts Tryz.info40
  obtain ⟨j0, hj, hj0, hj1, hj2⟩ := info_parts Tryz.info3
  obtain ⟨k0, hk, hk0, hk1, hk2⟩ := info_parts Tryz.info198
  obtain ⟨l0, hl, hl0, hl1, hl2⟩ := info_parts Tryz.info200
  have HP := hide (rparse_any ao n cap zs w hz hn)
  have HF := hide hF
  have hSM := parse_small zs
  clear hz hF
  generalize parseOf zs = P at HP hSM ⊢
  obtain ⟨cf, pl, er⟩ := P
  have HSM := hide hSM
  have hch := hSM.chans
  have hpn4 := hSM.parts
  clear hSM
  simp only [cfCells] at HP
  show Calls Tryz.prog 60 #[.slice ao n cap, .pointer (some ⟨g, 0, none⟩)] w fun e w' => ((er ≠ 0 ∧ e = .returned (.tuple #[.pointer none, .int .i64 er])) ∨ (er = 0 ∧ ∃ kb, e = .returned (.tuple #[.pointer (some ⟨kb, 0, none⟩), .int .i64 0]) ∧ RefK w.heap.size kb g (bootSt cf bs) w')) ∧ Below w.heap.size w w'
  go_enter Tryz.func60, Tryz.ntmps60
  go_wp2_with fail
  refine HP.out.mono ?_
  rintro e w1 ⟨vP, vW, vC, rfl, hV, hb1⟩
  obtain ⟨aP, kP, qP, rfl⟩ : ∃ a m c, vP = .slice a m c := by obtain ⟨l, _, h2, _⟩ := hV.parts; obtain ⟨a, c, h⟩ := own_slice h2; exact ⟨a, _, c, h⟩
  obtain ⟨aW, qW, rfl⟩ := own_slice hV.wins
  obtain ⟨aC, qC, rfl⟩ := own_slice hV.chans
  have hs1 := hb1.size
  have HB1 := hide hb1
  have HV := hide hV
  clear hb1 hV HP
  have HB2 : Hid (Below w.heap.size w (w1.alloc (confObj cf.frame cf.watch (.slice aP kP qP) (.slice aW cf.wins.length qW) (.slice aC cf.chans.length qC)))) := HB1.out.alloc hs1 _
  by_cases her : er = 0
  · subst her
    have hmk : ∀ W : World, (Instr.makeSlice 83 (.int .i64 (cf.chans.length : Int)) (.int .i64 (cf.chans.length : Int))).run Tryz.prog W = .ok (.slice (some ⟨W.heap.size, 0, none⟩) cf.chans.length cf.chans.length) (W.alloc (.cells (madeCells #[Value.slice none 0 0] (cf.chans.length * 1)) 40)) := by
      intro W
      have := run_make (P := Tryz.prog) (w := W) 83 40 i0 _ Tryz.underlying83 hi hz0 .i64 .i64 (cf.chans.length : Int) (cf.chans.length : Int) (by omega) (by omega) (by rw [hz2]; omega) (by omega)
      simpa [hz1, Value.cells] using this
    generalize hM : madeCells #[Value.slice none 0 0] (cf.chans.length * 1) = M at hmk
    have HM := hide hM
    clear hM
    obtain ⟨w2, hw2⟩ : ∃ w2, w2 = w1.alloc (confObj cf.frame cf.watch (.slice aP kP qP) (.slice aW cf.wins.length qW) (.slice aC cf.chans.length qC)) := ⟨_, rfl⟩
    have hs2 : w2.heap.size = w1.heap.size + 1 := by rw [hw2]; simp
    have hcb : w2.heap[w1.heap.size]? = some (confObj cf.frame cf.watch (.slice aP kP qP) (.slice aW cf.wins.length qW) (.slice aC cf.chans.length qC)) := by rw [hw2]; exact heap_alloc_new w1 _
    have HV2 : Hid (ConfV w.heap.size (.slice aP kP qP) (.slice aW cf.wins.length qW) (.slice aC cf.chans.length qC) cf w2) := by show ConfV _ _ _ _ _ _; rw [hw2]; exact HV.out.keep (fun b _ h2 => Below.heap_alloc w1 _ b h2)
    rw [← hw2] at HB2
    have HCB := hide hcb
    have HW2 := hide hw2
    have b0 : w2.cell? ⟨w1.heap.size, 0, none⟩ = some (.int .i64 cf.frame) := by rw [cell_of_row _ _ _ _ _ _ hcb]; rfl
    have b1 : w2.cell? ⟨w1.heap.size, 1, none⟩ = some (.int .i64 cf.watch) := by rw [cell_of_row _ _ _ _ _ _ hcb]; rfl
    have b2 : w2.cell? ⟨w1.heap.size, 2, none⟩ = some (.slice aP kP qP) := by rw [cell_of_row _ _ _ _ _ _ hcb]; rfl
    have b3 : w2.cell? ⟨w1.heap.size, 3, none⟩ = some (.slice aW cf.wins.length qW) := by rw [cell_of_row _ _ _ _ _ _ hcb]; rfl
    have b4 : w2.cell? ⟨w1.heap.size, 4, none⟩ = some (.slice aC cf.chans.length qC) := by rw [cell_of_row _ _ _ _ _ _ hcb]; rfl
    have e0 : (w2.alloc (.cells M 40)).cell? ⟨w1.heap.size, 0, none⟩ = some (.int .i64 cf.frame) := by rw [World.cell?_of_block (w := w2) (Below.heap_alloc w2 _ w1.heap.size (by omega))]; exact b0
    have e1 : (w2.alloc (.cells M 40)).cell? ⟨w1.heap.size, 1, none⟩ = some (.int .i64 cf.watch) := by rw [World.cell?_of_block (w := w2) (Below.heap_alloc w2 _ w1.heap.size (by omega))]; exact b1
    have e2 : (w2.alloc (.cells M 40)).cell? ⟨w1.heap.size, 2, none⟩ = some (.slice aP kP qP) := by rw [World.cell?_of_block (w := w2) (Below.heap_alloc w2 _ w1.heap.size (by omega))]; exact b2
    have e3 : (w2.alloc (.cells M 40)).cell? ⟨w1.heap.size, 3, none⟩ = some (.slice aW cf.wins.length qW) := by rw [World.cell?_of_block (w := w2) (Below.heap_alloc w2 _ w1.heap.size (by omega))]; exact b3
    have e4 : (w2.alloc (.cells M 40)).cell? ⟨w1.heap.size, 4, none⟩ = some (.slice aC cf.chans.length qC) := by rw [World.cell?_of_block (w := w2) (Below.heap_alloc w2 _ w1.heap.size (by omega))]; exact b4
    have HFIN : Hid (∀ wx : World, wx.heap = ((w2.alloc (.cells M 40)).alloc (.cells (rkCells cf.frame cf.watch (.slice aP kP qP) (.slice aW cf.wins.length qW) (.slice aC cf.chans.length qC) g (.slice none 0 0) (.slice (some ⟨w2.heap.size, 0, none⟩) cf.chans.length cf.chans.length) 0 false) 151)).heap → wx.os = w2.os → wx.tape = w2.tape → wx.output = w2.output → Touch (fun _ => False) w2 wx ∧ wx.heap[w2.heap.size + 1]? = some (.cells (rkCells cf.frame cf.watch (.slice aP kP qP) (.slice aW cf.wins.length qW) (.slice aC cf.chans.length qC) g (.slice none 0 0) (.slice (some ⟨w2.heap.size, 0, none⟩) cf.chans.length cf.chans.length) 0 false) 151 (0, 0)) ∧ wx.heap[w2.heap.size]? = some (.cells M 40 (0, 0))) := by
      intro wx h1 h2 h3 h4
      have t : Touch (fun _ => False) w2 ((w2.alloc (.cells M 40)).alloc (.cells (rkCells cf.frame cf.watch (.slice aP kP qP) (.slice aW cf.wins.length qW) (.slice aC cf.chans.length qC) g (.slice none 0 0) (.slice (some ⟨w2.heap.size, 0, none⟩) cf.chans.length cf.chans.length) 0 false) 151)) := Touch.trans (Touch.alloc _ _) (Touch.alloc _ _) (fun _ h => .inl h)
      refine ⟨⟨h2, h3, h4, by rw [h1]; exact t.size, fun k hk hs => by rw [h1]; exact t.block k hk hs⟩, ?_, ?_⟩
      · rw [h1]
        have := heap_alloc_new (w2.alloc (.cells M 40)) (.cells (rkCells cf.frame cf.watch (.slice aP kP qP) (.slice aW cf.wins.length qW) (.slice aC cf.chans.length qC) g (.slice none 0 0) (.slice (some ⟨w2.heap.size, 0, none⟩) cf.chans.length cf.chans.length) 0 false) 151)
        rwa [show (w2.alloc (.cells M 40)).heap.size = w2.heap.size + 1 from by simp] at this
      · rw [h1, Below.heap_alloc _ _ _ (by simp)]
        exact heap_alloc_new w2 _
    have HS2 := hide hs2
    clear hcb hw2 hs2
    go_wp2_with fail
    rw [← HW2.out]
    go_cut [9] from 24 to 31 (fun s9 wx => s9 = .pointer (some ⟨w2.heap.size + 1, 0, none⟩) ∧ Touch (fun _ => False) w2 wx ∧ wx.heap[w2.heap.size + 1]? = some (.cells (rkCells cf.frame cf.watch (.slice aP kP qP) (.slice aW cf.wins.length qW) (.slice aC cf.chans.length qC) g (.slice none 0 0) (.slice (some ⟨w2.heap.size, 0, none⟩) cf.chans.length cf.chans.length) 0 false) 151 (0, 0)) ∧ wx.heap[w2.heap.size]? = some (.cells M 40 (0, 0)))
    case first =>
      go_region
      all_goals (go_wp2_with fail; go_meet; exact ⟨by simp, HFIN.out _ rfl rfl rfl rfl⟩)
    case rest =>
    obtain ⟨rfl, hT, hK, hQ⟩ := hcut
    have hs2 := HS2.out
    have hsc := hT.size
    have hkbc := lt_of_block hK
    have hBc : Below w.heap.size w wc := HB2.out.trans (hT.below (by omega) (fun _ h => h.elim))
    have HLOG := hide (rlog_any g bs left res dead done wc (HF.out.below hBc))
    have HBc := hide hBc
    have HK := hide hK
    have HQ := hide hQ
    have HT := hide hT
    clear hT hK hQ hBc b0 b1 b2 b3 b4 e0 e1 e2 e3 e4 hmk HFIN
    obtain ⟨LG, hLGe⟩ : ∃ LG, LG = logOf bs := ⟨_, rfl⟩
    rw [← hLGe] at HLOG
    have HLGE := hide hLGe
    clear hLGe
    go_wp2_with fail
    refine HLOG.out.mono ?_
    rintro e w3 ⟨vL, rfl, ⟨hVL, _⟩, hb3⟩
    have hs3 := hb3.size
    obtain ⟨aL, cL, rfl, hrd⟩ := recs_read hVL
    obtain rfl : kP = cf.parts.length := by obtain ⟨l, h1, h2, _⟩ := HV2.out.parts; rw [← h1, List.length_map]; obtain ⟨a, c, h⟩ := own_slice h2; simp at h; exact h.2.1
    have HE : Hid (∀ W : World, Touch (fun b => b = w2.heap.size + 1 ∨ w3.heap.size ≤ b) w3 W → W.cell? ⟨w1.heap.size, 2, none⟩ = some (.slice aP cf.parts.length qP) ∧
        (∀ k p, cf.parts[k]? = some p → ∃ gP ap cp, aP = some ⟨gP, 0, none⟩ ∧ W.cell? ⟨gP, k * 10 + 1, none⟩ = some (.int .i64 p.words) ∧ W.cell? ⟨gP, k * 10 + 9, none⟩ = some (.slice ap p.procs.length cp)) ∧
        (∀ m r, LG[m]? = some r → ∃ gl, aL = some ⟨gl, 0, none⟩ ∧ W.cell? ⟨gl, m * 5 + 1, none⟩ = some (.int .i64 (r 1)) ∧ W.cell? ⟨gl, m * 5 + 4, none⟩ = some (.int .i64 (r 4)))) := by
      intro W hW
      have tw : ∀ b, b < wc.heap.size → b ≠ w2.heap.size + 1 → W.heap[b]? = wc.heap[b]? := fun b h1 h2 => (hW.block b (by omega) (by rintro (h | h); exact h2 h; omega)).trans (hb3.block b h1)
      have t2 : ∀ b, b < w2.heap.size → W.heap[b]? = w2.heap[b]? := fun b h1 => (tw b (by omega) (by omega)).trans (HT.out.block b h1 (fun h => h))
      refine ⟨?_, ?_, ?_⟩
      · have : W.heap[w1.heap.size]? = some (confObj cf.frame cf.watch (.slice aP cf.parts.length qP) (.slice aW cf.wins.length qW) (.slice aC cf.chans.length qC)) := (t2 _ (by omega)).trans HCB.out
        rw [cell_of_row _ _ _ _ _ _ this]; rfl
      · intro k p hp
        have hPV : PartsV w.heap.size (.slice aP cf.parts.length qP) cf.parts W := HV2.out.parts.keep (fun b _ h2 _ => t2 b h2)
        obtain ⟨l, h1, h2, h3⟩ := hPV
        obtain ⟨_, ad', c', hv', hr⟩ := own_read (fun p : Pt × Value => (ptCells p.1.sys p.1.words p.1.limit (fun i => p.1.acts.getD i 0) p.2).toList) (fun _ => rfl) l rfl h2
        simp at hv'
        obtain ⟨rfl, -, rfl⟩ := hv'
        obtain ⟨q, hq, hqp⟩ : ∃ q, l[k]? = some q ∧ q.1 = p := by
          rw [← h1, List.getElem?_map] at hp
          cases h : l[k]? with
          | none => rw [h] at hp; simp at hp
          | some q => rw [h] at hp; exact ⟨q, rfl, by simpa using hp⟩
        obtain ⟨gP, hg, hc⟩ := hr k q hq
        subst hqp
        obtain ⟨lp, hlp, hlo, _⟩ := h3 q (List.mem_of_getElem? hq)
        obtain ⟨ap, cp, hap⟩ := own_slice hlo
        refine ⟨gP, ap, cp, hg, hc 1 (by omega), ?_⟩
        have := hc 9 (by omega)
        rw [this, ← hlp, List.length_map, ← hap]
        rfl
      · intro m r hr
        have hV' : RecsV wc.heap.size (.slice aL LG.length cL) LG W := own_keep hVL (fun b e => hW.block b (World.ownsRow.lt hVL b e).2 (by have := World.ownsRow.lt hVL b e; rintro (h | h) <;> omega))
        obtain ⟨ad, c, hv, hrd'⟩ := recs_read hV'
        simp at hv
        obtain ⟨rfl, rfl⟩ := hv
        obtain ⟨gl, h1, _, h2, _, _, h3⟩ := hrd' m r hr
        exact ⟨gl, h1, h2, h3⟩
    have hLG : LG.length ≤ 9223372036854775807 := (own_read recCells (fun _ => rfl) LG rfl hVL).1
    have HK3 : Hid (w3.heap[w2.heap.size + 1]? = some (.cells (rkCells cf.frame cf.watch (.slice aP cf.parts.length qP) (.slice aW cf.wins.length qW) (.slice aC cf.chans.length qC) g (.slice none 0 0) (.slice (some ⟨w2.heap.size, 0, none⟩) cf.chans.length cf.chans.length) 0 false) 151 (0, 0))) := (hb3.block _ hkbc).trans HK.out
    have HT3 : Hid (Touch (fun _ => False) w2 w3) := Touch.trans HT.out (Touch.ofBelow (S := fun _ => False) hb3) (fun _ h => .inl h)
    have HQ3 : Hid (w3.heap[w2.heap.size]? = some (.cells M 40 (0, 0))) := (hb3.block _ (by omega)).trans HQ.out
    clear hrd hVL hb3 HLOG HK HT HQ
    generalize hkb : w2.heap.size + 1 = kb at *
    have hkb3 : kb < w3.heap.size := by omega
    have hcb3 : w1.heap.size < w3.heap.size ∧ w1.heap.size ≠ kb := by omega
    go_wp2
    go_loopw [11] (fun i wr => ∃ (k : Nat) (vR : Value), k ≤ cf.parts.length ∧ i = .int .i64 k ∧ wr.heap[kb]? = some (.cells (rkCells cf.frame cf.watch (.slice aP cf.parts.length qP) (.slice aW cf.wins.length qW) (.slice aC cf.chans.length qC) g vR (.slice (some ⟨w2.heap.size, 0, none⟩) cf.chans.length cf.chans.length) 0 false) 151 (0, 0)) ∧ RPartsV w3.heap.size vR (partsTo LG cf.parts k) wr ∧ Touch (fun b => b = kb ∨ w3.heap.size ≤ b) w3 wr) (fun i _ => cf.parts.length - (intOf i).toNat)
    case atStart => exact ⟨0, .slice none 0 0, by omega, rfl, HK3.out, ⟨[], rfl, World.ownsRow_nil _ _ _ _, fun q hq => by simp at hq⟩, Touch.refl _ _⟩
    case round =>
      obtain ⟨k, vR, hkN, rfl, hK, hR, hT⟩ := hrel
      obtain ⟨x2, hpp, hll⟩ := HE.out wr hT
      by_cases hlt : k < cf.parts.length
      · obtain ⟨p, hp⟩ : ∃ p, cf.parts[k]? = some p := ⟨cf.parts[k], List.getElem?_eq_getElem hlt⟩
        obtain ⟨gP, ap, cp, hgP, p1, p9⟩ := hpp k p hp
        have hpw := HSM.out.procs p (List.mem_of_getElem? hp)
        obtain ⟨wn, hwn⟩ : ∃ wn : Nat, p.words = (wn : Int) := ⟨p.words.toNat, by omega⟩
        have HST : Hid (partsTo LG cf.parts (k + 1) = partsTo LG cf.parts k ++ [part0 LG k p]) := by show partsTo LG cf.parts k ++ _ = _; rw [hp]
        have HP0 : Hid (part0 LG k p = ⟨modeOf LG k, List.replicate wn 0, List.replicate p.procs.length proc0, 0⟩) := by show _ = _; unfold part0; rw [hwn]; rfl
        rw [hwn] at p1
        have hwn1 : wn ≤ 16 := by omega
        have hpn : p.procs.length ≤ 2 := hpw.2
        subst hgP
        have hmkw : ∀ W : World, (Instr.makeSlice 40 (.int .i64 (wn : Int)) (.int .i64 (wn : Int))).run Tryz.prog W = .ok (.slice (some ⟨W.heap.size, 0, none⟩) wn wn) (W.alloc (.cells (madeCells #[Value.int .i64 0] (wn * 1)) 3)) := by
          intro W
          have := run_make (P := Tryz.prog) (w := W) 40 3 j0 _ Tryz.underlying40 hj hj0 .i64 .i64 (wn : Int) (wn : Int) (by omega) (by omega) (by rw [hj2]; omega) (by omega)
          simpa [hj1, Value.cells] using this
        generalize hMW : madeCells #[Value.int .i64 0] (wn * 1) = MW at hmkw
        have HMW := hide hMW
        have HK := hide hK
        have HR := hide hR
        have HT := hide hT
        have hwr := hT.size
        have HE2 : Hid (∀ W : World, Touch (fun b => b = kb ∨ w3.heap.size ≤ b) w3 W → W.cell? ⟨w1.heap.size, 2, none⟩ = some (.slice (some ⟨gP, 0, none⟩) cf.parts.length qP) ∧ ∃ ap cp, W.cell? ⟨gP, k * 10 + 9, none⟩ = some (.slice ap p.procs.length cp)) := by
          intro W hW
          obtain ⟨y1, y2, _⟩ := HE.out W hW
          obtain ⟨g', ap', cp', hg', _, h9⟩ := y2 k p hp
          simp at hg'
          subst hg'
          exact ⟨y1, ap', cp', h9⟩
        clear hK hR hT hpp hll hpw hp hwn hMW
        generalize wr = wO at *
        obtain ⟨wa, hwa⟩ : ∃ wa, wa = (wO.alloc (.cells MW 3)).alloc (.cells #[.int .i64 1, .slice (some ⟨wO.heap.size, 0, none⟩) wn wn, .slice none 0 0, .int .i64 0] 198) := ⟨_, rfl⟩
        have hsa : wa.heap.size = wO.heap.size + 2 := by rw [hwa]; simp
        have HPB : Hid (wa.heap[wO.heap.size + 1]? = some (.cells #[.int .i64 1, .slice (some ⟨wO.heap.size, 0, none⟩) wn wn, .slice none 0 0, .int .i64 0] 198 (0, 0))) := by
          show _ = _
          rw [hwa]
          have := heap_alloc_new (wO.alloc (.cells MW 3)) (.cells #[.int .i64 1, .slice (some ⟨wO.heap.size, 0, none⟩) wn wn, .slice none 0 0, .int .i64 0] 198)
          rwa [show (wO.alloc (.cells MW 3)).heap.size = wO.heap.size + 1 from by simp] at this
        have HWD : Hid (wa.heap[wO.heap.size]? = some (.cells MW 3 (0, 0))) := by
          show _ = _
          rw [hwa, Below.heap_alloc _ _ _ (by simp)]
          exact heap_alloc_new wO _
        have HTA : Hid (Touch (fun _ => False) wO wa) := by show Touch _ _ _; rw [hwa]; exact Touch.trans (Touch.alloc _ _) (Touch.alloc _ _) (fun _ h => .inl h)
        have HWA := hide hwa
        clear hwa
        go_wp2
        rw [← HWA.out]
        clear hmkw x2 p1 p9
        go_loopw [13] (fun i wq => ∃ (m : Nat), m ≤ LG.length ∧ i = .int .i64 m ∧ wq.heap[wO.heap.size + 1]? = some (.cells #[.int .i64 ((LG.take m).foldl (modeStep k) 1), .slice (some ⟨wO.heap.size, 0, none⟩) wn wn, .slice none 0 0, .int .i64 0] 198 (0, 0)) ∧ Touch (· = wO.heap.size + 1) wa wq) (fun i _ => LG.length - (intOf i).toNat)
        case atStart => exact ⟨0, by omega, rfl, HPB.out, Touch.refl _ _⟩
        case round =>
          obtain ⟨m, hm, rfl, hpb, hTq⟩ := hrel
          have hE : Touch (fun b => b = kb ∨ w3.heap.size ≤ b) w3 wr := Touch.trans (Touch.trans HT.out HTA.out (fun _ h => h.elim)) hTq (fun i hi => .inr (by omega))
          obtain ⟨x2, hpp, hll⟩ := HE.out wr hE
          by_cases hlm : m < LG.length
          · obtain ⟨r, hr⟩ : ∃ r, LG[m]? = some r := ⟨LG[m], List.getElem?_eq_getElem hlm⟩
            obtain ⟨gl, hgl, r1, r4⟩ := hll m r hr
            subst hgl
            have HTK : Hid ((LG.take (m + 1)).foldl (modeStep k) 1 = modeStep k ((LG.take m).foldl (modeStep k) 1) r) := by
              show _ = _
              rw [List.take_add_one, hr, List.foldl_append]
              rfl
            have HMS : Hid (∀ n, modeStep k n r = if r 1 = (k : Int) then (if r 4 = 4 then 2 else if r 4 = 6 then 3 else 1) else n) := fun n => rfl
            have m0 : wr.cell? ⟨wO.heap.size + 1, 0, none⟩ = some (.int .i64 ((LG.take m).foldl (modeStep k) 1)) := by rw [cell_of_row _ _ _ _ _ _ hpb]; rfl
            have f0 := free_of_block hpb 0
            have HPQ := hide hpb
            have HTQ := hide hTq
            clear hpb hTq hpp hll hE hr x2
            generalize (LG.take m).foldl (modeStep k) 1 = mo at HTK m0 HPQ
            generalize r 1 = q1 at r1 HMS
            generalize r 4 = q4 at r4 HMS
            by_cases h1 : q1 = (k : Int)
            · have e1 : (q1 == (k : Int)) = true := by simp [h1]
              by_cases h4 : q4 = 4
              · have e4 : (q4 == 4) = true := by simp [h4]
                have e6 : (q4 == 6) = false := by simp [h4]
                go_wp2
                go_roundw
                case rel => exact ⟨m + 1, by omega, by go_num, by rw [HTK.out, HMS.out, if_pos h1, if_pos h4]; exact block_set (block_set HPQ.out 0 _) 0 _, Touch.trans (T := (· = wO.heap.size + 1)) (Touch.trans (T := (· = wO.heap.size + 1)) HTQ.out (Touch.ofSet _ _ 0 _ rfl) (fun i hi => .inl hi)) (Touch.ofSet _ _ 0 _ rfl) (fun i hi => .inl hi)⟩
                case measure => simp [intOf]; omega
              · have e4 : (q4 == 4) = false := by simp [h4]
                by_cases h6 : q4 = 6
                · have e6 : (q4 == 6) = true := by simp [h6]
                  go_wp2
                  go_roundw
                  case rel => exact ⟨m + 1, by omega, by go_num, by rw [HTK.out, HMS.out, if_pos h1, if_neg h4, if_pos h6]; exact block_set (block_set HPQ.out 0 _) 0 _, Touch.trans (T := (· = wO.heap.size + 1)) (Touch.trans (T := (· = wO.heap.size + 1)) HTQ.out (Touch.ofSet _ _ 0 _ rfl) (fun i hi => .inl hi)) (Touch.ofSet _ _ 0 _ rfl) (fun i hi => .inl hi)⟩
                  case measure => simp [intOf]; omega
                · have e6 : (q4 == 6) = false := by simp [h6]
                  go_wp2
                  go_roundw
                  case rel => exact ⟨m + 1, by omega, by go_num, by rw [HTK.out, HMS.out, if_pos h1, if_neg h4, if_neg h6]; exact block_set HPQ.out 0 _, Touch.trans (T := (· = wO.heap.size + 1)) HTQ.out (Touch.ofSet _ _ 0 _ rfl) (fun i hi => .inl hi)⟩
                  case measure => simp [intOf]; omega
            · have e1 : (q1 == (k : Int)) = false := by simp [h1]
              have e1' : (q1 != (k : Int)) = true := by simp [h1]
              go_wp2
              go_roundw
              case rel => exact ⟨m + 1, by omega, by go_num, by rw [HTK.out, HMS.out, if_neg h1]; exact HPQ.out, HTQ.out⟩
              case measure => simp [intOf]; omega
          · obtain rfl : m = LG.length := by omega
            have HMO : Hid ((LG.take LG.length).foldl (modeStep k) 1 = modeOf LG k) := by show _ = _; rw [List.take_length]; rfl
            rw [HMO.out] at hpb
            generalize modeOf LG k = mo at hpb HP0
            have HPB2 := hide hpb
            have HTE := hide hE
            have HTQ := hide hTq
            have hsb := hTq.size
            clear hpb hE hTq hll hpp x2 HMO HPB
            generalize wr = wb at *
            go_wp2
            go_loopw [14] (fun i wq => ∃ (j : Nat) (vp : Value), j ≤ p.procs.length ∧ i = .int .i64 j ∧ wq.heap[wO.heap.size + 1]? = some (.cells #[.int .i64 mo, .slice (some ⟨wO.heap.size, 0, none⟩) wn wn, vp, .int .i64 0] 198 (0, 0)) ∧ RProcsV wb.heap.size vp (List.replicate j proc0) wq ∧ Touch (fun b => b = wO.heap.size + 1 ∨ wb.heap.size ≤ b) wb wq) (fun i _ => p.procs.length - (intOf i).toNat)
            case atStart => exact ⟨0, _, by omega, rfl, HPB2.out, World.ownsRow_nil _ _ _ _, Touch.refl _ _⟩
            case round =>
              obtain ⟨j, vp, hj', rfl, hpb, hV, hTj⟩ := hrel
              have hE : Touch (fun b => b = kb ∨ w3.heap.size ≤ b) w3 wr := Touch.trans HTE.out hTj (fun i hi => .inl (.inr (by omega)))
              obtain ⟨x2, ap2, cp2, p9⟩ := HE2.out wr hE
              obtain ⟨adv, cv, hvp⟩ := own_slice hV
              rw [List.length_replicate] at hvp
              subst hvp
              have hsr := hTj.size
              have m2 : wr.cell? ⟨wO.heap.size + 1, 2, none⟩ = some (.slice adv j cv) := by rw [cell_of_row _ _ _ _ _ _ hpb]; rfl
              have HPJ := hide hpb
              have HVJ := hide hV
              have HTJ := hide hTj
              have HEJ := hide hE
              clear hpb hV hTj hE
              by_cases hlj : j < p.procs.length
              · go_wp2_with (at_builtin; go_must (refine wpList_append_lies _ rfl (.tmp 89) (.tmp 91) 196 rfl wb.heap.size 200 l0 _ 5 40 Tryz.underlying196 hl hl0 hl1 hl2 rfl (by decide) (.slice adv j cv) j ((List.replicate j proc0).flatMap rprocCells) rfl (by have := HVJ.out; unfold RProcsV at this; rw [List.length_replicate] at this; exact this.alloc _) ⟨wr.heap.size, 0, none⟩ 1 1 (rprocCells proc0) (by rfl) rfl (news_at wr #[.int .i64 0, .int .i64 0, .int .i64 0, .int .i64 (-1), .bool false] 200) (by intro u hu; simp [rprocCells, proc0] at hu; rcases hu with rfl | rfl | rfl <;> rfl) (by omega) (by unfold maxLen; omega) (by omega) (by simp; omega) _ rfl ?_))
                intro g5 c5 w5 hown5 hgrow5 _ _
                have hg5 := grown_alloc hgrow5
                have hs5 := hg5.size
                have hne : ∀ b, (Value.slice adv j cv).ownBlock = some b → wb.heap.size ≤ b := fun b e => (World.ownsRow.lt HVJ.out b e).1
                have hpb5 : w5.heap[wO.heap.size + 1]? = some (.cells #[.int .i64 mo, .slice (some ⟨wO.heap.size, 0, none⟩) wn wn, .slice adv j cv, .int .i64 0] 198 (0, 0)) := (hg5.block _ (lt_of_block HPJ.out) (fun e => by have := hne _ e.symm; omega)).trans HPJ.out
                have m5 : w5.cell? ⟨wO.heap.size + 1, 2, none⟩ = some (.slice adv j cv) := by rw [cell_of_row _ _ _ _ _ _ hpb5]; rfl
                have f5 := free_of_block hpb5 2
                have H5 : Hid (RProcsV wb.heap.size (.slice (some ⟨g5, 0, none⟩) (j + 1) c5) (List.replicate (j + 1) proc0) (w5.setCell ⟨wO.heap.size + 1, 2, none⟩ (.slice (some ⟨g5, 0, none⟩) (j + 1) c5)) ∧ Touch (fun b => b = wO.heap.size + 1 ∨ wb.heap.size ≤ b) wb (w5.setCell ⟨wO.heap.size + 1, 2, none⟩ (.slice (some ⟨g5, 0, none⟩) (j + 1) c5))) := by
                  have ts : Touch (· = wO.heap.size + 1) w5 (w5.setCell ⟨wO.heap.size + 1, 2, none⟩ (.slice (some ⟨g5, 0, none⟩) (j + 1) c5)) := Touch.ofSet _ _ _ _ rfl
                  refine ⟨?_, Touch.trans (T := (· = wO.heap.size + 1)) (Touch.trans HTJ.out (Touch.ofGrown (S := fun b => b = wO.heap.size + 1 ∨ wb.heap.size ≤ b) hg5 (fun b e => .inl (.inr (hne b e)))) (fun i hi => .inl hi)) ts (fun i hi => .inl (.inl hi))⟩
                  have h1 : RProcsV wb.heap.size (.slice (some ⟨g5, 0, none⟩) (j + 1) c5) (List.replicate (j + 1) proc0) w5 := by
                    unfold RProcsV
                    rw [List.replicate_succ', List.flatMap_append, List.length_append, List.length_replicate]
                    simpa using hown5
                  exact own_keep h1 (fun b e => ts.block b (World.ownsRow.lt h1 b e).2 (fun hh => by have := (World.ownsRow.lt h1 b e).1; omega))
                have HPB5 := hide hpb5
                clear hown5 hgrow5 hg5 hne hpb5
                go_wp2
                go_roundw
                case rel => exact ⟨j + 1, _, by omega, by go_num, block_set HPB5.out 2 _, H5.out.1, H5.out.2⟩
                case measure => simp [intOf]; omega
              · obtain rfl : j = p.procs.length := by omega
                obtain ⟨l, hl1', hl2', hl3'⟩ := HR.out
                obtain ⟨adR, cR, hvR⟩ := own_slice hl2'
                subst hvR
                have hkr : kb < wO.heap.size := by omega
                have hTO : Touch (fun b => wO.heap.size ≤ b) wO wr := Touch.trans (Touch.trans (HTA.out.mono (fun _ h => h.elim)) HTQ.out (fun i hi => .inl (by omega))) HTJ.out (fun i hi => .inl (by omega))
                have hKr : wr.heap[kb]? = some (.cells (rkCells cf.frame cf.watch (.slice (some ⟨gP, 0, none⟩) cf.parts.length qP) (.slice aW cf.wins.length qW) (.slice aC cf.chans.length qC) g (.slice adR l.length cR) (.slice (some ⟨w2.heap.size, 0, none⟩) cf.chans.length cf.chans.length) 0 false) 151 (0, 0)) := (hTO.block kb hkr (by omega)).trans HK.out
                have k6 : wr.cell? ⟨kb, 6, none⟩ = some (.slice adR l.length cR) := by rw [cell_of_row _ _ _ _ _ _ hKr]; rfl
                have k6' : (wr.alloc (.cells #[.int .i64 mo, .slice (some ⟨wO.heap.size, 0, none⟩) wn wn, .slice adv p.procs.length cv, .int .i64 0] 198)).cell? ⟨kb, 6, none⟩ = some (.slice adR l.length cR) := by rw [World.cell?_of_block (w := wr) (Below.heap_alloc wr _ kb (lt_of_block hKr))]; exact k6
                have m0 : wr.cell? ⟨wO.heap.size + 1, 0, none⟩ = some (.int .i64 mo) := by rw [cell_of_row _ _ _ _ _ _ HPJ.out]; rfl
                have m1 : wr.cell? ⟨wO.heap.size + 1, 1, none⟩ = some (.slice (some ⟨wO.heap.size, 0, none⟩) wn wn) := by rw [cell_of_row _ _ _ _ _ _ HPJ.out]; rfl
                have m3 : wr.cell? ⟨wO.heap.size + 1, 3, none⟩ = some (.int .i64 0) := by rw [cell_of_row _ _ _ _ _ _ HPJ.out]; rfl
                have hOr : wr.ownsRow w3.heap.size 198 4 (.slice adR l.length cR) l.length (l.flatMap rpartCells) := own_keep hl2' (fun b e => hTO.block b (World.ownsRow.lt hl2' b e).2 (by have := (World.ownsRow.lt hl2' b e).2; omega))
                have HOR := hide hOr
                have HLL : Hid (l.length = k) := by show _ = _; rw [← List.length_map (f := Prod.fst), hl1']; exact partsTo_length LG cf.parts k (by omega)
                have hl4 : l.length ≤ 4 := by have := HLL.out; have := HSM.out.parts; omega
                have HROW : Hid (∀ g5 c5 w5, w5.ownsRow w3.heap.size 198 4 (.slice (some ⟨g5, 0, none⟩) (l.length + 1) c5) (l.length + 1) (l.flatMap rpartCells ++ #[.int .i64 mo, .slice (some ⟨wO.heap.size, 0, none⟩) wn wn, .slice adv p.procs.length cv, .int .i64 0].toList) → (wr.alloc (.cells #[.int .i64 mo, .slice (some ⟨wO.heap.size, 0, none⟩) wn wn, .slice adv p.procs.length cv, .int .i64 0] 198)).grownBy w5 (Value.slice adR l.length cR).ownBlock → w5.cell? ⟨kb, 6, none⟩ = some (.slice adR l.length cR) ∧ w5.frozen? ⟨kb, 6, none⟩ = false ∧
                    ((w5.setCell ⟨kb, 6, none⟩ (.slice (some ⟨g5, 0, none⟩) (l.length + 1) c5)).heap[kb]? = some (.cells (rkCells cf.frame cf.watch (.slice (some ⟨gP, 0, none⟩) cf.parts.length qP) (.slice aW cf.wins.length qW) (.slice aC cf.chans.length qC) g (.slice (some ⟨g5, 0, none⟩) (l.length + 1) c5) (.slice (some ⟨w2.heap.size, 0, none⟩) cf.chans.length cf.chans.length) 0 false) 151 (0, 0)) ∧ RPartsV w3.heap.size (.slice (some ⟨g5, 0, none⟩) (l.length + 1) c5) (partsTo LG cf.parts (k + 1)) (w5.setCell ⟨kb, 6, none⟩ (.slice (some ⟨g5, 0, none⟩) (l.length + 1) c5)) ∧ Touch (fun b => b = kb ∨ w3.heap.size ≤ b) w3 (w5.setCell ⟨kb, 6, none⟩ (.slice (some ⟨g5, 0, none⟩) (l.length + 1) c5)))) := by
                  intro g5 c5 w5 ho hg
                  have hg' := grown_alloc hg
                  have hs5 := hg'.size
                  have hrow : ∀ b, (Value.slice adR l.length cR).ownBlock = some b → w3.heap.size ≤ b ∧ b < wO.heap.size := fun b e => ⟨(World.ownsRow.lt hl2' b e).1, (World.ownsRow.lt hl2' b e).2⟩
                  have hK5 : w5.heap[kb]? = some (.cells (rkCells cf.frame cf.watch (.slice (some ⟨gP, 0, none⟩) cf.parts.length qP) (.slice aW cf.wins.length qW) (.slice aC cf.chans.length qC) g (.slice adR l.length cR) (.slice (some ⟨w2.heap.size, 0, none⟩) cf.chans.length cf.chans.length) 0 false) 151 (0, 0)) := (hg'.block kb (lt_of_block hKr) (fun e => by have := hrow kb e.symm; omega)).trans hKr
                  have ts : Touch (· = kb) w5 (w5.setCell ⟨kb, 6, none⟩ (.slice (some ⟨g5, 0, none⟩) (l.length + 1) c5)) := Touch.ofSet _ _ _ _ rfl
                  have same : ∀ b, b < wr.heap.size → b ≠ kb → (Value.slice adR l.length cR).ownBlock ≠ some b → (w5.setCell ⟨kb, 6, none⟩ (.slice (some ⟨g5, 0, none⟩) (l.length + 1) c5)).heap[b]? = wr.heap[b]? := fun b h1 h2 h3 => (ts.block b (by omega) h2).trans (hg'.block b h1 (fun e => h3 e.symm))
                  refine ⟨by rw [cell_of_row _ _ _ _ _ _ hK5]; rfl, free_of_block hK5 6, block_set hK5 6 _, ?_, ?_⟩
                  · refine ⟨l ++ [(part0 LG k p, .slice (some ⟨wO.heap.size, 0, none⟩) wn wn, .slice adv p.procs.length cv)], ?_, ?_, fun q hq => ?_⟩
                    · rw [List.map_append, hl1', HST.out]; rfl
                    · rw [List.flatMap_append, List.length_append]
                      show World.ownsRow _ _ _ _ _ (l.length + 1) (_ ++ (rpartCells _ ++ []))
                      rw [List.append_nil, show rpartCells (part0 LG k p, Value.slice (some ⟨wO.heap.size, 0, none⟩) wn wn, Value.slice adv p.procs.length cv) = #[.int .i64 mo, .slice (some ⟨wO.heap.size, 0, none⟩) wn wn, .slice adv p.procs.length cv, .int .i64 0].toList from by rw [HP0.out]; rfl]
                      exact own_keep ho (fun b e => ts.block b (World.ownsRow.lt ho b e).2 (fun hh => by have := (World.ownsRow.lt ho b e).1; omega))
                    · rcases List.mem_append.1 hq with hq | hq
                      · have old : ∀ {e : TypeId} {sz : Nat} {v : Value} {N : Nat} {xs : List Value}, e ≠ 198 → wO.ownsRow w3.heap.size e sz v N xs → World.ownsRow (w5.setCell ⟨kb, 6, none⟩ (.slice (some ⟨g5, 0, none⟩) (l.length + 1) c5)) w3.heap.size e sz v N xs := by
                          intro e sz v N xs hne ho2
                          have hr2 : wr.ownsRow w3.heap.size e sz v N xs := own_keep ho2 (fun b eb => hTO.block b (World.ownsRow.lt ho2 b eb).2 (by have := (World.ownsRow.lt ho2 b eb).2; omega))
                          refine own_keep hr2 (fun b eb => same b (World.ownsRow.lt hr2 b eb).2 (by have := (World.ownsRow.lt hr2 b eb).1; omega) (fun h198 => ?_))
                          obtain ⟨c1, g1⟩ := own_of hOr h198
                          obtain ⟨c2, g2⟩ := own_of hr2 eb
                          rw [g1] at g2
                          simp at g2
                          exact hne g2.2.symm
                        exact ⟨old (by decide) (hl3' q hq).1, old (by decide) (hl3' q hq).2⟩
                      · obtain rfl := List.mem_singleton.1 hq
                        have hw : wr.heap[wO.heap.size]? = some (.cells MW 3 (0, 0)) := (HTJ.out.block _ (by omega) (by rintro (h | h) <;> omega)).trans ((HTQ.out.block _ (by omega) (by omega)).trans HWD.out)
                        rw [HP0.out]
                        refine ⟨?_, ?_⟩
                        · refine ⟨by simp, .inr ⟨wO.heap.size, wn, MW, by simp, by omega, (same _ (by omega) (by omega) (fun e => by have := hrow _ e; omega)).trans hw, by simp, by unfold maxLen; omega, by rw [← HMW.out]; simp [madeCells], ?_⟩⟩
                          rw [← HMW.out, made_ints]
                          simp
                        · have := HVJ.out
                          refine own_low (base' := w3.heap.size) (own_keep this (fun b eb => same b (World.ownsRow.lt this b eb).2 (by have := (World.ownsRow.lt this b eb).1; omega) (fun e => by have := hrow b e; have := (World.ownsRow.lt HVJ.out b eb).1; omega))) (by omega)
                  · refine Touch.trans (T := (· = kb)) (Touch.trans (Touch.trans HT.out hTO (fun i hi => .inl (.inr (by omega)))) (Touch.ofGrown (S := fun b => w3.heap.size ≤ b) hg' (fun b e => .inl (hrow b e).1)) (fun i hi => .inl (.inr hi))) ts (fun i hi => .inl (.inl hi))
                clear hl1' hl2' hl3' hTO hKr hOr
                go_wp2_with fail
                go_region_law (refine step_append_lies _ rfl (.tmp 98) (.tmp 100) 149 rfl w3.heap.size 198 k0 _ 4 64 Tryz.underlying149 hk hk0 hk1 hk2 rfl (by decide) (.slice adR l.length cR) l.length (l.flatMap rpartCells) (by rfl) (by exact HOR.out.alloc _) ⟨wr.heap.size, 0, none⟩ 1 1 #[.int .i64 mo, .slice (some ⟨wO.heap.size, 0, none⟩) wn wn, .slice adv p.procs.length cv, .int .i64 0].toList (by rfl) rfl (by exact news_at wr #[.int .i64 mo, .slice (some ⟨wO.heap.size, 0, none⟩) wn wn, .slice adv p.procs.length cv, .int .i64 0] 198) (by intro u hu; simp at hu; rcases hu with rfl | rfl | rfl | rfl <;> rfl) (by omega) (by unfold maxLen; omega) (by omega) (by simp; omega) (wr.heap.size + 1) (by simp) ?_; intro g5 c5 w5 ho hg _ _; obtain ⟨d6, f6, hk2'⟩ := HROW.out g5 c5 w5 ho ⟨hg.os, hg.tape, hg.output, hg.size, hg.block⟩; have HK2 := hide hk2'; clear ho hg hk2')
                all_goals (
                  go_wp2
                  go_roundw
                  case rel =>
                    obtain ⟨y1, y2, y3⟩ := HK2.out
                    exact ⟨k + 1, _, by omega, by go_num, y1, y2.keep (fun _ _ _ => rfl), ⟨y3.os, y3.tape, y3.output, y3.size, y3.block⟩⟩
                  case measure => simp [intOf]; omega)
      · obtain rfl : k = cf.parts.length := by omega
        have HEND : Hid (RefK w.heap.size kb g (bootSt cf bs) wr ∧ Below w.heap.size w wr) := by
          have t2 : ∀ b, b < w2.heap.size → wr.heap[b]? = w2.heap[b]? := fun b h1 => (hT.block b (by have := HT3.out.size; omega) (by rintro (h | h); omega; have := HT3.out.size; omega)).trans (HT3.out.block b h1 (fun h => h))
          have hq : wr.heap[w2.heap.size]? = some (.cells M 40 (0, 0)) := (hT.block _ (by omega) (by rintro (h | h) <;> omega)).trans HQ3.out
          refine ⟨⟨by omega, _, _, _, _, _, hK, HV2.out.keep (fun b _ h2 => t2 b h2), by rw [HLGE.out] at hR; exact hR.low (by omega), ?_⟩, ?_⟩
          · refine ⟨List.replicate cf.chans.length ([], .slice none 0 0), by simp [bootSt], ?_, fun q hq' => ?_⟩
            · refine ⟨by simp, .inr ⟨w2.heap.size, cf.chans.length, M, by simp, by omega, hq, by simp, by unfold maxLen; omega, by rw [← HM.out]; simp [madeCells], ?_⟩⟩
              rw [← HM.out, made_slices]
              simp
            · obtain ⟨_, rfl⟩ := List.mem_replicate.1 hq'
              exact World.ownsRow_nil _ _ _ _
          · have h3 : Below w.heap.size w w3 := HB2.out.trans (HT3.out.below (by omega) (fun _ h => h.elim))
            exact h3.trans (hT.below (by omega) (fun b hb => by rcases hb with hb | hb <;> omega))
        clear hK hR hT hpp hll
        go_wp2
        go_ret2
        exact ⟨⟨kb, rfl, HEND.out.1⟩, HEND.out.2⟩
  · go_wp2
    go_ret2
    exact ⟨.inl ⟨her, rfl⟩, HB2.out⟩
end Go.Proofs.YtnjlbgolnbdkaaaGreat
/- The program's start: the machine. -/
namespace Go.Proofs.YtnjlbgolnbdkaaaGreat
open Go.RowKit

/- the machine's blocks -/
def MBlk (L : MLay) (st : RSt) (b : Nat) : Prop := b = L.mb ∨ b = L.pb ∨ b = L.wb ∨ b = L.cb ∨ (∃ i, i < st.parts.length ∧ (b = L.wd i ∨ b = L.pr i ∨ b = L.tn i)) ∨ (∃ j, j < st.cf.chans.length ∧ b = L.ch j) ∨ (∃ i k, i < st.parts.length ∧ k < (st.parts.getD i default).procs.length ∧ (L.code i k).ownBlock = some b)
theorem partsTo_get (log : List (Nat → Int)) (ps : List Pt) (k i : Nat) (hk : k ≤ ps.length) (hi : i < k) : (partsTo log ps k).getD i default = part0 log i (ps.getD i default) := by
  induction k with
  | zero => omega
  | succ k ih =>
    have hl := partsTo_length log ps k (by omega)
    show (partsTo log ps k ++ _).getD i default = _
    rw [List.getD_eq_getElem?_getD]
    by_cases h : i < k
    · rw [List.getElem?_append_left (by omega), ← List.getD_eq_getElem?_getD]
      exact ih (by omega) h
    · obtain rfl : i = k := by omega
      have hs : ps[i]? = some ps[i] := List.getElem?_eq_getElem (by omega)
      rw [List.getElem?_append_right (by omega), hl, List.getD_eq_getElem?_getD, hs]
      simp
theorem rep_getD {α : Type} (n k : Nat) (x d : α) (h : k < n) : (List.replicate n x).getD k d = x := by rw [List.getD_eq_getElem?_getD, List.getElem?_replicate_of_lt h]; rfl
theorem flat_rows {α : Type} [Inhabited α] (F : α → List Value) (l : List α) : l.flatMap F = rowsL l.length (fun k => F (l.getD k default)) := by
  have key : ∀ n, n ≤ l.length → (l.take n).flatMap F = rowsL n (fun k => F (l.getD k default)) := by
    intro n hn
    induction n with
    | zero => simp [rowsL]
    | succ n ih =>
      rw [List.take_add_one, List.flatMap_append, ih (by omega), rowsL_succ, List.getElem?_eq_getElem (by omega), List.getD_eq_getElem?_getD, List.getElem?_eq_getElem (by omega)]
      simp
  have := key l.length (Nat.le_refl _)
  rwa [List.take_length] at this

theorem Parts0.low {w : World} {lo lo' n : Nat} {D : CLay} {ps : List Pt} {log : List (Nat → Int)} {wd pr tn : Nat → Nat} (h : Parts0 w lo D ps log n wd pr tn) (hl : lo' ≤ lo) : Parts0 w lo' D ps log n wd pr tn :=
  ⟨fun i p hi hp => ⟨Nat.le_trans hl (h.words i p hi hp).1, (h.words i p hi hp).2⟩, fun i p hi hp => ⟨Nat.le_trans hl (h.procs i p hi hp).1, (h.procs i p hi hp).2⟩, fun i p hi hp => ⟨Nat.le_trans hl (h.turns i p hi hp).1, (h.turns i p hi hp).2⟩, h.wdwd, h.prpr, h.wdtn⟩
/- a configuration's windows and channels -/
structure RestMem (w : World) (xW : Nat) (xC : Option Addr) (cf : Cf) : Prop where
  wins : ∀ k p, cf.wins[k]? = some p → xW < w.heap.size ∧ w.cell? ⟨xW, k * 3, none⟩ = some (.int .i64 p.part) ∧ w.cell? ⟨xW, k * 3 + 1, none⟩ = some (.int .i64 p.first) ∧ w.cell? ⟨xW, k * 3 + 2, none⟩ = some (.int .i64 p.many)
  chans : ∀ k p, cf.chans[k]? = some p → ∃ g, xC = some ⟨g, 0, none⟩ ∧ g < w.heap.size ∧ w.cell? ⟨g, k * 3, none⟩ = some (.int .i64 p.src) ∧ w.cell? ⟨g, k * 3 + 1, none⟩ = some (.int .i64 p.dst) ∧ w.cell? ⟨g, k * 3 + 2, none⟩ = some (.int .i64 p.depth)
theorem RestMem.keep {w w' : World} {xW : Nat} {xC : Option Addr} {cf : Cf} (h : RestMem w xW xC cf) (hb : Below w.heap.size w w') : RestMem w' xW xC cf := by
  refine ⟨fun k p hp => ?_, fun k p hp => ?_⟩
  · obtain ⟨h1, h2, h3, h4⟩ := h.wins k p hp
    have hk := hb.block _ h1
    exact ⟨Nat.lt_of_lt_of_le h1 hb.size, (cell_same hk _).trans h2, (cell_same hk _).trans h3, (cell_same hk _).trans h4⟩
  · obtain ⟨g, h0, h1, h2, h3, h4⟩ := h.chans k p hp
    have hk := hb.block _ h1
    exact ⟨g, h0, Nat.lt_of_lt_of_le h1 hb.size, (cell_same hk _).trans h2, (cell_same hk _).trans h3, (cell_same hk _).trans h4⟩
/- as it starts -/
theorem mach_made (w : World) (lo g mb pb wb cb : Nat) (D : CLay) (cf : Cf) (bs : List Int) (wd pr tn ch : Nat → Nat) (hg : CfGood cf) (hlo : lo ≤ mb ∧ lo ≤ pb ∧ lo ≤ wb ∧ lo ≤ cb)
    (hcl : ∀ i r, r ∈ D.l i → ∀ b, r.2.ownBlock = some b → lo ≤ b) (hm : PartsMem w D cf.parts) (h0 : Parts0 w lo D cf.parts (logOf bs) cf.parts.length wd pr tn)
    (h1 : w.heap[mb]? = some (.cells #[.pointer (some ⟨g, 0, none⟩), .int .i64 cf.frame, .int .i64 cf.watch, .slice (some ⟨pb, 0, none⟩) cf.parts.length cf.parts.length, .slice (some ⟨wb, 0, none⟩) cf.wins.length cf.wins.length, .slice (some ⟨cb, 0, none⟩) cf.chans.length cf.chans.length, .int .i64 0, .bool false] 145 (0, 0)))
    (h2 : w.heap[pb]? = some (.cells (rowsL cf.parts.length fun i => mpartC (wd i) (pr i) (tn i) i (cf.parts.getD i default) (part0 (logOf bs) i (cf.parts.getD i default))).toArray 120 (0, 0)))
    (h3 : w.heap[wb]? = some (.cells (cf.wins.flatMap mwinCells).toArray 131 (0, 0)))
    (h4 : w.heap[cb]? = some (.cells (rowsL cf.chans.length fun j => [.int .i64 (cf.chans.getD j default).src, .int .i64 (cf.chans.getD j default).dst, .chan (some (ch j))]).toArray 139 (0, 0)))
    (h5 : ∀ j, j < cf.chans.length → lo ≤ ch j ∧ w.heap[ch j]? = some (.chan (cf.chans.getD j default).depth.toNat #[] false 0 0 false)) (h6 : ∀ i j, i < cf.chans.length → j < cf.chans.length → ch i = ch j → i = j) :
    ∃ L : MLay, L.mb = mb ∧ MachAt w L g (bootSt cf bs) ∧ LayOk L cf.parts.length cf.chans.length ∧ StOk (bootSt cf bs) ∧ ∀ b, MBlk L (bootSt cf bs) b → lo ≤ b := by
  have hlen : (bootSt cf bs).parts.length = cf.parts.length := partsTo_length _ _ _ (Nat.le_refl _)
  have hget : ∀ i, i < cf.parts.length → (bootSt cf bs).parts.getD i default = part0 (logOf bs) i (cf.parts.getD i default) := fun i hi => partsTo_get _ _ _ i (Nat.le_refl _) hi
  have hsome : ∀ i, i < cf.parts.length → cf.parts[i]? = some (cf.parts.getD i default) := fun i hi => by rw [List.getD_eq_getElem?_getD, List.getElem?_eq_getElem hi]; rfl
  have hdl : ∀ i, i < cf.parts.length → (D.l i).length = (cf.parts.getD i default).procs.length := fun i hi => by rw [← (hm.procs i _ (hsome i hi)).1, List.length_map]
  have hcode : ∀ i k, i < cf.parts.length → k < (cf.parts.getD i default).procs.length → ((D.l i).getD k default) ∈ D.l i ∧ ((D.l i).getD k default).1 = (cf.parts.getD i default).procs.getD k default := fun i k hi hk => by
    have hk' : k < (D.l i).length := by rw [hdl i hi]; exact hk
    have e := (hm.procs i _ (hsome i hi)).1
    rw [← e]
    rw [List.getD_eq_getElem?_getD, List.getElem?_eq_getElem hk', List.getD_eq_getElem?_getD, List.getElem?_map, List.getElem?_eq_getElem hk']
    exact ⟨List.getElem_mem hk', rfl⟩
  refine ⟨⟨mb, pb, wb, cb, wd, pr, tn, fun i k => ((D.l i).getD k default).2, ch⟩, rfl, ⟨?_, ?_, fun i hi => ?_, fun i hi => ?_, fun i hi => ?_, h3, h4, fun j hj => ?_, fun i k hi hk => ?_⟩, ⟨h0.wdwd, h0.prpr, h0.wdtn, h6⟩, ⟨hg, hlen, fun i hi => ?_, by simp [bootSt]⟩, fun b hb => ?_⟩
  · unfold machObj
    rw [hlen]
    exact h1
  · rw [hlen, h2]
    congr 3
    exact rowsL_congr _ _ _ (fun i hi => by rw [hget i hi]; rfl)
  · rw [hlen] at hi
    rw [hget i hi]
    exact (h0.words i _ hi (hsome i hi)).2
  · rw [hlen] at hi
    rw [hget i hi, (h0.procs i _ hi (hsome i hi)).2]
    congr 3
    show _ = rowsL (List.replicate _ proc0).length _
    rw [flat_rows, List.length_replicate, hdl i hi]
    refine rowsL_congr _ _ _ (fun k hk => ?_)
    show _ = mprocCells _ ((List.replicate _ proc0).getD k default)
    rw [rep_getD _ _ _ _ hk]
  · rw [hlen] at hi
    rw [hget i hi, (h0.turns i _ hi (hsome i hi)).2]
    show _ = some (Obj.cells ((turnI (List.replicate _ proc0).length _).map _).toArray _ _)
    rw [List.length_replicate]
    rfl
  · refine ⟨0, 0, ?_⟩
    rw [(h5 j hj).2]
    show _ = some (Obj.chan _ (((List.replicate cf.chans.length ([] : List Int)).getD j []).map _).toArray _ _ _ _)
    rw [rep_getD cf.chans.length j [] [] hj]
    rfl
  · rw [hlen] at hi
    rw [hget i hi] at hk
    have hk2 : k < (cf.parts.getD i default).procs.length := by simpa [part0] using hk
    obtain ⟨c1, c2⟩ := hcode i k hi hk2
    have := (hm.procs i _ (hsome i hi)).2.2 _ c1
    rw [c2] at this
    exact this
  · rw [hlen] at hi
    rw [hget i hi]
    exact ⟨by simp [part0]; rfl, by simp [part0]; rfl⟩
  · rcases hb with rfl | rfl | rfl | rfl | ⟨i, hi, hb⟩ | ⟨j, hj, rfl⟩ | ⟨i, k, hi, hk, hb⟩
    · exact hlo.1
    · exact hlo.2.1
    · exact hlo.2.2.1
    · exact hlo.2.2.2
    · rw [hlen] at hi
      rcases hb with rfl | rfl | rfl
      · exact (h0.words i _ hi (hsome i hi)).1
      · exact (h0.procs i _ hi (hsome i hi)).1
      · exact (h0.turns i _ hi (hsome i hi)).1
    · exact (h5 j hj).1
    · rw [hlen] at hi
      rw [hget i hi] at hk
      exact hcl i _ (hcode i k hi (by simpa [part0] using hk)).1 b hb
end Go.Proofs.YtnjlbgolnbdkaaaGreat
