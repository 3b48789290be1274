/- Texts of the proofs of Watched and Clocked, one behind the other. -/
import Derived.Test.YtnjlbgolnbdkaaaGreatM20
import Derived.Test.YtnjlbgolnbdkaaaGreatM09
import Derived.Deep.RegionLaw
import Derived.Deep.CutRange
import Derived.Test.YtnjlbgolnbdkaaaGreatM03
/- Texts of the proof of Boots, one behind the other. -/
namespace Go.Proofs.YtnjlbgolnbdkaaaGreat
open Go.RowKit

structure CLay where
  px : Nat
  pc : Nat
  q : Nat → Nat
  c : Nat → Nat
  l : Nat → List (Pr × Value)
structure PartsMem (w : World) (D : CLay) (ps : List Pt) : Prop where
  row : ∀ j p, ps[j]? = some p → w.cell? ⟨D.px, j * 10, none⟩ = some (.bool p.sys) ∧ w.cell? ⟨D.px, j * 10 + 1, none⟩ = some (.int .i64 p.words) ∧ w.cell? ⟨D.px, j * 10 + 2, none⟩ = some (.int .i64 p.limit) ∧ w.cell? ⟨D.px, j * 10 + 3, none⟩ = some (.int .i64 (p.acts.getD 0 0)) ∧ w.cell? ⟨D.px, j * 10 + 4, none⟩ = some (.int .i64 (p.acts.getD 1 0)) ∧ w.cell? ⟨D.px, j * 10 + 5, none⟩ = some (.int .i64 (p.acts.getD 2 0)) ∧ w.cell? ⟨D.px, j * 10 + 6, none⟩ = some (.int .i64 (p.acts.getD 3 0)) ∧ w.cell? ⟨D.px, j * 10 + 7, none⟩ = some (.int .i64 (p.acts.getD 4 0)) ∧ w.cell? ⟨D.px, j * 10 + 8, none⟩ = some (.int .i64 (p.acts.getD 5 0)) ∧ w.cell? ⟨D.px, j * 10 + 9, none⟩ = some (.slice (some ⟨D.q j, 0, none⟩) (D.l j).length (D.c j))
  procs : ∀ j p, ps[j]? = some p → (D.l j).map Prod.fst = p.procs ∧ ProcsAt w (D.q j) (D.c j) (D.l j) (prioOf p) ∧ ∀ r ∈ D.l j, CodeV 0 r.2 r.1.code w
theorem PartsMem.keep {w w' : World} {D : CLay} {ps : List Pt} (h : PartsMem w D ps) (hb : Below w.heap.size w w') : PartsMem w' D ps := by
  refine ⟨fun j p hp => ?_, fun j p hp => ?_⟩
  · obtain ⟨r0, r1, r2, r3, r4, r5, r6, r7, r8, r9⟩ := h.row j p hp
    have hk := hb.block D.px (lt_of_cell r0)
    exact ⟨(cell_same hk _).trans r0, (cell_same hk _).trans r1, (cell_same hk _).trans r2, (cell_same hk _).trans r3, (cell_same hk _).trans r4, (cell_same hk _).trans r5, (cell_same hk _).trans r6, (cell_same hk _).trans r7, (cell_same hk _).trans r8, (cell_same hk _).trans r9⟩
  · obtain ⟨h1, h2, h3⟩ := h.procs j p hp
    exact ⟨h1, h2.keep hb.size (hb.block _ h2.lt), fun r hr => own_keep (h3 r hr) (fun b e => hb.block b (World.ownsRow.lt (h3 r hr) b e).2)⟩

structure Parts0 (w : World) (lo : Nat) (D : CLay) (ps : List Pt) (log : List (Nat → Int)) (n : Nat) (wd pr tn : Nat → Nat) : Prop where
  words : ∀ i p, i < n → ps[i]? = some p → lo ≤ wd i ∧ w.heap[wd i]? = some (.cells ((List.replicate p.words.toNat (0 : Int)).map (Value.int .i64)).toArray 3 (0, 0))
  procs : ∀ i p, i < n → ps[i]? = some p → lo ≤ pr i ∧ w.heap[pr i]? = some (.cells ((D.l i).flatMap fun p => mprocCells p.2 proc0).toArray 166 (0, 0))
  turns : ∀ i p, i < n → ps[i]? = some p → lo ≤ tn i ∧ w.heap[tn i]? = some (.cells ((turnI p.procs.length (prioOf p)).map (Value.int .i64)).toArray 3 (0, 0))
  wdwd : ∀ i j, i < n → j < n → wd i = wd j → i = j
  prpr : ∀ i j, i < n → j < n → pr i = pr j → i = j
  wdtn : ∀ i j, i < n → j < n → wd i ≠ tn j
theorem Parts0.keep {w w' : World} {lo n : Nat} {D : CLay} {ps : List Pt} {log : List (Nat → Int)} {wd pr tn : Nat → Nat} (h : Parts0 w lo D ps log n wd pr tn) (hk : ∀ b, lo ≤ b → b < w.heap.size → w'.heap[b]? = w.heap[b]?) : Parts0 w' lo D ps log n wd pr tn :=
  ⟨fun i p hi hp => ⟨(h.words i p hi hp).1, (hk _ (h.words i p hi hp).1 (lt_of_heap (h.words i p hi hp).2)).trans (h.words i p hi hp).2⟩, fun i p hi hp => ⟨(h.procs i p hi hp).1, (hk _ (h.procs i p hi hp).1 (lt_of_heap (h.procs i p hi hp).2)).trans (h.procs i p hi hp).2⟩, fun i p hi hp => ⟨(h.turns i p hi hp).1, (hk _ (h.turns i p hi hp).1 (lt_of_heap (h.turns i p hi hp).2)).trans (h.turns i p hi hp).2⟩, h.wdwd, h.prpr, h.wdtn⟩

def elP (a b d : Nat) (i : Nat) (c : Pt) (mo : Int) (nw np : Nat) : El := ⟨fun | 0 => i | 1 => c.limit | 2 => c.acts.getD 0 0 | 3 => c.acts.getD 1 0 | 4 => c.acts.getD 2 0 | 5 => c.acts.getD 3 0 | 6 => c.acts.getD 4 0 | 7 => c.acts.getD 5 0 | 8 => mo | _ => 0, c.sys, fun | 0 => some ⟨a, 0, none⟩ | 1 => some ⟨b, 0, none⟩ | _ => some ⟨d, 0, none⟩, fun | 0 => nw | _ => np, fun | 0 => nw | _ => np, none⟩

theorem parts_any (cb lb base : Nat) (D : CLay) (ps : List Pt) (v : Value) (log : List (Nat → Int)) (w : World) (hn : ps.length ≤ 4) (hg : ∀ p ∈ ps, PtGood p) (hlog : log.length ≤ 100) (hv : RecsV base v log w) (hm : PartsMem w D ps) (h0 : w.cell? ⟨cb, 2, none⟩ = some (.slice (some ⟨D.px, 0, none⟩) ps.length D.pc)) (h1 : w.cell? ⟨lb, 0, none⟩ = some v) :
    Calls Tryz.prog 49 #[.int .i64 ps.length, .func (.func 50) #[] #[.pointer (some ⟨cb, 0, none⟩), .pointer (some ⟨lb, 0, none⟩)]] w fun e w' => ∃ (y : Nat) (wd pr tn : Nat → Nat), e = .returned (.agg #[.slice (some ⟨y, 0, none⟩) ps.length ps.length]) ∧ w.heap.size ≤ y ∧ w'.heap[y]? = some (.cells (rowsL ps.length fun i => mpartC (wd i) (pr i) (tn i) i (ps.getD i default) (part0 log i (ps.getD i default))).toArray 120 (0, 0)) ∧ Parts0 w' w.heap.size D ps log ps.length wd pr tn ∧ Below w.heap.size w w' := by
  refine (makePart_any cb lb ps.length (by omega) (fun _ => False) w (fun _ h => h.elim) (fun j r W => ∃ wd pr tn : Nat → Nat, r.flatMap mkpC = rowsL j (fun i => mpartC (wd i) (pr i) (tn i) i (ps.getD i default) (part0 log i (ps.getD i default))) ∧ Parts0 W (w.heap.size + 3) D ps log j wd pr tn ∧ Touch (fun b => w.heap.size ≤ b) w W) ?_ (fun j r W hj hI hsW => ?_) ⟨fun _ => 0, fun _ => 0, fun _ => 0, by simp [rowsL], ⟨fun i p hi => by omega, fun i p hi => by omega, fun i p hi => by omega, fun i j hi => by omega, fun i j hi => by omega, fun i j hi => by omega⟩, Touch.refl _ _⟩).mono ?_
  · rintro j r W W' ⟨wd, pr, tn, h1, h2, h3⟩ t
    exact ⟨wd, pr, tn, h1, h2.keep (fun b hb hl => t.block b hl (by omega)), h3.trans t (fun i hi => .inl hi.1)⟩
  · obtain ⟨wd, pr, tn, hr, hP, hT⟩ := hI
    have hB : Below w.heap.size w W := hT.below (Nat.le_refl _) (fun k hk => hk)
    have hp := List.getElem?_eq_getElem hj
    have hdj : ps.getD j default = ps[j] := by rw [List.getD_eq_getElem?_getD, hp]; rfl
    have hgp := hg _ (List.getElem_mem hj)
    have hM := hm.keep hB
    obtain ⟨r0, r1, r2, r3, r4, r5, r6, r7, r8, r9⟩ := hM.row j _ hp
    obtain ⟨p1, p2, p3⟩ := hM.procs j _ hp
    have hlen : (D.l j).length = (ps[j]).procs.length := by rw [← p1, List.length_map]
    obtain ⟨wn, hwn⟩ := Int.eq_ofNat_of_zero_le (show 0 ≤ (ps[j]).words by have := hgp.words; omega)
    rw [hwn] at r1
    have hw16 := hgp.words.2
    refine (startOne_any cb lb D.px ps.length D.pc j _ wn _ _ _ _ _ _ _ _ _ _ _ base v log W hj (by omega) hlog (own_keep hv (fun b e => hB.block b (World.ownsRow.lt hv b e).2)) p2 ⟨(cell_same (hB.block cb (lt_of_cell h0)) _).trans h0, (cell_same (hB.block lb (lt_of_cell h1)) _).trans h1, r0, r1, r2, r3, r4, r5, r6, r7, r8, r9⟩).mono ?_
    rintro e w' ⟨xw, xp, xt, rfl, ⟨x1, x2, x3, x4⟩, b1, b2, b3, hb⟩
    refine ⟨elP xw xp xt j (ps[j]) (modeOf log j) wn (D.l j).length, rfl, ⟨fun i => if i = j then xw else wd i, fun i => if i = j then xp else pr i, fun i => if i = j then xt else tn i, ?_, ?_, hT.trans (Touch.ofBelow (S := fun _ => False) hb) (fun _ h => h.elim)⟩, Touch.ofBelow hb⟩
    · rw [List.flatMap_append, hr, rowsL_succ]
      congr 1
      · exact rowsL_congr _ _ _ (fun i hi => by simp only [if_neg (show ¬ i = j by omega)])
      · simp only [if_pos]
        rw [hdj]
        simp only [List.flatMap_cons, List.flatMap_nil, List.append_nil, mkpC, elP, mpartC, part0, List.length_replicate, hlen, hwn, Int.toNat_natCast]
    · have hP' := hP.keep (w' := w') (fun b hb' hl => hb.block b hl)
      have lw : ∀ i, i < j → wd i < W.heap.size := fun i hi => lt_of_heap (hP.words i _ hi (List.getElem?_eq_getElem (by omega))).2
      have lp : ∀ i, i < j → pr i < W.heap.size := fun i hi => lt_of_heap (hP.procs i _ hi (List.getElem?_eq_getElem (by omega))).2
      have lt : ∀ i, i < j → tn i < W.heap.size := fun i hi => lt_of_heap (hP.turns i _ hi (List.getElem?_eq_getElem (by omega))).2
      refine ⟨fun i p hi hip => ?_, fun i p hi hip => ?_, fun i p hi hip => ?_, fun i k hi hk he => ?_, fun i k hi hk he => ?_, fun i k hi hk => ?_⟩
      · by_cases hij : i = j
        · subst hij
          rw [hp] at hip
          obtain rfl := Option.some.inj hip
          simp only [if_pos]
          exact ⟨by omega, by rw [hwn]; exact b1⟩
        · simp only [if_neg hij]
          exact hP'.words i p (by omega) hip
      · by_cases hij : i = j
        · subst hij
          simp only [if_pos]
          exact ⟨by omega, b2⟩
        · simp only [if_neg hij]
          exact hP'.procs i p (by omega) hip
      · by_cases hij : i = j
        · subst hij
          rw [hp] at hip
          obtain rfl := Option.some.inj hip
          simp only [if_pos]
          exact ⟨by omega, by rw [← hlen]; exact b3⟩
        · simp only [if_neg hij]
          exact hP'.turns i p (by omega) hip
      · by_cases hij : i = j
        · by_cases hkj : k = j
          · omega
          · simp only [if_pos hij, if_neg hkj] at he
            have := lw k (by omega)
            omega
        · by_cases hkj : k = j
          · simp only [if_neg hij, if_pos hkj] at he
            have := lw i (by omega)
            omega
          · simp only [if_neg hij, if_neg hkj] at he
            exact hP.wdwd i k (by omega) (by omega) he
      · by_cases hij : i = j
        · by_cases hkj : k = j
          · omega
          · simp only [if_pos hij, if_neg hkj] at he
            have := lp k (by omega)
            omega
        · by_cases hkj : k = j
          · simp only [if_neg hij, if_pos hkj] at he
            have := lp i (by omega)
            omega
          · simp only [if_neg hij, if_neg hkj] at he
            exact hP.prpr i k (by omega) (by omega) he
      · by_cases hij : i = j
        · by_cases hkj : k = j
          · simp only [if_pos hij, if_pos hkj]
            exact x4
          · simp only [if_pos hij, if_neg hkj]
            have := lt k (by omega)
            omega
        · by_cases hkj : k = j
          · simp only [if_neg hij, if_pos hkj]
            have := lw i (by omega)
            omega
          · simp only [if_neg hij, if_neg hkj]
            exact hP.wdtn i k (by omega) (by omega)
  · rintro e w' ⟨y, r, rfl, ⟨wd, pr, tn, hr, hP, ht⟩, _, hown⟩
    obtain ⟨g1, g2⟩ := own_cells hown
    refine ⟨y, wd, pr, tn, rfl, g1, by rw [g2, show mkpsC r = _ from hr], ⟨fun i p hi hp => ⟨by have := (hP.words i p hi hp).1; omega, (hP.words i p hi hp).2⟩, fun i p hi hp => ⟨by have := (hP.procs i p hi hp).1; omega, (hP.procs i p hi hp).2⟩, fun i p hi hp => ⟨by have := (hP.turns i p hi hp).1; omega, (hP.turns i p hi hp).2⟩, hP.wdwd, hP.prpr, hP.wdtn⟩, ht.below (Nat.le_refl _) (fun k hk => hk)⟩
end Go.Proofs.YtnjlbgolnbdkaaaGreat
namespace Go.Proofs.YtnjlbgolnbdkaaaGreat
open Go.RowKit

theorem partsTo_length (log : List (Nat → Int)) (ps : List Pt) (k : Nat) (h : k ≤ ps.length) : (partsTo log ps k).length = k := by
  induction k with
  | zero => rfl
  | succ k ih =>
    show (partsTo log ps k ++ _).length = k + 1
    rw [List.length_append, ih (by omega), List.getElem?_eq_getElem (by omega)]
    rfl
end Go.Proofs.YtnjlbgolnbdkaaaGreat
namespace Go.Proofs.YtnjlbgolnbdkaaaGreat
open Go.RowKit

def MBlk (L : MLay) (st : RSt) (b : Nat) : Prop := b = L.mb ∨ b = L.pb ∨ b = L.wb ∨ b = L.cb ∨ (∃ i, i < st.parts.length ∧ (b = L.wd i ∨ b = L.pr i ∨ b = L.tn i)) ∨ (∃ j, j < st.cf.chans.length ∧ b = L.ch j) ∨ (∃ i k, i < st.parts.length ∧ k < (st.parts.getD i default).procs.length ∧ (L.code i k).ownBlock = some b)
theorem partsTo_get (log : List (Nat → Int)) (ps : List Pt) (k i : Nat) (hk : k ≤ ps.length) (hi : i < k) : (partsTo log ps k).getD i default = part0 log i (ps.getD i default) := by
  induction k with
  | zero => omega
  | succ k ih =>
    have hl := partsTo_length log ps k (by omega)
    show (partsTo log ps k ++ _).getD i default = _
    rw [List.getD_eq_getElem?_getD]
    by_cases h : i < k
    · rw [List.getElem?_append_left (by omega), ← List.getD_eq_getElem?_getD]
      exact ih (by omega) h
    · obtain rfl : i = k := by omega
      have hs : ps[i]? = some ps[i] := List.getElem?_eq_getElem (by omega)
      rw [List.getElem?_append_right (by omega), hl, List.getD_eq_getElem?_getD, hs]
      simp
theorem rep_getD {α : Type} (n k : Nat) (x d : α) (h : k < n) : (List.replicate n x).getD k d = x := by rw [List.getD_eq_getElem?_getD, List.getElem?_replicate_of_lt h]; rfl
theorem flat_rows {α : Type} [Inhabited α] (F : α → List Value) (l : List α) : l.flatMap F = rowsL l.length (fun k => F (l.getD k default)) := by
  have key : ∀ n, n ≤ l.length → (l.take n).flatMap F = rowsL n (fun k => F (l.getD k default)) := by
    intro n hn
    induction n with
    | zero => simp [rowsL]
    | succ n ih =>
      rw [List.take_add_one, List.flatMap_append, ih (by omega), rowsL_succ, List.getElem?_eq_getElem (by omega), List.getD_eq_getElem?_getD, List.getElem?_eq_getElem (by omega)]
      simp
  have := key l.length (Nat.le_refl _)
  rwa [List.take_length] at this

theorem Parts0.low {w : World} {lo lo' n : Nat} {D : CLay} {ps : List Pt} {log : List (Nat → Int)} {wd pr tn : Nat → Nat} (h : Parts0 w lo D ps log n wd pr tn) (hl : lo' ≤ lo) : Parts0 w lo' D ps log n wd pr tn :=
  ⟨fun i p hi hp => ⟨Nat.le_trans hl (h.words i p hi hp).1, (h.words i p hi hp).2⟩, fun i p hi hp => ⟨Nat.le_trans hl (h.procs i p hi hp).1, (h.procs i p hi hp).2⟩, fun i p hi hp => ⟨Nat.le_trans hl (h.turns i p hi hp).1, (h.turns i p hi hp).2⟩, h.wdwd, h.prpr, h.wdtn⟩
structure RestMem (w : World) (xW : Nat) (xC : Option Addr) (cf : Cf) : Prop where
  wins : ∀ k p, cf.wins[k]? = some p → xW < w.heap.size ∧ w.cell? ⟨xW, k * 3, none⟩ = some (.int .i64 p.part) ∧ w.cell? ⟨xW, k * 3 + 1, none⟩ = some (.int .i64 p.first) ∧ w.cell? ⟨xW, k * 3 + 2, none⟩ = some (.int .i64 p.many)
  chans : ∀ k p, cf.chans[k]? = some p → ∃ g, xC = some ⟨g, 0, none⟩ ∧ g < w.heap.size ∧ w.cell? ⟨g, k * 3, none⟩ = some (.int .i64 p.src) ∧ w.cell? ⟨g, k * 3 + 1, none⟩ = some (.int .i64 p.dst) ∧ w.cell? ⟨g, k * 3 + 2, none⟩ = some (.int .i64 p.depth)
theorem RestMem.keep {w w' : World} {xW : Nat} {xC : Option Addr} {cf : Cf} (h : RestMem w xW xC cf) (hb : Below w.heap.size w w') : RestMem w' xW xC cf := by
  refine ⟨fun k p hp => ?_, fun k p hp => ?_⟩
  · obtain ⟨h1, h2, h3, h4⟩ := h.wins k p hp
    have hk := hb.block _ h1
    exact ⟨Nat.lt_of_lt_of_le h1 hb.size, (cell_same hk _).trans h2, (cell_same hk _).trans h3, (cell_same hk _).trans h4⟩
  · obtain ⟨g, h0, h1, h2, h3, h4⟩ := h.chans k p hp
    have hk := hb.block _ h1
    exact ⟨g, h0, Nat.lt_of_lt_of_le h1 hb.size, (cell_same hk _).trans h2, (cell_same hk _).trans h3, (cell_same hk _).trans h4⟩
theorem mach_made (w : World) (lo g mb pb wb cb : Nat) (D : CLay) (cf : Cf) (bs : List Int) (wd pr tn ch : Nat → Nat) (hg : CfGood cf) (hlo : lo ≤ mb ∧ lo ≤ pb ∧ lo ≤ wb ∧ lo ≤ cb)
    (hcl : ∀ i r, r ∈ D.l i → ∀ b, r.2.ownBlock = some b → lo ≤ b) (hm : PartsMem w D cf.parts) (h0 : Parts0 w lo D cf.parts (logOf bs) cf.parts.length wd pr tn)
    (h1 : w.heap[mb]? = some (.cells #[.pointer (some ⟨g, 0, none⟩), .int .i64 cf.frame, .int .i64 cf.watch, .slice (some ⟨pb, 0, none⟩) cf.parts.length cf.parts.length, .slice (some ⟨wb, 0, none⟩) cf.wins.length cf.wins.length, .slice (some ⟨cb, 0, none⟩) cf.chans.length cf.chans.length, .int .i64 0, .bool false] 145 (0, 0)))
    (h2 : w.heap[pb]? = some (.cells (rowsL cf.parts.length fun i => mpartC (wd i) (pr i) (tn i) i (cf.parts.getD i default) (part0 (logOf bs) i (cf.parts.getD i default))).toArray 120 (0, 0)))
    (h3 : w.heap[wb]? = some (.cells (cf.wins.flatMap mwinCells).toArray 131 (0, 0)))
    (h4 : w.heap[cb]? = some (.cells (rowsL cf.chans.length fun j => [.int .i64 (cf.chans.getD j default).src, .int .i64 (cf.chans.getD j default).dst, .chan (some (ch j))]).toArray 139 (0, 0)))
    (h5 : ∀ j, j < cf.chans.length → lo ≤ ch j ∧ w.heap[ch j]? = some (.chan (cf.chans.getD j default).depth.toNat #[] false 0 0 false)) (h6 : ∀ i j, i < cf.chans.length → j < cf.chans.length → ch i = ch j → i = j) :
    ∃ L : MLay, L.mb = mb ∧ MachAt w L g (bootSt cf bs) ∧ LayOk L cf.parts.length cf.chans.length ∧ StOk (bootSt cf bs) ∧ ∀ b, MBlk L (bootSt cf bs) b → lo ≤ b := by
  have hlen : (bootSt cf bs).parts.length = cf.parts.length := partsTo_length _ _ _ (Nat.le_refl _)
  have hget : ∀ i, i < cf.parts.length → (bootSt cf bs).parts.getD i default = part0 (logOf bs) i (cf.parts.getD i default) := fun i hi => partsTo_get _ _ _ i (Nat.le_refl _) hi
  have hsome : ∀ i, i < cf.parts.length → cf.parts[i]? = some (cf.parts.getD i default) := fun i hi => by rw [List.getD_eq_getElem?_getD, List.getElem?_eq_getElem hi]; rfl
  have hdl : ∀ i, i < cf.parts.length → (D.l i).length = (cf.parts.getD i default).procs.length := fun i hi => by rw [← (hm.procs i _ (hsome i hi)).1, List.length_map]
  have hcode : ∀ i k, i < cf.parts.length → k < (cf.parts.getD i default).procs.length → ((D.l i).getD k default) ∈ D.l i ∧ ((D.l i).getD k default).1 = (cf.parts.getD i default).procs.getD k default := fun i k hi hk => by
    have hk' : k < (D.l i).length := by rw [hdl i hi]; exact hk
    have e := (hm.procs i _ (hsome i hi)).1
    rw [← e]
    rw [List.getD_eq_getElem?_getD, List.getElem?_eq_getElem hk', List.getD_eq_getElem?_getD, List.getElem?_map, List.getElem?_eq_getElem hk']
    exact ⟨List.getElem_mem hk', rfl⟩
  refine ⟨⟨mb, pb, wb, cb, wd, pr, tn, fun i k => ((D.l i).getD k default).2, ch⟩, rfl, ⟨?_, ?_, fun i hi => ?_, fun i hi => ?_, fun i hi => ?_, h3, h4, fun j hj => ?_, fun i k hi hk => ?_⟩, ⟨h0.wdwd, h0.prpr, h0.wdtn, h6⟩, ⟨hg, hlen, fun i hi => ?_, by simp [bootSt]⟩, fun b hb => ?_⟩
  · unfold machObj
    rw [hlen]
    exact h1
  · rw [hlen, h2]
    congr 3
    exact rowsL_congr _ _ _ (fun i hi => by rw [hget i hi]; rfl)
  · rw [hlen] at hi
    rw [hget i hi]
    exact (h0.words i _ hi (hsome i hi)).2
  · rw [hlen] at hi
    rw [hget i hi, (h0.procs i _ hi (hsome i hi)).2]
    congr 3
    show _ = rowsL (List.replicate _ proc0).length _
    rw [flat_rows, List.length_replicate, hdl i hi]
    refine rowsL_congr _ _ _ (fun k hk => ?_)
    show _ = mprocCells _ ((List.replicate _ proc0).getD k default)
    rw [rep_getD _ _ _ _ hk]
  · rw [hlen] at hi
    rw [hget i hi, (h0.turns i _ hi (hsome i hi)).2]
    show _ = some (Obj.cells ((turnI (List.replicate _ proc0).length _).map _).toArray _ _)
    rw [List.length_replicate]
    rfl
  · refine ⟨0, 0, ?_⟩
    rw [(h5 j hj).2]
    show _ = some (Obj.chan _ (((List.replicate cf.chans.length ([] : List Int)).getD j []).map _).toArray _ _ _ _)
    rw [rep_getD cf.chans.length j [] [] hj]
    rfl
  · rw [hlen] at hi
    rw [hget i hi] at hk
    have hk2 : k < (cf.parts.getD i default).procs.length := by simpa [part0] using hk
    obtain ⟨c1, c2⟩ := hcode i k hi hk2
    have := (hm.procs i _ (hsome i hi)).2.2 _ c1
    rw [c2] at this
    exact this
  · rw [hlen] at hi
    rw [hget i hi]
    exact ⟨by simp [part0]; rfl, by simp [part0]; rfl⟩
  · rcases hb with rfl | rfl | rfl | rfl | ⟨i, hi, hb⟩ | ⟨j, hj, rfl⟩ | ⟨i, k, hi, hk, hb⟩
    · exact hlo.1
    · exact hlo.2.1
    · exact hlo.2.2.1
    · exact hlo.2.2.2
    · rw [hlen] at hi
      rcases hb with rfl | rfl | rfl
      · exact (h0.words i _ hi (hsome i hi)).1
      · exact (h0.procs i _ hi (hsome i hi)).1
      · exact (h0.turns i _ hi (hsome i hi)).1
    · exact (h5 j hj).1
    · rw [hlen] at hi
      rw [hget i hi] at hk
      exact hcl i _ (hcode i k hi (by simpa [part0] using hk)).1 b hb
end Go.Proofs.YtnjlbgolnbdkaaaGreat
