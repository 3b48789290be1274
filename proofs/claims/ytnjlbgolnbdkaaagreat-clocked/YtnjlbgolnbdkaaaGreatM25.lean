/- Texts of the proofs of Watched and Clocked, one behind the other. -/
import Derived.Test.YtnjlbgolnbdkaaaGreatM12
import Derived.Test.YtnjlbgolnbdkaaaGreatM23
import Derived.Test.YtnjlbgolnbdkaaaGreatM24
/- Clocked: what the model does. Plain. -/
namespace Go.Proofs.YtnjlbgolnbdkaaaGreat
open Go.RowKit

structure Lc where
  low : Nat
  high : Nat
  next : Nat
  til : Nat
def Lc.step (s x : Nat) (c : Lc) : Lc :=
  if x < c.til then { c with low := c.low + 1 }
  else ⟨c.low, if c.next = 1 then c.high + 1 else c.high, (c.next + 1) % 3, if c.next = 0 then x + s else c.til⟩
def lcTo (m t s i : Nat) : Nat → Lc
  | 0 => ⟨0, 0, 0, 0⟩
  | x + 1 => if x % (m * t) / t = i then (lcTo m t s i x).step s x else lcTo m t s i x
structure LcOk (x : Nat) (c : Lc) : Prop where
  low : c.low ≤ x
  high : c.high ≤ x
  next : c.next < 3
  two : c.next = 2 → 1 ≤ c.high
  til : c.til ≤ x + 9
theorem lcTo_ok (m t s i : Nat) (hs : s ≤ 9) (x : Nat) : LcOk x (lcTo m t s i x) := by
  induction x with
  | zero => exact ⟨Nat.le_refl _, Nat.le_refl _, by show 0 < 3; omega, fun h => (by cases h), Nat.zero_le _⟩
  | succ x ih =>
    obtain ⟨h1, h2, h3, h4, h5⟩ := ih
    show LcOk (x + 1) (if x % (m * t) / t = i then (lcTo m t s i x).step s x else lcTo m t s i x)
    generalize lcTo m t s i x = c at *
    split
    · unfold Lc.step
      split
      · exact ⟨by simp only; omega, by simp only; omega, h3, h4, by simp only; omega⟩
      · refine ⟨by simp only; omega, by simp only; split <;> omega, by simp only; omega, ?_, by simp only; split <;> omega⟩
        simp only
        intro h
        have : c.next = 1 := by omega
        rw [if_pos this]
        omega
    · exact ⟨by omega, by omega, h3, h4, by omega⟩
def ptC (s : Nat) : Pt := ⟨false, 1, 0, [1, 1, 1, 1, 1, 1], [⟨5, [(1, 1), (4, 0)]⟩, ⟨7, [(5, s), (1, 1), (4, 0)]⟩]⟩
def cfC (m t s : Nat) : Cf := ⟨(m : Int) * t, 0, List.replicate m (ptC s), winsOf t m, []⟩
def prL (c : Lc) : RProc := ⟨((c.low % 2 : Nat) : Int), (((c.low + 1) / 2 : Nat) : Int), 0, -1, false⟩
def prH (c : Lc) : RProc := ⟨(c.next : Int), (c.high : Int), (c.til : Int), -1, false⟩
def paC (c : Lc) : RPart := ⟨1, [0], [prL c, prH c], 0⟩
def stC (m t s x : Nat) (ps : List RPart) : RSt := ⟨cfC m t s, ps, [], x, false⟩
theorem stC_cpart (m t s x i : Nat) (ps : List RPart) (hi : i < m) : (stC m t s x ps).cpart i = ptC s := by
  unfold RSt.cpart stC cfC
  simp [List.getD_eq_getElem?_getD, hi]
theorem best_low (st : RSt) (i : Nat) (s : Nat) (x y : RProc) (hcp : st.cpart i = ptC s) (hp : st.part i = ⟨1, [0], [x, y], 0⟩) (h0 : 0 ≤ st.now) (hx : x.stopped = false ∧ x.til = 0 ∧ (x.next = 0 ∨ x.next = 1)) (hy : st.now < y.til) : bestS st i = some 0 := by
  have r0 : readyS st i 0 = true := by
    rcases hx.2.2 with h | h <;> simp [readyS, RSt.proc, hp, hcp, insOf, RSt.codeOf, ptC, hx.1, hx.2.1, h] <;> omega
  have r1 : readyS st i 1 = false := by
    simp [readyS, RSt.proc, hp, hy]
  simp [bestS, hcp, ptC, bestTo, r0, r1]
theorem best_high (st : RSt) (i : Nat) (s : Nat) (x y : RProc) (hcp : st.cpart i = ptC s) (hp : st.part i = ⟨1, [0], [x, y], 0⟩) (h0 : 0 ≤ st.now) (hx : x.stopped = false ∧ x.til = 0 ∧ (x.next = 0 ∨ x.next = 1)) (hy : ¬ st.now < y.til) (hs : y.stopped = false) (hn : y.next = 0 ∨ y.next = 1 ∨ y.next = 2) : bestS st i = some 1 := by
  have r0 : readyS st i 0 = true := by
    rcases hx.2.2 with h | h <;> simp [readyS, RSt.proc, hp, hcp, insOf, RSt.codeOf, ptC, hx.1, hx.2.1, h] <;> omega
  have r1 : readyS st i 1 = true := by
    rcases hn with h | h | h <;> simp [readyS, RSt.proc, hp, hcp, insOf, RSt.codeOf, ptC, hs, h] <;> omega
  have pr : prioOf (ptC s) 0 < prioOf (ptC s) 1 := by simp [prioOf, ptC]
  simp [bestS, hcp, show (ptC s).procs.length = 2 from rfl, bestTo, r0, r1, pr]
theorem step_low0 (st : RSt) (bs : List Int) (i s : Nat) (a : Int) (y : RProc) (hcp : st.cpart i = ptC s) (hp : st.part i = ⟨1, [0], [⟨0, a, 0, -1, false⟩, y], 0⟩) (hw : IntKind.i64.wrap (a + 1) = a + 1) : stepS bs i 0 st = (-1, st.setPart i ⟨1, [0], [⟨1, a + 1, 0, -1, false⟩, y], 0⟩) := by
  simp [stepS, RSt.follow, insOf, RSt.codeOf, RSt.proc, hcp, hp, ptC, RSt.setProc, hw]
theorem step_low1 (st : RSt) (bs : List Int) (i s : Nat) (a : Int) (y : RProc) (hcp : st.cpart i = ptC s) (hp : st.part i = ⟨1, [0], [⟨1, a, 0, -1, false⟩, y], 0⟩) (ha : a ≠ 0) : stepS bs i 0 st = (-1, st.setPart i ⟨1, [0], [⟨0, a, 0, -1, false⟩, y], 0⟩) := by
  simp [stepS, RSt.follow, insOf, RSt.codeOf, RSt.proc, hcp, hp, ptC, RSt.setProc, ha]
theorem step_high0 (st : RSt) (bs : List Int) (i s : Nat) (a tl : Int) (x : RProc) (hcp : st.cpart i = ptC s) (hp : st.part i = ⟨1, [0], [x, ⟨0, a, tl, -1, false⟩], 0⟩) : stepS bs i 1 st = (-1, st.setPart i ⟨1, [0], [x, ⟨1, a, st.now + s, -1, false⟩], 0⟩) := by
  simp [stepS, RSt.follow, insOf, RSt.codeOf, RSt.proc, hcp, hp, ptC, RSt.setProc]
theorem step_high1 (st : RSt) (bs : List Int) (i s : Nat) (a tl : Int) (x : RProc) (hcp : st.cpart i = ptC s) (hp : st.part i = ⟨1, [0], [x, ⟨1, a, tl, -1, false⟩], 0⟩) (hw : IntKind.i64.wrap (a + 1) = a + 1) : stepS bs i 1 st = (-1, st.setPart i ⟨1, [0], [x, ⟨2, a + 1, tl, -1, false⟩], 0⟩) := by
  simp [stepS, RSt.follow, insOf, RSt.codeOf, RSt.proc, hcp, hp, ptC, RSt.setProc, hw]
theorem step_high2 (st : RSt) (bs : List Int) (i s : Nat) (a tl : Int) (x : RProc) (hcp : st.cpart i = ptC s) (hp : st.part i = ⟨1, [0], [x, ⟨2, a, tl, -1, false⟩], 0⟩) (ha : a ≠ 0) : stepS bs i 1 st = (-1, st.setPart i ⟨1, [0], [x, ⟨0, a, tl, -1, false⟩], 0⟩) := by
  simp [stepS, RSt.follow, insOf, RSt.codeOf, RSt.proc, hcp, hp, ptC, RSt.setProc, ha]
theorem turn_of {i n : Nat} {s : SF} {st' : RSt} (hb : bestS s.1 i = some n) (hs : stepS s.2.bs i n s.1 = (-1, st')) : turnS i s = (true, st', s.2) := by
  unfold turnS
  simp only [hb, hs]
  rfl
theorem wrapC (a : Int) (h : 0 ≤ a ∧ a ≤ 1000000) : IntKind.i64.wrap a = a := by rw [IntKind.wrap_i64]; omega
theorem turnC (m t s x i : Nat) (ps : List RPart) (c : Lc) (F : Fl) (hi : i < m) (h : ps.getD i default = paC c) (hc : LcOk x c) (hx : x ≤ 1000) : turnS i (stC m t s x ps, F) = (true, stC m t s x (ps.set i (paC (c.step s x))), F) := by
  have hcp := stC_cpart m t s x i ps hi
  have hp : (stC m t s x ps).part i = ⟨1, [0], [prL c, prH c], 0⟩ := h
  obtain ⟨h1, h2, h3, h4, h5⟩ := hc
  have hl : (prL c).stopped = false ∧ (prL c).til = 0 ∧ ((prL c).next = 0 ∨ (prL c).next = 1) := ⟨rfl, rfl, by show ((c.low % 2 : Nat) : Int) = 0 ∨ ((c.low % 2 : Nat) : Int) = 1; omega⟩
  by_cases ht : x < c.til
  · have hb := best_low _ i s _ _ hcp hp (show (0 : Int) ≤ (x : Int) by omega) hl (show (x : Int) < (c.til : Int) by omega)
    unfold Lc.step
    rw [if_pos ht]
    obtain e | e : c.low % 2 = 0 ∨ c.low % 2 = 1 := by omega
    · have hp' : (stC m t s x ps).part i = ⟨1, [0], [⟨0, (((c.low + 1) / 2 : Nat) : Int), 0, -1, false⟩, prH c], 0⟩ := by rw [hp]; unfold prL; rw [e]; rfl
      refine turn_of hb ((step_low0 _ _ i s _ _ hcp hp' (wrapC _ (by omega))).trans ?_)
      unfold paC prL
      rw [show (c.low + 1) % 2 = 1 by omega, show (c.low + 1 + 1) / 2 = (c.low + 1) / 2 + 1 by omega]
      rfl
    · have hp' : (stC m t s x ps).part i = ⟨1, [0], [⟨1, (((c.low + 1) / 2 : Nat) : Int), 0, -1, false⟩, prH c], 0⟩ := by rw [hp]; unfold prL; rw [e]; rfl
      refine turn_of hb ((step_low1 _ _ i s _ _ hcp hp' (by omega)).trans ?_)
      unfold paC prL
      rw [show (c.low + 1) % 2 = 0 by omega, show (c.low + 1 + 1) / 2 = (c.low + 1) / 2 by omega]
      rfl
  · have hb := best_high _ i s _ _ hcp hp (show (0 : Int) ≤ (x : Int) by omega) hl (show ¬ (x : Int) < (c.til : Int) by omega) rfl (show (c.next : Int) = 0 ∨ (c.next : Int) = 1 ∨ (c.next : Int) = 2 by omega)
    unfold Lc.step
    rw [if_neg ht]
    obtain e | e | e : c.next = 0 ∨ c.next = 1 ∨ c.next = 2 := by omega
    · have hp' : (stC m t s x ps).part i = ⟨1, [0], [prL c, ⟨0, (c.high : Int), (c.til : Int), -1, false⟩], 0⟩ := by rw [hp]; unfold prH; rw [e]; rfl
      refine turn_of hb ((step_high0 _ _ i s _ _ _ hcp hp').trans ?_)
      rw [e]
      rfl
    · have hp' : (stC m t s x ps).part i = ⟨1, [0], [prL c, ⟨1, (c.high : Int), (c.til : Int), -1, false⟩], 0⟩ := by rw [hp]; unfold prH; rw [e]; rfl
      refine turn_of hb ((step_high1 _ _ i s _ _ _ hcp hp' (wrapC _ (by omega))).trans ?_)
      rw [e]
      rfl
    · have hp' : (stC m t s x ps).part i = ⟨1, [0], [prL c, ⟨2, (c.high : Int), (c.til : Int), -1, false⟩], 0⟩ := by rw [hp]; unfold prH; rw [e]; rfl
      refine turn_of hb ((step_high2 _ _ i s _ _ _ hcp hp' (by have := h4 e; omega)).trans ?_)
      rw [e]
      rfl
def psC (m t s x : Nat) : List RPart := (List.range m).map fun i => paC (lcTo m t s i x)
theorem psC_get (m t s x i : Nat) (hi : i < m) : (psC m t s x).getD i default = paC (lcTo m t s i x) := by
  simp [psC, List.getD_eq_getElem?_getD, hi]
theorem psC_next (m t s x : Nat) (q : Nat) (hq : x % (m * t) / t = q) : (psC m t s x).set q (paC ((lcTo m t s q x).step s x)) = psC m t s (x + 1) := by
  apply List.ext_getElem
  · simp [psC]
  · intro j h1 h2
    simp only [psC, List.length_set, List.length_map, List.length_range] at h1 h2
    rw [List.getElem_set]
    simp only [psC, List.getElem_map, List.getElem_range, lcTo]
    by_cases e : q = j
    · subst e
      rw [if_pos rfl, if_pos hq]
    · rw [if_neg e, if_neg (by omega)]
theorem tickC (m t s x : Nat) (hm : 0 < m) (ht : 0 < t) (hs : s ≤ 9) (hx : x ≤ 1000) (F : Fl) : tickS (stC m t s x (psC m t s x), F) = (true, stC m t s (x + 1) (psC m t s (x + 1)), F) := by
  have hmt : 0 < m * t := Nat.mul_pos hm ht
  have hq : x % (m * t) / t < m := (Nat.div_lt_iff_lt_mul ht).2 (Nat.mod_lt _ hmt)
  have hd : deadS (stC m t s x (psC m t s x), F) = (true, (stC m t s x (psC m t s x), F)) := by
    refine deadS_quiet _ fun i n hi hn => .inr (.inr (.inl ?_))
    have hi' : i < m := by simpa [stC, psC] using hi
    have hp : (stC m t s x (psC m t s x)).part i = paC (lcTo m t s i x) := psC_get m t s x i hi'
    simp only [RSt.proc, hp] at hn ⊢
    have hn' : n < 2 := hn
    obtain rfl | rfl : n = 0 ∨ n = 1 := by omega
    · show (-1 : Int) < 0; omega
    · show (-1 : Int) < 0; omega
  have hw := winS_of (stC m t s x (psC m t s x), F) m t x rfl rfl rfl ht hm
  rw [turnC m t s x _ _ _ F hq (psC_get m t s x _ hq) (lcTo_ok m t s _ hs x) hx, psC_next m t s x _ rfl] at hw
  exact tickS_of hd (watchesS_off _ rfl) hw
theorem ticksC (m t s : Nat) (hm : 0 < m) (ht : 0 < t) (hs : s ≤ 9) (F : Fl) (n : Nat) (hn : n ≤ 1000) : ticksTo n (stC m t s 0 (psC m t s 0), F) = (true, stC m t s n (psC m t s n), F) := by
  induction n with
  | zero => rfl
  | succ n ih => rw [ticksTo_next, ih (by omega), andB_yes, tickC m t s n hm ht hs (by omega)]
theorem log_N2 : logOf flN.bs = [] := by
  have h : (logOf flN.bs).length = 0 := by decide +kernel
  exact List.length_eq_zero_iff.1 h
theorem boot_C (m t s : Nat) : bootSt (cfC m t s) flN.bs = stC m t s 0 (psC m t s 0) := by
  unfold bootSt
  rw [log_N2]
  have hp : ∀ k, k ≤ m → partsTo [] (List.replicate m (ptC s)) k = (List.range k).map fun i => paC (lcTo m t s i 0) := by
    intro k
    induction k with
    | zero => intro _; rfl
    | succ k ih =>
      intro hk
      have e : (List.replicate m (ptC s))[k]? = some (ptC s) := by rw [List.getElem?_replicate, if_pos (by omega)]
      show partsTo [] (List.replicate m (ptC s)) k ++ (match (List.replicate m (ptC s))[k]? with | some p => [part0 [] k p] | none => []) = _
      rw [ih (by omega), e, List.range_succ, List.map_append]
      simp [part0, modeOf, ptC, paC, prL, prH, lcTo, proc0, List.replicate]
  simp only [cfC, List.length_replicate, List.length_nil]
  rw [hp m (Nat.le_refl _)]
  rfl
theorem ptC_fit (s : Nat) (hs : s ≤ 9) : PtFit (ptC s) := ⟨by show (1 : Int) ≤ 1 ∧ (1 : Int) ≤ 16; omega, by show (0 : Int) ≤ 0 ∧ (0 : Int) ≤ 9; omega, rfl, by show ∀ a ∈ [(1 : Int), 1, 1, 1, 1, 1], _; decide, by show (1 : Int) ≠ 2 ∧ (1 : Int) ≠ 3; omega, by show 1 ≤ 2 ∧ 2 ≤ 2; omega, fun q hq => by
  simp only [ptC, List.mem_cons, List.not_mem_nil, or_false] at hq
  rcases hq with rfl | rfl
  · exact ⟨by decide, by decide, by decide⟩
  · refine ⟨by show (0 : Int) ≤ 7 ∧ (7 : Int) ≤ 9; omega, by show 1 ≤ 3 ∧ 3 ≤ 20; omega, fun x hx => ?_⟩
    simp only [List.mem_cons, List.not_mem_nil, or_false] at hx
    rcases hx with rfl | rfl | rfl
    · simp only; omega
    · simp
    · simp⟩
theorem parse_C (m t s : Nat) (hm : 1 ≤ m ∧ m ≤ 4) (ht : 1 ≤ t ∧ t ≤ 16) (hs : s ≤ 9) : parseOf (configK 0 (List.replicate m (encPt (ptC s))) t) = (cfC m t s, 0, 0) := by
  have hf : (m : Int) * t ≤ 64 := by
    have : (m : Int) * t ≤ 4 * 16 := Int.mul_le_mul (by omega) (by omega) (by omega) (by omega)
    omega
  have := parse_config 0 (List.replicate m (ptC s)) t (by omega) (by omega) (by simpa using hm) (by simpa using hf) (fun p hp => by
    rw [List.eq_of_mem_replicate hp]
    exact ptC_fit s hs)
  rw [List.map_replicate, List.length_replicate] at this
  exact this
end Go.Proofs.YtnjlbgolnbdkaaaGreat
/- Clocked: the walk. -/
namespace Go.Proofs.YtnjlbgolnbdkaaaGreat
open Go.RowKit

theorem encC_len (s : Nat) : (encPt (ptC s)).length = 24 := rfl
theorem encC_bytes (s : Nat) (hs : s ≤ 9) : Bytes (encPt (ptC s)) := by
  intro z hz
  have e : encPt (ptC s) = [0, 1, 0, 1, 1, 1, 1, 1, 1, 2, 5, 2, 1, 1, 4, 0, 7, 3, 5, (s : Int), 1, 1, 4, 0] := rfl
  rw [e] at hz
  simp only [List.mem_cons, List.not_mem_nil, or_false] at hz
  omega
theorem rows_rep {w : World} {base b c gp m n : Nat} {p : List Int} (h : w.ownsRow base 22 1 (.slice (some ⟨b, 0, none⟩) m c) m (List.replicate m (.slice (some ⟨gp, 0, none⟩) n n))) (k : Bys base w (.slice (some ⟨gp, 0, none⟩) n n) p) (hn : p.length = n) (hp : 0 < n ∧ n ≤ 1000) (hm : 1 ≤ m ∧ m ≤ 4) : Rows2 w (.slice (some ⟨b, 0, none⟩) m c) (List.replicate m p) := by
  subst hn
  have hl := World.ownsRow.lt h b rfl
  have kl := World.ownsRow.lt k.own gp rfl
  refine ⟨by simpa using hm, fun r hr => ?_, b, 0, c, by rw [List.length_replicate], hl.2, fun i hi => ?_⟩
  · rw [List.eq_of_mem_replicate hr]
    exact ⟨hp.1, hp.2, k.bytes⟩
  · rw [List.length_replicate] at hi
    have e : (List.replicate m p).getD i [] = p := by simp [List.getD_eq_getElem?_getD, hi]
    rw [e]
    refine ⟨gp, p.length, ?_, kl.2, k.news⟩
    have := h.cells (g := b) rfl i (.slice (some ⟨gp, 0, none⟩) p.length p.length) (by simp [hi])
    have e2 : (⟨b, 0, none⟩ : Addr).add i = ⟨b, 0 + i, none⟩ := by unfold Addr.add; split <;> simp_all
    rw [← e2]
    exact this
theorem flatten_rep (m : Nat) (p : List Int) : (List.replicate m p).flatten.length = m * p.length := by
  induction m with
  | zero => simp
  | succ m ih => rw [List.replicate_succ, List.flatten_cons, List.length_append, ih, Nat.succ_mul]; omega

set_option maxRecDepth 100000 in
set_option maxHeartbeats 4000000 in
theorem clocked_walk (a0 a1 a2 a3 : Int) (h0 : -9223372036854775808 ≤ a0 ∧ a0 ≤ 9223372036854775807) (h1 : -9223372036854775808 ≤ a1 ∧ a1 ≤ 9223372036854775807) (h2 : -9223372036854775808 ≤ a2 ∧ a2 ≤ 9223372036854775807) (h3 : -9223372036854775808 ≤ a3 ∧ a3 ≤ 9223372036854775807) (w : World) :
    Calls Tryz.prog 5 #[.int .i64 a0, .int .i64 a1, .int .i64 a2, .int .i64 a3] w fun e w' => e = .returned (.bool true) ∧ Below w.heap.size w w' := by
  have HAW := hide (kawake_any w)
  have HP0 : Hid (∀ W, Calls Tryz.prog 17 #[.int .i64 a0, .int .i64 4] W fun e w' => e = .returned (.int .i64 (pickOf a0 4)) ∧ w' = W) := fun W => kpick_any a0 4 W h0.1 h0.2 (by omega) (by omega)
  have HP1 : Hid (∀ W, Calls Tryz.prog 17 #[.int .i64 a1, .int .i64 16] W fun e w' => e = .returned (.int .i64 (pickOf a1 16)) ∧ w' = W) := fun W => kpick_any a1 16 W h1.1 h1.2 (by omega) (by omega)
  have HP2 : Hid (∀ W, Calls Tryz.prog 17 #[.int .i64 a2, .int .i64 500] W fun e w' => e = .returned (.int .i64 (pickOf a2 500)) ∧ w' = W) := fun W => kpick_any a2 500 W h2.1 h2.2 (by omega) (by omega)
  have HP3 : Hid (∀ W, Calls Tryz.prog 17 #[.int .i64 a3, .int .i64 9] W fun e w' => e = .returned (.int .i64 (pickOf a3 9)) ∧ w' = W) := fun W => kpick_any a3 9 W h3.1 h3.2 (by omega) (by omega)
  have hp0 := pickOf_nonneg a0 4 (by omega)
  have hq0 := pickOf_lt a0 4 (by omega)
  have hp1 := pickOf_nonneg a1 16 (by omega)
  have hq1 := pickOf_lt a1 16 (by omega)
  have hp2 := pickOf_nonneg a2 500 (by omega)
  have hq2 := pickOf_lt a2 500 (by omega)
  have hp3 := pickOf_nonneg a3 9 (by omega)
  have hq3 := pickOf_lt a3 9 (by omega)
  obtain ⟨pm, hpm⟩ := Int.eq_ofNat_of_zero_le hp0
  obtain ⟨pt, hpt⟩ := Int.eq_ofNat_of_zero_le hp1
  obtain ⟨n, hpn⟩ := Int.eq_ofNat_of_zero_le hp2
  obtain ⟨ps, hps⟩ := Int.eq_ofNat_of_zero_le hp3
  rw [hpm] at HP0 hq0
  rw [hpt] at HP1 hq1
  rw [hpn] at HP2 hq2
  rw [hps] at HP3 hq3
  obtain ⟨m, hm⟩ : ∃ m : Nat, m = 1 + pm := ⟨_, rfl⟩
  obtain ⟨t, ht⟩ : ∃ t : Nat, t = 1 + pt := ⟨_, rfl⟩
  obtain ⟨s, hs⟩ : ∃ s : Nat, s = 1 + ps := ⟨_, rfl⟩
  have hmi : (1 : Int) + (pm : Nat) = (m : Nat) := by omega
  have hti : (1 : Int) + (pt : Nat) = (t : Nat) := by omega
  have hsi : (1 : Int) + (ps : Nat) = (s : Nat) := by omega
  have hm1 : 1 ≤ m ∧ m ≤ 4 := by omega
  have ht1 : 1 ≤ t ∧ t ≤ 16 := by omega
  have hs1 : 1 ≤ s ∧ s ≤ 9 := by omega
  clear hp0 hp1 hp2 hp3 hpm hpt hpn hps h0 h1 h2 h3 hm ht hs
  go_enter Tryz.func5, Tryz.ntmps5
  go_wp2_with fail
  refine HAW.out.mono ?_
  rintro e w1 ⟨rfl, hb1⟩
  have hw1 := hb1.size
  have HB1 := hide hb1
  clear hb1 HAW
  go_wp2_with fail
  refine (HP0.out w1).mono ?_
  rintro e w9 ⟨rfl, rfl⟩
  go_wp2_with fail
  refine (HP1.out w9).mono ?_
  rintro e w1 ⟨rfl, rfl⟩
  go_wp2_with fail
  refine (HP3.out w1).mono ?_
  rintro e w9 ⟨rfl, rfl⟩
  obtain ⟨w2, hw2⟩ : ∃ w2, w2 = w9.alloc (.cells (vals (encPt (ptC s))).toArray 5) := ⟨_, rfl⟩
  have hb2 : Below w9.heap.size w9 w2 := by rw [hw2]; exact (Below.refl _ _).alloc (Nat.le_refl _) _
  have HI : Hid (Bys w.heap.size w2 (.slice (some ⟨w9.heap.size, 0, none⟩) 24 24) (encPt (ptC s))) := (by
    have := bys_lit w9 (encPt (ptC s)) 24 rfl (by omega) (encC_bytes s hs1.2)
    rw [← hw2] at this
    exact this.low hw1)
  have HB2 : Hid (Below w.heap.size w w2) := HB1.out.trans (hb2.mono hw1)
  have HW2 : Hid (w9.alloc (.cells #[.int .u8 0, .int .u8 1, .int .u8 0, .int .u8 1, .int .u8 1, .int .u8 1, .int .u8 1, .int .u8 1, .int .u8 1, .int .u8 2, .int .u8 5, .int .u8 2, .int .u8 1, .int .u8 1, .int .u8 4, .int .u8 0, .int .u8 7, .int .u8 3, .int .u8 5, .int .u8 (s : Nat), .int .u8 1, .int .u8 1, .int .u8 4, .int .u8 0] 5) = w2) := by rw [hw2]; exact rfl
  have hs2 := HB2.out.size
  have HLT : Hid (w9.heap.size < w2.heap.size) := (World.ownsRow.lt HI.out.own _ rfl).2
  clear hw2 hb2
  obtain ⟨gp, hgp⟩ : ∃ gp, gp = w9.heap.size := ⟨_, rfl⟩
  rw [← hgp] at HI HLT
  have HGP := hide hgp.symm
  clear hgp
  obtain ⟨j0, hj, hj0, hj1, hj2⟩ := info_parts Tryz.info22
  go_wp2_with fail
  rw [HW2.out, HGP.out]
  go_loopw [14, 15] (fun v q wr => ∃ k : Nat, k ≤ m ∧ q = .int .i64 k ∧ wr.ownsRow w2.heap.size 22 1 v k (List.replicate k (.slice (some ⟨gp, 0, none⟩) 24 24)) ∧ Below w2.heap.size w2 wr) (fun _ q _ => m - (intOf q).toNat)
  case atStart => exact ⟨0, by omega, rfl, World.ownsRow_nil _ _ _ _, Below.refl _ _⟩
  case round =>
    obtain ⟨k, hk, rfl, hown, hB⟩ := hrel
    have hwr := hB.size
    have HO := hide hown
    have HB := hide hB
    obtain ⟨ad, cp, hv⟩ := own_slice hown
    subst hv
    clear hown hB
    by_cases hlt : k < m
    · go_wp2_with (at_builtin; go_must (refine wpList_append_lies _ rfl (.tmp 47) (.tmp 49) 36 rfl w2.heap.size 22 j0 (.slice none 0 0) 1 24 Tryz.underlying36 hj hj0 hj1 hj2 rfl (by decide) (.slice ad k cp) k (List.replicate k (.slice (some ⟨gp, 0, none⟩) 24 24)) rfl (by exact HO.out.alloc _) ⟨wr.heap.size, 0, none⟩ 1 1 [.slice (some ⟨gp, 0, none⟩) 24 24] (by rfl) rfl (by exact news_at wr #[.slice (some ⟨gp, 0, none⟩) 24 24] 22) (by intro u hu; simp only [List.mem_cons, List.not_mem_nil, or_false] at hu; subst hu; rfl) (by omega) (by unfold maxLen; omega) (by omega) (by simp; omega) _ rfl ?_))
      intro g5 c5 w5 ho5 hg5 _ _
      have H5 : Hid (w5.ownsRow w2.heap.size 22 1 (.slice (some ⟨g5, 0, none⟩) (k + 1) c5) (k + 1) (List.replicate (k + 1) (.slice (some ⟨gp, 0, none⟩) 24 24))) := by
        rw [List.replicate_succ']
        exact ho5
      have H6 : Hid (Below w2.heap.size w2 w5) := HB.out.grown (grown_alloc hg5) hwr (fun b e => (World.ownsRow.lt HO.out b e).1)
      clear ho5 hg5
      go_wp2
      go_roundw
      case rel => exact ⟨k + 1, by omega, by go_num, H5.out, H6.out⟩
      case measure => simp [intOf]; omega
    · obtain rfl : k = m := by omega
      obtain ⟨b, cb, hvb⟩ : ∃ b cb, (Value.slice ad k cp) = .slice (some ⟨b, 0, none⟩) k cb := by obtain ⟨gg, cc, e1, _⟩ := HO.out.form (by omega); exact ⟨gg, cc, e1⟩
      obtain ⟨rfl, _, rfl⟩ := Value.slice.inj hvb
      clear hvb
      generalize wr = w4 at *
      have hs4 : w.heap.size ≤ w4.heap.size := by omega
      have HB4 : Hid (Below w.heap.size w w4) := HB2.out.trans (HB.out.mono hs2)
      have hrw := rows_rep (own_low HO.out hs2) (HI.out.keep fun x e => HB.out.block x (by simp [Value.ownBlock] at e; subst e; exact HLT.out)) rfl (by omega) hm1
      have HC := hide (kconfig_any 0 _ (List.replicate k (encPt (ptC s))) t w4 (by omega) (by omega) hrw)
      have HPA := hide (parse_C k t s hm1 ht1 hs1.2)
      have HZL : Hid (0 < (configK 0 (List.replicate k (encPt (ptC s))) t).length ∧ (configK 0 (List.replicate k (encPt (ptC s))) t).length ≤ 100000) := by
        show 0 < _ ∧ _ ≤ 100000
        rw [configK_len, flatten_rep, encC_len, List.length_replicate]
        omega
      generalize configK 0 (List.replicate k (encPt (ptC s))) t = zs at *
      clear hrw HO HB HI HW2
      go_wp2_with fail
      refine HC.out.mono ?_
      rintro e w5 ⟨v5, rfl, hC5, hb5⟩
      have HB5 : Hid (Below w.heap.size w w5) := HB4.out.trans (hb5.mono hs4)
      have hs5 := HB5.out.size
      have HZ5 := hide (hC5.low hs4)
      have HNF := hide (newFlash_any none 0 0 [] w5 ⟨rfl, Nat.le_refl _, by omega, fun z hz => (by cases hz), fun _ => rfl, fun ad e => (by cases e), fun ad e => (by cases e)⟩ (by omega))
      clear hC5 hb5 HC
      go_wp2_with fail
      refine HNF.out.mono ?_
      rintro e w6 ⟨g, rfl, hg, hF, hb6⟩
      have HB6 : Hid (Below w.heap.size w w6) := HB5.out.trans (hb6.mono hs5)
      have hs6 := HB6.out.size
      have HBO := hide (kboot_any w.heap.size v5 zs g flN w6 (Bys.below HZ5.out hb6) HZL.out.1 HZL.out.2 hF flN_ok (by omega) hs6 (by rw [HPA.out]))
      rw [HPA.out] at HBO
      clear hF hb6 HNF
      go_wp2_with fail
      refine HBO.out.mono ?_
      rintro e w7 ⟨kb, L, rfl, hk7, hb7⟩
      have HB7 : Hid (Below w.heap.size w w7) := HB6.out.trans (hb7.mono hs6)
      have hs7 := HB7.out.size
      have e1 := tickCall_all (bootSt (cfC k t s) flN.bs, flN) (stC k t s n (psC k t s n), flN) n (by omega) rfl (by rw [boot_C]; exact ticksC k t s (by omega) (by omega) hs1.2 flN n (by omega)) rfl
      have HT := hide (hk7.tick n (show (0 : Int) + 1000 ≤ _ by omega))
      rw [e1] at HT
      clear hk7 hb7 HBO e1 HPA HZ5 HZL HP0 HP1 HP3
      go_wp2_with fail
      refine (HP2.out w7).mono ?_
      rintro e w0 ⟨rfl, rfl⟩
      go_wp2_with fail
      refine HT.out.mono ?_
      rintro e w8 ⟨rfl, hk8, hb8, -⟩
      have HB8 : Hid (Below w.heap.size w w8) := HB7.out.trans hb8
      have HK8 := hide hk8
      have hs8 := HB8.out.size
      obtain ⟨st, hst⟩ : ∃ st : SF, st = (stC k t s n (psC k t s n), flN) := ⟨_, rfl⟩
      have HST := hide hst
      have HK8' : Hid (Kp w.heap.size w8 kb L g st) := by rw [hst]; exact HK8.out
      have HGT : Hid (∀ i, i < k → st.1.part i = paC (lcTo k t s i n)) := fun i hi => by rw [hst]; exact psC_get k t s n i hi
      have HLK : Hid (∀ i, i < k → i < st.1.parts.length) := fun i hi => by rw [hst]; exact (by simpa [stC, psC] using hi)
      clear hk8 hb8 HT HK8 hst
      go_wp2_with fail
      go_loopw [21, 22, 23, 24, 25, 26, 27, 28] (fun q _ _ _ _ _ _ _ wr => ∃ i : Nat, i ≤ k ∧ q = .int .i64 i ∧ Kp w.heap.size wr kb L g st ∧ Below w.heap.size w wr) (fun q _ _ _ _ _ _ _ _ => k - (intOf q).toNat)
      case atStart => exact ⟨0, by omega, rfl, HK8'.out, HB8.out⟩
      case round =>
        obtain ⟨i, hi, rfl, hkr, hBr⟩ := hrel
        have hsr := hBr.size
        have HBR := hide hBr
        by_cases hik : i < k
        · have HL := hide (hkr.look i (HLK.out i hik))
          rw [HGT.out i hik] at HL
          clear hkr hBr
          go_wp2_with fail
          refine HL.out.mono ?_
          rintro e wa ⟨va, rfl, hva, hka, hba⟩
          obtain ⟨y1, d1, y2, d2, rfl, -, hst⟩ := hva
          have p1 : wa.cell? ⟨y2, 1, none⟩ = some (.int .i64 (prL (lcTo k t s i n)).acc) := by
            have := hst.cells (g := y2) rfl 1 _ rfl
            simpa [Addr.add] using this
          have p3 : wa.cell? ⟨y2, 3, none⟩ = some (.int .i64 (prH (lcTo k t s i n)).next) := by
            have := hst.cells (g := y2) rfl 3 _ rfl
            simpa [Addr.add] using this
          have p4 : wa.cell? ⟨y2, 4, none⟩ = some (.int .i64 (prH (lcTo k t s i n)).acc) := by
            have := hst.cells (g := y2) rfl 4 _ rfl
            simpa [Addr.add] using this
          have hly := World.ownsRow.lt hst y2 rfl
          have HBA : Hid (Below w.heap.size w wa) := HBR.out.trans (hba.mono hsr)
          have hsa := HBA.out.size
          generalize restartsOf st.2.bs i = rs
          simp only [paC, prL, prH] at p1 p3 p4 ⊢
          simp only [List.length_cons, List.length_nil, Nat.zero_add, Nat.reduceAdd]
          obtain ⟨wb, hwb⟩ : ∃ wb, wb = wa.alloc (.cells #[.int .i64 1, .int .i64 rs, .slice (some ⟨y1, 0, none⟩) 1 d1, .slice (some ⟨y2, 0, none⟩) 2 d2] 43) := ⟨_, rfl⟩
          have hbb : Below wa.heap.size wa wb := by rw [hwb]; exact (Below.refl _ _).alloc (Nat.le_refl _) _
          have hCB : wb.heap[wa.heap.size]? = some (.cells #[.int .i64 1, .int .i64 rs, .slice (some ⟨y1, 0, none⟩) 1 d1, .slice (some ⟨y2, 0, none⟩) 2 d2] 43 (0, 0)) := by rw [hwb]; exact heap_alloc_new wa _
          have c3 : wb.cell? ⟨wa.heap.size, 3, none⟩ = some (.slice (some ⟨y2, 0, none⟩) 2 d2) := by rw [cell_of_row _ _ _ _ _ _ hCB]; rfl
          have q1 := (hbb.cell (p := ⟨y2, 1, none⟩) hly.2).trans p1
          have q3 := (hbb.cell (p := ⟨y2, 3, none⟩) hly.2).trans p3
          have q4 := (hbb.cell (p := ⟨y2, 4, none⟩) hly.2).trans p4
          have HKB := hide (hka.mono hbb)
          have HBB : Hid (Below w.heap.size w wb) := HBA.out.trans (hbb.mono hsa)
          have HWB := hide hwb
          have HQ := hide (And.intro q1 (And.intro q3 (And.intro q4 c3)))
          obtain ⟨mt, hmt⟩ : ∃ mt : Nat, mt = k * t := ⟨_, rfl⟩
          have hmt0 : 0 < mt ∧ mt ≤ 64 := by
            rw [hmt]
            exact ⟨Nat.mul_pos (by omega) (by omega), Nat.le_trans (Nat.mul_le_mul hm1.2 ht1.2) (by omega)⟩
          have hmti : (k : Int) * (t : Int) = (mt : Nat) := by rw [hmt]; exact (Int.natCast_mul k t).symm
          have HLS : Hid (∀ j, lcTo k t s i (j + 1) = if j % mt / t = i then (lcTo k t s i j).step s j else lcTo k t s i j) := fun j => by rw [hmt]; rfl
          have HOK : Hid (∀ j, LcOk j (lcTo k t s i j)) := fun j => lcTo_ok k t s i hs1.2 j
          clear hst p1 p3 p4 q1 q3 q4 c3 hCB hwb hbb hka hba HL hmt
          go_wp2_with fail
          rw [← HWB.out]
          go_loop [24, 25, 26, 27, 28] (fun lo hh nx un x => ∃ j : Nat, j ≤ n ∧ x = .int .i64 j ∧ lo = .int .i64 ((lcTo k t s i j).low : Nat) ∧ hh = .int .i64 ((lcTo k t s i j).high : Nat) ∧ nx = .int .i64 ((lcTo k t s i j).next : Nat) ∧ un = .int .i64 ((lcTo k t s i j).til : Nat)) (fun _ _ _ _ x => n - (intOf x).toNat)
          case atStart => exact ⟨0, by omega, rfl, rfl, rfl, rfl, rfl⟩
          case round =>
            obtain ⟨j, hj', rfl, rfl, rfl, rfl, rfl⟩ := hrel
            have hok := HOK.out j
            have hls := HLS.out j
            have hl1 := hok.low
            have hl2 := hok.high
            have hl3 := hok.next
            have hl5 := hok.til
            by_cases hjn : j < n
            · obtain ⟨r, hr⟩ : ∃ r : Nat, r = j % mt := ⟨_, rfl⟩
              have hri : (j : Int) % (mt : Int) = (r : Nat) := by rw [hr]; exact (Int.natCast_emod j mt).symm
              have hrl : r < mt := by rw [hr]; exact Nat.mod_lt _ hmt0.1
              obtain ⟨q, hq⟩ : ∃ q : Nat, q = r / t := ⟨_, rfl⟩
              have hqi : (r : Int) / (t : Int) = (q : Nat) := by rw [hq]; exact (Int.natCast_ediv r t).symm
              have hql : q ≤ 64 := by rw [hq]; exact Nat.le_trans (Nat.div_le_self r t) (by omega)
              rw [← hr, ← hq] at hls
              have HLJ := hide hls
              clear hls hr hq hok
              generalize lcTo k t s i j = c at *
              by_cases hqk : q = i
              · rw [if_pos hqk] at HLJ
                have hb1 : (((q : Nat) : Int) != ((i : Nat) : Int)) = false := by rw [hqk]; simp
                unfold Lc.step at HLJ
                by_cases hx : j < c.til
                · rw [if_pos hx] at HLJ
                  have hb2 : decide (((j : Nat) : Int) < ((c.til : Nat) : Int)) = true := by simp; omega
                  clear hqk
                  go_wp2
                  go_round
                  case rel => exact ⟨j + 1, by omega, by go_num, by rw [HLJ.out]; exact int_eq (by simp), by rw [HLJ.out], by rw [HLJ.out], by rw [HLJ.out]⟩
                  case measure => simp [intOf]; omega
                · rw [if_neg hx] at HLJ
                  have hb2 : decide (((j : Nat) : Int) < ((c.til : Nat) : Int)) = false := by simp; omega
                  clear hqk
                  obtain e | e | e : c.next = 0 ∨ c.next = 1 ∨ c.next = 2 := by omega
                  · rw [if_neg (by omega), if_pos e] at HLJ
                    have e1 : (((c.next : Nat) : Int) == 0) = true := by simp [e]
                    have e2 : (((c.next : Nat) : Int) == 1) = false := by simp [e]
                    have HE := hide e
                    clear e
                    go_wp2
                    go_round
                    case rel => exact ⟨j + 1, by omega, by go_num, by rw [HLJ.out], by rw [HLJ.out], by rw [HLJ.out]; exact int_eq (by simp), by rw [HLJ.out]; exact int_eq (by simp)⟩
                    case measure => simp [intOf]; omega
                  · rw [if_pos e, if_neg (by omega)] at HLJ
                    have e1 : (((c.next : Nat) : Int) == 0) = false := by simp [e]
                    have e2 : (((c.next : Nat) : Int) == 1) = true := by simp [e]
                    have HE := hide e
                    clear e
                    go_wp2
                    go_round
                    case rel => exact ⟨j + 1, by omega, by go_num, by rw [HLJ.out], by rw [HLJ.out]; exact int_eq (by simp), by rw [HLJ.out]; exact int_eq (by simp), by rw [HLJ.out]⟩
                    case measure => simp [intOf]; omega
                  · rw [if_neg (by omega), if_neg (by omega)] at HLJ
                    have e1 : (((c.next : Nat) : Int) == 0) = false := by simp [e]
                    have e2 : (((c.next : Nat) : Int) == 1) = false := by simp [e]
                    have HE := hide e
                    clear e
                    go_wp2
                    go_round
                    case rel => exact ⟨j + 1, by omega, by go_num, by rw [HLJ.out], by rw [HLJ.out], by rw [HLJ.out]; exact int_eq (by simp), by rw [HLJ.out]⟩
                    case measure => simp [intOf]; omega
              · rw [if_neg hqk] at HLJ
                have hb1 : (((q : Nat) : Int) != ((i : Nat) : Int)) = true := by simp; omega
                clear hqk
                go_wp2
                go_round
                case rel => exact ⟨j + 1, by omega, by go_num, by rw [HLJ.out], by rw [HLJ.out], by rw [HLJ.out], by rw [HLJ.out]⟩
                case measure => simp [intOf]; omega
            · obtain rfl : j = n := by omega
              clear hls hok
              have q1 := HQ.out.1
              have q3 := HQ.out.2.1
              have q4 := HQ.out.2.2.1
              have c3 := HQ.out.2.2.2
              generalize lcTo k t s i j = c at *
              go_wp2
              go_roundw
              case rel => exact ⟨i + 1, by omega, by go_num, HKB.out, HBB.out⟩
              case measure => simp [intOf]; omega
        · obtain rfl : i = k := by omega
          clear hkr hBr
          go_wp2
          go_ret
          exact ⟨rfl, HBR.out⟩
end Go.Proofs.YtnjlbgolnbdkaaaGreat
