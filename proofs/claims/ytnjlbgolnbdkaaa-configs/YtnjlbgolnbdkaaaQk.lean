/- The program's Parse answers what the document's answers: plain mathematics. -/
import Derived.Test.YtnjlbgolnbdkaaaQj
namespace Go.Proofs.Ytnjlbgolnbdkaaa
open Go.RowKit

structure Sim (zs : List Int) (r : Rd) (s : Rs) : Prop where
  err : s.err = r.err
  pos : r.err = 0 → s.pos = r.pos
  pl : r.err ≠ 0 → (s.pos : Int) = r.pl
  le : r.pos ≤ zs.length
structure Same (r r' : Rd) : Prop where
  err : r'.err = r.err
  pos : r'.pos = r.pos
  pl : r'.pl = r.pl
theorem Sim.same {zs : List Int} {r r' : Rd} {s : Rs} (h : Sim zs r s) (k : Same r r') : Sim zs r' s := ⟨by rw [k.err]; exact h.err, by rw [k.err, k.pos]; exact h.pos, by rw [k.err, k.pl]; exact h.pl, by rw [k.pos]; exact h.le⟩
structure Good {α : Type} (zs : List Int) (f : Rd → α × Rd) (g : Rs → α × Rs) : Prop where
  step : ∀ r s, Sim zs r s → Sim zs (f r).2 (g s).2 ∧ ((f r).2.err = 0 → (g s).1 = (f r).1)
  still : ∀ r, r.err ≠ 0 → Same r (f r).2
  stuck : ∀ s, s.err ≠ 0 → (g s).2 = s
theorem Same.refl (r : Rd) : Same r r := ⟨rfl, rfl, rfl⟩
theorem Same.trans {a b c : Rd} (h : Same a b) (k : Same b c) : Same a c := ⟨k.err.trans h.err, k.pos.trans h.pos, k.pl.trans h.pl⟩

section
variable {zs : List Int} {lo hi : Int} {es : List Int} {r : Rd} {s : Rs}
theorem rdB_err (h : r.err ≠ 0) : rdB zs lo hi r = (lo, r) := by unfold rdB; rw [if_pos h]
theorem rdB_short (h : r.err = 0) (h2 : zs.length ≤ r.pos) : rdB zs lo hi r = (lo, { r with err := 2, pl := zs.length }) := by unfold rdB; rw [if_neg (by simpa using h), if_pos h2]
theorem rdB_bad (h : r.err = 0) (h2 : ¬ zs.length ≤ r.pos) (h3 : zs.getD r.pos 0 < lo ∨ hi < zs.getD r.pos 0) : rdB zs lo hi r = (lo, { r with err := 3, pl := r.pos }) := by unfold rdB; rw [if_neg (by simpa using h), if_neg h2, if_pos h3]
theorem rdB_good (h : r.err = 0) (h2 : ¬ zs.length ≤ r.pos) (h3 : ¬ (zs.getD r.pos 0 < lo ∨ hi < zs.getD r.pos 0)) : rdB zs lo hi r = (zs.getD r.pos 0, { r with pos := r.pos + 1 }) := by unfold rdB; rw [if_neg (by simpa using h), if_neg h2, if_neg h3]
theorem pgB_err (h : s.err ≠ 0) : pgB zs lo hi es s = (0, s) := by unfold pgB; rw [if_pos h]
theorem pgB_short (h : s.err = 0) (h2 : zs.length ≤ s.pos) : pgB zs lo hi es s = (0, { s with err := 2 }) := by unfold pgB; rw [if_neg (by simpa using h), if_pos h2]
theorem pgB_bad (h : s.err = 0) (h2 : ¬ zs.length ≤ s.pos) (h3 : zs.getD s.pos 0 < lo ∨ hi < zs.getD s.pos 0 ∨ zs.getD s.pos 0 ∈ es) : pgB zs lo hi es s = (0, { s with err := 3 }) := by unfold pgB; rw [if_neg (by simpa using h), if_neg h2, if_pos h3]
theorem pgB_good (h : s.err = 0) (h2 : ¬ zs.length ≤ s.pos) (h3 : ¬ (zs.getD s.pos 0 < lo ∨ hi < zs.getD s.pos 0 ∨ zs.getD s.pos 0 ∈ es)) : pgB zs lo hi es s = (zs.getD s.pos 0, { s with pos := s.pos + 1 }) := by unfold pgB; rw [if_neg (by simpa using h), if_neg h2, if_neg h3]
end
theorem good_B (zs : List Int) (lo hi : Int) : Good zs (rdB zs lo hi) (pgB zs lo hi []) := by
  refine ⟨fun r s h => ?_, fun r h => by rw [rdB_err h]; exact Same.refl r, fun s h => by rw [pgB_err h]⟩
  by_cases h1 : r.err = 0
  · have h1' : s.err = 0 := h.err.trans h1
    have hp := h.pos h1
    by_cases h2 : zs.length ≤ r.pos
    · rw [rdB_short h1 h2, pgB_short h1' (by omega)]
      refine ⟨⟨rfl, fun h => by simp at h, fun _ => ?_, h.le⟩, fun h => by simp at h⟩
      have := h.le
      show (s.pos : Int) = (zs.length : Int)
      omega
    · by_cases h3 : zs.getD r.pos 0 < lo ∨ hi < zs.getD r.pos 0
      · rw [rdB_bad h1 h2 h3, pgB_bad h1' (by omega) (by rw [hp]; exact h3.elim .inl (fun h => .inr (.inl h)))]
        refine ⟨⟨rfl, fun h => by simp at h, fun _ => ?_, h.le⟩, fun h => by simp at h⟩
        show (s.pos : Int) = (r.pos : Int)
        rw [hp]
      · rw [rdB_good h1 h2 h3, pgB_good h1' (by omega) (by rw [hp]; exact fun h => h.elim (fun a => h3 (.inl a)) (fun b => b.elim (fun a => h3 (.inr a)) (fun c => by simp at c)))]
        refine ⟨⟨h.err, fun _ => ?_, fun hh => absurd h1 hh, by simp only; omega⟩, fun _ => ?_⟩
        · show s.pos + 1 = r.pos + 1
          rw [hp]
        · show zs.getD s.pos 0 = zs.getD r.pos 0
          rw [hp]
  · have h1' : s.err ≠ 0 := by rw [h.err]; exact h1
    rw [rdB_err h1, pgB_err h1']
    exact ⟨h, fun h => absurd h h1⟩

/- a value that must be none of some -/
theorem good_not (zs : List Int) (lo hi : Int) (es : List Int) (F : Int → Rd → Rd) (hF : ∀ v r, F v r = if r.err = 0 ∧ v ∈ es then { r with err := 3, pl := (r.pos : Int) - 1 } else r) : Good zs (fun r => ((rdB zs lo hi r).1, F (rdB zs lo hi r).1 (rdB zs lo hi r).2)) (pgB zs lo hi es) := by
  have hb := good_B zs lo hi
  refine ⟨fun r s h => ?_, fun r h => ?_, fun s h => ?_⟩
  · have hs := hb.step r s h
    simp only [hF]
    by_cases h0 : (rdB zs lo hi r).2.err = 0
    · obtain ⟨h1, h2, h3, h4, h5, h6⟩ := rdB_ok zs lo hi r h0
      have h1' : s.err = 0 := h.err.trans h1
      have hp := h.pos h1
      have h3' : ¬ (zs.getD s.pos 0 < lo ∨ hi < zs.getD s.pos 0 ∨ zs.getD s.pos 0 ∈ ([] : List Int)) := by rw [hp]; exact fun h => h.elim (fun a => by omega) (fun b => b.elim (fun a => by omega) (fun c => by simp at c))
      by_cases hm : zs.getD r.pos 0 ∈ es
      · rw [if_pos ⟨h0, by rw [h3]; exact hm⟩, pgB_bad h1' (by omega) (by rw [hp]; exact .inr (.inr hm))]
        refine ⟨⟨rfl, fun h => by simp at h, fun _ => ?_, rdB_le zs lo hi r h.le⟩, fun h => by simp at h⟩
        show (s.pos : Int) = ((rdB zs lo hi r).2.pos : Int) - 1
        omega
      · rw [if_neg (fun hh => hm (by rw [← h3]; exact hh.2))]
        have hg : pgB zs lo hi es s = pgB zs lo hi [] s := by
          rw [pgB_good h1' (by omega) h3', pgB_good h1' (by omega) (by rw [hp]; exact fun h => h.elim (fun a => by omega) (fun b => b.elim (fun a => by omega) (fun c => hm c)))]
        rw [hg]
        exact hs
    · rw [if_neg (fun hh => h0 hh.1)]
      refine ⟨?_, fun hh => absurd hh h0⟩
      by_cases h1 : r.err = 0
      · have h1' : s.err = 0 := h.err.trans h1
        have hp := h.pos h1
        have hg : (pgB zs lo hi es s).2 = (pgB zs lo hi [] s).2 := by
          by_cases h2 : zs.length ≤ r.pos
          · rw [pgB_short h1' (by omega), pgB_short h1' (by omega)]
          · by_cases h3 : zs.getD r.pos 0 < lo ∨ hi < zs.getD r.pos 0
            · rw [pgB_bad h1' (by omega) (by rw [hp]; exact h3.elim .inl (fun h => .inr (.inl h))), pgB_bad h1' (by omega) (by rw [hp]; exact h3.elim .inl (fun h => .inr (.inl h)))]
            · rw [rdB_good h1 h2 h3] at h0
              exact absurd h1 h0
        rw [hg]
        exact hs.1
      · have h1' : s.err ≠ 0 := by rw [h.err]; exact h1
        have hs1 := hs.1
        rw [hb.stuck s h1'] at hs1
        rw [pgB_err h1']
        exact hs1
  · have hs := hb.still r h
    simp only [hF]
    rw [if_neg (fun hh => h (hs.err ▸ hh.1))]
    exact hs
  · rw [pgB_err h]

theorem Good.bind {α β γ : Type} {zs : List Int} {f : Rd → α × Rd} {g : Rs → α × Rs} {f2 : α → Rd → β × Rd} {g2 : α → Rs → β × Rs} (h : α → β → γ) (k1 : Good zs f g) (k2 : ∀ a, Good zs (f2 a) (g2 a)) :
    Good zs (fun r => (h (f r).1 (f2 (f r).1 (f r).2).1, (f2 (f r).1 (f r).2).2)) (fun s => (h (g s).1 (g2 (g s).1 (g s).2).1, (g2 (g s).1 (g s).2).2)) := by
  refine ⟨fun r s hs => ?_, fun r hr => ?_, fun s hs => ?_⟩
  · obtain ⟨h1, h2⟩ := k1.step r s hs
    by_cases he : (f r).2.err = 0
    · have ha := h2 he
      simp only [ha]
      obtain ⟨h3, h4⟩ := (k2 (f r).1).step _ _ h1
      exact ⟨h3, fun e => by rw [h4 e]⟩
    · have he' : (g s).2.err ≠ 0 := by rw [h1.err]; exact he
      have hs1 := (k2 (f r).1).still _ he
      refine ⟨?_, fun e => absurd (hs1.err.symm.trans e) he⟩
      simp only [(k2 (g s).1).stuck _ he']
      exact h1.same hs1
  · have h1 := k1.still r hr
    exact h1.trans ((k2 _).still _ (by rw [h1.err]; exact hr))
  · simp only [k1.stuck s hs, (k2 _).stuck s hs]

theorem good_to {α : Type} {zs : List Int} {f : Rd → α × Rd} {g : Rs → α × Rs} (k1 : Good zs f g) (k : Nat) : Good zs (rdTo f k) (pgTo g k) := by
  have hst : ∀ k s, s.err ≠ 0 → (pgTo g k s).2 = s := by
    intro k s hs
    induction k with
    | zero => rfl
    | succ k ih => show (g (pgTo g k s).2).2 = s; rw [ih]; exact k1.stuck s hs
  refine ⟨fun r s h => ?_, fun r h => ?_, hst k⟩
  · induction k with
    | zero => exact ⟨h, fun _ => rfl⟩
    | succ k ih =>
      by_cases he : (rdTo f k r).2.err = 0
      · rw [rdTo_go f k r he]
        obtain ⟨h1, h2⟩ := k1.step _ _ ih.1
        exact ⟨h1, fun e => by show (pgTo g k s).1 ++ [_] = _; rw [ih.2 he, h2 e]⟩
      · rw [rdTo_stop f k r he (k + 1) (by omega)]
        refine ⟨?_, fun e => absurd e he⟩
        show Sim zs _ (g (pgTo g k s).2).2
        rw [k1.stuck _ (by rw [ih.1.err]; exact he)]
        exact ih.1
  · have := rdTo_stop f 0 r h k (by omega)
    rw [this]
    exact Same.refl r

theorem good_ins (zs : List Int) (n : Int) : Good zs (rdIns zs n) (pgIns zs n) := Good.bind (fun a b => (a, b)) (good_B zs 0 13) (fun a => good_B zs 0 (if a = 4 then n - 1 else 255))
theorem good_proc (zs : List Int) : Good zs (rdProc zs) (pgProc zs) := Good.bind (fun p c => Pr.mk p c) (good_B zs 0 9) (fun _ => Good.bind (fun _ c => c) (good_B zs 1 20) (fun m => good_to (good_ins zs m) m.toNat))
theorem good_act (zs : List Int) (c : Nat) : Good zs (rdAct zs c) (pgAct zs c) := by
  by_cases h : c = 5
  · subst h
    refine good_not zs 1 7 [2, 3] (fun v r => rdNot v 3 (rdNot v 2 r)) ?_
    intro v r
    have hit : ∀ v bad (r : Rd), r.err = 0 → v = bad → rdNot v bad r = { r with err := 3, pl := (r.pos : Int) - 1 } := fun v bad r h1 h2 => by unfold rdNot; rw [if_pos ⟨h1, h2⟩]
    have miss : ∀ v bad (r : Rd), ¬ (r.err = 0 ∧ v = bad) → rdNot v bad r = r := fun v bad r h => by unfold rdNot; rw [if_neg h]
    show rdNot v 3 (rdNot v 2 r) = _
    by_cases h1 : r.err = 0
    · by_cases h2 : v = 2
      · rw [hit v 2 r h1 h2, miss _ _ _ (fun hh => by simp at hh), if_pos ⟨h1, by simp [h2]⟩]
      · rw [miss v 2 r (fun hh => h2 hh.2)]
        by_cases h3 : v = 3
        · rw [hit v 3 r h1 h3, if_pos ⟨h1, by simp [h3]⟩]
        · rw [miss v 3 r (fun hh => h3 hh.2), if_neg (fun hh => by simpa [h2, h3] using hh.2)]
    · rw [miss v 2 r (fun hh => h1 hh.1), miss v 3 r (fun hh => h1 hh.1), if_neg (fun hh => h1 hh.1)]
  · have h1 : rdAct zs c = rdB zs 1 7 := by funext r; unfold rdAct; rw [if_neg h]
    have h2 : pgAct zs c = pgB zs 1 7 [] := by funext s; unfold pgAct; rw [if_neg h]
    rw [h1, h2]
    exact good_B zs 1 7
theorem good_acts (zs : List Int) (k : Nat) : Good zs (rdActs zs k) (pgActs zs k) := by
  induction k with
  | zero => exact ⟨fun r s h => ⟨h, fun _ => rfl⟩, fun r _ => Same.refl r, fun _ _ => rfl⟩
  | succ k ih => exact Good.bind (fun l a => l ++ [a]) ih (fun _ => good_act zs k)
theorem good_part (zs : List Int) : Good zs (rdPart zs) (pgPart zs) :=
  Good.bind (fun (a : Int) (x : Int × Int × List Int × List Pr) => Pt.mk (a == 1) x.1 x.2.1 x.2.2.1 x.2.2.2) (good_B zs 0 1) (fun _ => Good.bind (fun b x => (b, x)) (good_B zs 1 16) (fun _ => Good.bind (fun c x => (c, x)) (good_B zs 0 9) (fun _ => Good.bind (fun d q => (d, q)) (good_acts zs 6) (fun _ => Good.bind (fun _ q => q) (good_B zs 1 2) (fun m => good_to (good_proc zs) m.toNat)))))
theorem good_chan (zs : List Int) (n : Int) : Good zs (rdChan zs n) (pgChan zs n) :=
  Good.bind (fun (a : Int) (x : Int × Int) => Ch.mk a x.1 x.2) (good_B zs 0 (n - 1)) (fun a => Good.bind (fun b c => (b, c)) (good_not zs 0 (n - 1) [a] (fun v r => rdNot v a r) (by intro v r; simp [rdNot])) (fun _ => good_B zs 1 4))
def rdW3 (zs : List Int) (n frame fin : Int) (r : Rd) : (Int × Int × Int) × Rd :=
  (((rdB zs 0 (n - 1) r).1, (rdB zs fin (frame - 1) (rdB zs 0 (n - 1) r).2).1, (rdB zs 1 (frame - (rdB zs fin (frame - 1) (rdB zs 0 (n - 1) r).2).1) (rdB zs fin (frame - 1) (rdB zs 0 (n - 1) r).2).2).1), (rdB zs 1 (frame - (rdB zs fin (frame - 1) (rdB zs 0 (n - 1) r).2).1) (rdB zs fin (frame - 1) (rdB zs 0 (n - 1) r).2).2).2)
def pgW3 (zs : List Int) (n frame fin : Int) (s : Rs) : (Int × Int × Int) × Rs :=
  (((pgB zs 0 (n - 1) [] s).1, (pgB zs fin (frame - 1) [] (pgB zs 0 (n - 1) [] s).2).1, (pgB zs 1 (frame - (pgB zs fin (frame - 1) [] (pgB zs 0 (n - 1) [] s).2).1) [] (pgB zs fin (frame - 1) [] (pgB zs 0 (n - 1) [] s).2).2).1), (pgB zs 1 (frame - (pgB zs fin (frame - 1) [] (pgB zs 0 (n - 1) [] s).2).1) [] (pgB zs fin (frame - 1) [] (pgB zs 0 (n - 1) [] s).2).2).2)
theorem good_w3 (zs : List Int) (n frame fin : Int) : Good zs (rdW3 zs n frame fin) (pgW3 zs n frame fin) :=
  Good.bind (fun a x => (a, x.1, x.2)) (good_B zs 0 (n - 1)) (fun _ => Good.bind (fun b c => (b, c)) (good_B zs fin (frame - 1)) (fun b => good_B zs 1 (frame - b)))
theorem rdWin_eq (zs : List Int) (n frame : Int) (r : Rd) : rdWin zs n frame r = (⟨(rdW3 zs n frame r.fin r).1.1, (rdW3 zs n frame r.fin r).1.2.1, (rdW3 zs n frame r.fin r).1.2.2⟩, { (rdW3 zs n frame r.fin r).2 with fin := (rdW3 zs n frame r.fin r).1.2.1 + (rdW3 zs n frame r.fin r).1.2.2 }) := rfl
theorem pgWin_eq (zs : List Int) (n frame : Int) (s : Rs) (fin : Int) : pgWin zs n frame (s, fin) = (⟨(pgW3 zs n frame fin s).1.1, (pgW3 zs n frame fin s).1.2.1, (pgW3 zs n frame fin s).1.2.2⟩, ((pgW3 zs n frame fin s).2, (pgW3 zs n frame fin s).1.2.1 + (pgW3 zs n frame fin s).1.2.2)) := rfl
def rdWs (zs : List Int) (n frame : Int) (k : Nat) (r : Rd) : List Wn × Rd := rdTo (rdWin zs n frame) k { r with fin := 0 }
def pgWs (zs : List Int) (n frame : Int) (k : Nat) (s : Rs) : List Wn × Rs := ((pgTo (pgWin zs n frame) k (s, 0)).1, (pgTo (pgWin zs n frame) k (s, 0)).2.1)
theorem good_ws (zs : List Int) (n frame : Int) (k : Nat) : Good zs (rdWs zs n frame k) (pgWs zs n frame k) := by
  have hone : ∀ p : Rs × Int, p.1.err ≠ 0 → (pgWin zs n frame p).2.1 = p.1 := fun p hp => by
    obtain ⟨s, fin⟩ := p
    rw [pgWin_eq]
    exact (good_w3 zs n frame fin).stuck s hp
  refine ⟨fun r s h => ?_, fun r h => ?_, fun s h => ?_⟩
  · have h0 : Sim zs { r with fin := 0 } s := ⟨h.err, h.pos, h.pl, h.le⟩
    have key : Sim zs (rdTo (rdWin zs n frame) k { r with fin := 0 }).2 (pgTo (pgWin zs n frame) k (s, 0)).2.1 ∧ ((rdTo (rdWin zs n frame) k { r with fin := 0 }).2.err = 0 → (pgTo (pgWin zs n frame) k (s, 0)).1 = (rdTo (rdWin zs n frame) k { r with fin := 0 }).1 ∧ (pgTo (pgWin zs n frame) k (s, 0)).2.2 = (rdTo (rdWin zs n frame) k { r with fin := 0 }).2.fin) := by
      induction k with
      | zero => exact ⟨h0, fun _ => ⟨rfl, rfl⟩⟩
      | succ k ih =>
        by_cases he : (rdTo (rdWin zs n frame) k { r with fin := 0 }).2.err = 0
        · rw [rdTo_go _ k _ he]
          obtain ⟨i1, i2⟩ := ih
          obtain ⟨i3, i4⟩ := i2 he
          generalize rdTo (rdWin zs n frame) k { r with fin := 0 } = R at *
          have hstep : pgTo (pgWin zs n frame) (k + 1) (s, 0) = ((pgTo (pgWin zs n frame) k (s, 0)).1 ++ [(pgWin zs n frame (pgTo (pgWin zs n frame) k (s, 0)).2).1], (pgWin zs n frame (pgTo (pgWin zs n frame) k (s, 0)).2).2) := rfl
          rw [hstep]
          generalize pgTo (pgWin zs n frame) k (s, 0) = P at *
          obtain ⟨l, s', fin⟩ := P
          simp only at i1 i3 i4
          subst i4
          rw [rdWin_eq, pgWin_eq]
          obtain ⟨j1, j2⟩ := (good_w3 zs n frame R.2.fin).step _ _ i1
          refine ⟨⟨j1.err, j1.pos, j1.pl, j1.le⟩, fun e => ?_⟩
          have := j2 e
          rw [i3, this]
          exact ⟨rfl, rfl⟩
        · rw [rdTo_stop _ k _ he (k + 1) (by omega)]
          refine ⟨?_, fun e => absurd e he⟩
          show Sim zs _ (pgWin zs n frame (pgTo (pgWin zs n frame) k (s, 0)).2).2.1
          rw [hone _ (by rw [ih.1.err]; exact he)]
          exact ih.1
    exact ⟨key.1, fun e => (key.2 e).1⟩
  · have := rdTo_stop (rdWin zs n frame) 0 { r with fin := 0 } h k (by omega)
    unfold rdWs
    rw [this]
    exact ⟨rfl, rfl, rfl⟩
  · show (pgTo (pgWin zs n frame) k (s, 0)).2.1 = s
    induction k with
    | zero => rfl
    | succ k ih =>
      show (pgWin zs n frame (pgTo (pgWin zs n frame) k (s, 0)).2).2.1 = s
      rw [hone _ (by rw [ih]; exact h), ih]
theorem good_wins (zs : List Int) (n frame : Int) : Good zs (fun r => rdWs zs n frame (rdB zs 1 8 r).1.toNat (rdB zs 1 8 r).2) (pgWins zs n frame) := Good.bind (fun _ q => q) (good_B zs 1 8) (fun m => good_ws zs n frame m.toNat)
def rdAll (zs : List Int) (r0 : Rd) : Cf × Rd :=
  let r1 := (rdB zs 72 72 r0).2
  let n := rdB zs 1 4 r1
  let f := rdB zs 1 64 n.2
  let wt := rdB zs 0 200 f.2
  let ps := rdTo (rdPart zs) n.1.toNat wt.2
  let ws := rdWs zs n.1 f.1 (rdB zs 1 8 ps.2).1.toNat (rdB zs 1 8 ps.2).2
  let k := rdB zs 0 4 ws.2
  let cs := rdTo (rdChan zs n.1) k.1.toNat k.2
  (⟨f.1, wt.1, ps.1, ws.1, cs.1⟩, cs.2)
theorem rdAll_eq (zs : List Int) : rdAll zs ⟨0, 0, 0, 0⟩ = rdConf zs := rfl
theorem good_conf (zs : List Int) : Good zs (rdAll zs) (pgConf zs) :=
  Good.bind (fun _ x => x) (good_B zs 72 72) (fun _ => Good.bind (fun _ x => x) (good_B zs 1 4) (fun n => Good.bind (fun (f : Int) (x : Int × List Pt × List Wn × List Ch) => Cf.mk f x.1 x.2.1 x.2.2.1 x.2.2.2) (good_B zs 1 64) (fun f => Good.bind (fun wt x => (wt, x)) (good_B zs 0 200) (fun _ => Good.bind (fun ps x => (ps, x)) (good_to (good_part zs) n.toNat) (fun _ => Good.bind (fun ws x => (ws, x)) (good_wins zs n f) (fun _ => Good.bind (fun _ x => x) (good_B zs 0 4) (fun k => good_to (good_chan zs n) k.toNat)))))))

theorem parse_same (zs : List Int) : pgParse zs = parseOf zs := by
  have h0 : Sim zs ⟨0, 0, 0, 0⟩ ⟨0, 0⟩ := ⟨rfl, fun _ => rfl, fun h => absurd rfl h, Nat.zero_le _⟩
  have hg := (good_conf zs).step _ _ h0
  rw [rdAll_eq] at hg
  obtain ⟨h1, h2⟩ := hg
  unfold pgParse parseOf pgLast
  generalize rdConf zs = C at *
  generalize pgConf zs ⟨0, 0⟩ = D at *
  by_cases he : C.2.err = 0
  · have he' : D.2.err = 0 := h1.err.trans he
    have hp := h1.pos he
    have hv := h2 he
    have hc : pgCheck zs D.2 = if zs.length < C.2.pos + 4 then ⟨zs.length, 2⟩ else if numFrom 0 ((zs.drop C.2.pos).take 4) ≠ crcOf (zs.take C.2.pos) then ⟨C.2.pos, 5⟩ else ⟨C.2.pos + 4, 0⟩ := by
      unfold pgCheck
      rw [if_neg (show ¬ D.2.err ≠ 0 by simpa using he'), hp, he']
    simp only
    rw [if_neg (show ¬ C.2.err ≠ 0 by simpa using he)]
    by_cases h3 : zs.length < C.2.pos + 4
    · rw [if_pos h3] at hc
      rw [hc, if_pos h3]
      simp [pgEnd]
    · rw [if_neg h3] at hc
      rw [if_neg h3]
      by_cases h4 : numFrom 0 ((zs.drop C.2.pos).take 4) ≠ crcOf (zs.take C.2.pos)
      · rw [if_pos h4] at hc
        rw [hc, if_pos h4]
        simp [pgEnd]
      · rw [if_neg h4] at hc
        rw [hc, if_neg h4]
        by_cases h5 : C.2.pos + 4 < zs.length
        · simp [pgEnd, h5]
        · simp [pgEnd, h5, hv]
  · have he' : D.2.err ≠ 0 := by rw [h1.err]; exact he
    have hp := h1.pl he
    have hc : pgCheck zs D.2 = D.2 := by unfold pgCheck; rw [if_pos he']
    have hd : pgEnd zs D.2 = D.2 := by unfold pgEnd; rw [if_neg (fun hh => he' hh.1)]
    rw [hc, hd, if_pos he']
    simp only
    rw [if_pos he, hp, h1.err]
end Go.Proofs.Ytnjlbgolnbdkaaa
