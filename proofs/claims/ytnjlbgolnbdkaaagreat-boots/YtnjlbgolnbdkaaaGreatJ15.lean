/- Texts of the proof of Boots, one behind the other. -/
import Derived.Test.YtnjlbgolnbdkaaaGreatJ14
import Derived.DeepKeys
import Derived.Test.YtnjlbgolnbdkaaaGreatJ09
/- The program's Parse answers what the document's answers: plain mathematics. -/
namespace Go.Proofs.YtnjlbgolnbdkaaaGreat
open Go.RowKit

structure Sim (zs : List Int) (r : Rd) (s : Rs) : Prop where
  err : s.err = r.err
  pos : r.err = 0 → s.pos = r.pos
  pl : r.err ≠ 0 → (s.pos : Int) = r.pl
  le : r.pos ≤ zs.length
structure Same (r r' : Rd) : Prop where
  err : r'.err = r.err
  pos : r'.pos = r.pos
  pl : r'.pl = r.pl
theorem Sim.same {zs : List Int} {r r' : Rd} {s : Rs} (h : Sim zs r s) (k : Same r r') : Sim zs r' s := ⟨by rw [k.err]; exact h.err, by rw [k.err, k.pos]; exact h.pos, by rw [k.err, k.pl]; exact h.pl, by rw [k.pos]; exact h.le⟩
structure Good {α : Type} (zs : List Int) (f : Rd → α × Rd) (g : Rs → α × Rs) : Prop where
  step : ∀ r s, Sim zs r s → Sim zs (f r).2 (g s).2 ∧ ((f r).2.err = 0 → (g s).1 = (f r).1)
  still : ∀ r, r.err ≠ 0 → Same r (f r).2
  stuck : ∀ s, s.err ≠ 0 → (g s).2 = s
theorem Same.refl (r : Rd) : Same r r := ⟨rfl, rfl, rfl⟩
theorem Same.trans {a b c : Rd} (h : Same a b) (k : Same b c) : Same a c := ⟨k.err.trans h.err, k.pos.trans h.pos, k.pl.trans h.pl⟩

section
variable {zs : List Int} {lo hi : Int} {es : List Int} {r : Rd} {s : Rs}
theorem rdB_err (h : r.err ≠ 0) : rdB zs lo hi r = (lo, r) := by unfold rdB; rw [if_pos h]
theorem rdB_short (h : r.err = 0) (h2 : zs.length ≤ r.pos) : rdB zs lo hi r = (lo, { r with err := 2, pl := zs.length }) := by unfold rdB; rw [if_neg (by simpa using h), if_pos h2]
theorem rdB_bad (h : r.err = 0) (h2 : ¬ zs.length ≤ r.pos) (h3 : zs.getD r.pos 0 < lo ∨ hi < zs.getD r.pos 0) : rdB zs lo hi r = (lo, { r with err := 3, pl := r.pos }) := by unfold rdB; rw [if_neg (by simpa using h), if_neg h2, if_pos h3]
theorem rdB_good (h : r.err = 0) (h2 : ¬ zs.length ≤ r.pos) (h3 : ¬ (zs.getD r.pos 0 < lo ∨ hi < zs.getD r.pos 0)) : rdB zs lo hi r = (zs.getD r.pos 0, { r with pos := r.pos + 1 }) := by unfold rdB; rw [if_neg (by simpa using h), if_neg h2, if_neg h3]
theorem pgB_err (h : s.err ≠ 0) : pgB zs lo hi es s = (0, s) := by unfold pgB; rw [if_pos h]
theorem pgB_short (h : s.err = 0) (h2 : zs.length ≤ s.pos) : pgB zs lo hi es s = (0, { s with err := 2 }) := by unfold pgB; rw [if_neg (by simpa using h), if_pos h2]
theorem pgB_bad (h : s.err = 0) (h2 : ¬ zs.length ≤ s.pos) (h3 : zs.getD s.pos 0 < lo ∨ hi < zs.getD s.pos 0 ∨ zs.getD s.pos 0 ∈ es) : pgB zs lo hi es s = (0, { s with err := 3 }) := by unfold pgB; rw [if_neg (by simpa using h), if_neg h2, if_pos h3]
theorem pgB_good (h : s.err = 0) (h2 : ¬ zs.length ≤ s.pos) (h3 : ¬ (zs.getD s.pos 0 < lo ∨ hi < zs.getD s.pos 0 ∨ zs.getD s.pos 0 ∈ es)) : pgB zs lo hi es s = (zs.getD s.pos 0, { s with pos := s.pos + 1 }) := by unfold pgB; rw [if_neg (by simpa using h), if_neg h2, if_neg h3]
end
theorem good_B (zs : List Int) (lo hi : Int) : Good zs (rdB zs lo hi) (pgB zs lo hi []) := by
  refine ⟨fun r s h => ?_, fun r h => by rw [rdB_err h]; exact Same.refl r, fun s h => by rw [pgB_err h]⟩
  by_cases h1 : r.err = 0
  · have h1' : s.err = 0 := h.err.trans h1
    have hp := h.pos h1
    by_cases h2 : zs.length ≤ r.pos
    · rw [rdB_short h1 h2, pgB_short h1' (by omega)]
      refine ⟨⟨rfl, fun h => by simp at h, fun _ => ?_, h.le⟩, fun h => by simp at h⟩
      have := h.le
      show (s.pos : Int) = (zs.length : Int)
      omega
    · by_cases h3 : zs.getD r.pos 0 < lo ∨ hi < zs.getD r.pos 0
      · rw [rdB_bad h1 h2 h3, pgB_bad h1' (by omega) (by rw [hp]; exact h3.elim .inl (fun h => .inr (.inl h)))]
        refine ⟨⟨rfl, fun h => by simp at h, fun _ => ?_, h.le⟩, fun h => by simp at h⟩
        show (s.pos : Int) = (r.pos : Int)
        rw [hp]
      · rw [rdB_good h1 h2 h3, pgB_good h1' (by omega) (by rw [hp]; exact fun h => h.elim (fun a => h3 (.inl a)) (fun b => b.elim (fun a => h3 (.inr a)) (fun c => by simp at c)))]
        refine ⟨⟨h.err, fun _ => ?_, fun hh => absurd h1 hh, by simp only; omega⟩, fun _ => ?_⟩
        · show s.pos + 1 = r.pos + 1
          rw [hp]
        · show zs.getD s.pos 0 = zs.getD r.pos 0
          rw [hp]
  · have h1' : s.err ≠ 0 := by rw [h.err]; exact h1
    rw [rdB_err h1, pgB_err h1']
    exact ⟨h, fun h => absurd h h1⟩

/- a value that must be none of some -/
theorem good_not (zs : List Int) (lo hi : Int) (es : List Int) (F : Int → Rd → Rd) (hF : ∀ v r, F v r = if r.err = 0 ∧ v ∈ es then { r with err := 3, pl := (r.pos : Int) - 1 } else r) : Good zs (fun r => ((rdB zs lo hi r).1, F (rdB zs lo hi r).1 (rdB zs lo hi r).2)) (pgB zs lo hi es) := by
  have hb := good_B zs lo hi
  refine ⟨fun r s h => ?_, fun r h => ?_, fun s h => ?_⟩
  · have hs := hb.step r s h
    simp only [hF]
    by_cases h0 : (rdB zs lo hi r).2.err = 0
    · obtain ⟨h1, h2, h3, h4, h5, h6⟩ := rdB_ok zs lo hi r h0
      have h1' : s.err = 0 := h.err.trans h1
      have hp := h.pos h1
      have h3' : ¬ (zs.getD s.pos 0 < lo ∨ hi < zs.getD s.pos 0 ∨ zs.getD s.pos 0 ∈ ([] : List Int)) := by rw [hp]; exact fun h => h.elim (fun a => by omega) (fun b => b.elim (fun a => by omega) (fun c => by simp at c))
      by_cases hm : zs.getD r.pos 0 ∈ es
      · rw [if_pos ⟨h0, by rw [h3]; exact hm⟩, pgB_bad h1' (by omega) (by rw [hp]; exact .inr (.inr hm))]
        refine ⟨⟨rfl, fun h => by simp at h, fun _ => ?_, rdB_le zs lo hi r h.le⟩, fun h => by simp at h⟩
        show (s.pos : Int) = ((rdB zs lo hi r).2.pos : Int) - 1
        omega
      · rw [if_neg (fun hh => hm (by rw [← h3]; exact hh.2))]
        have hg : pgB zs lo hi es s = pgB zs lo hi [] s := by
          rw [pgB_good h1' (by omega) h3', pgB_good h1' (by omega) (by rw [hp]; exact fun h => h.elim (fun a => by omega) (fun b => b.elim (fun a => by omega) (fun c => hm c)))]
        rw [hg]
        exact hs
    · rw [if_neg (fun hh => h0 hh.1)]
      refine ⟨?_, fun hh => absurd hh h0⟩
      by_cases h1 : r.err = 0
      · have h1' : s.err = 0 := h.err.trans h1
        have hp := h.pos h1
        have hg : (pgB zs lo hi es s).2 = (pgB zs lo hi [] s).2 := by
          by_cases h2 : zs.length ≤ r.pos
          · rw [pgB_short h1' (by omega), pgB_short h1' (by omega)]
          · by_cases h3 : zs.getD r.pos 0 < lo ∨ hi < zs.getD r.pos 0
            · rw [pgB_bad h1' (by omega) (by rw [hp]; exact h3.elim .inl (fun h => .inr (.inl h))), pgB_bad h1' (by omega) (by rw [hp]; exact h3.elim .inl (fun h => .inr (.inl h)))]
            · rw [rdB_good h1 h2 h3] at h0
              exact absurd h1 h0
        rw [hg]
        exact hs.1
      · have h1' : s.err ≠ 0 := by rw [h.err]; exact h1
        have hs1 := hs.1
        rw [hb.stuck s h1'] at hs1
        rw [pgB_err h1']
        exact hs1
  · have hs := hb.still r h
    simp only [hF]
    rw [if_neg (fun hh => h (hs.err ▸ hh.1))]
    exact hs
  · rw [pgB_err h]

theorem Good.bind {α β γ : Type} {zs : List Int} {f : Rd → α × Rd} {g : Rs → α × Rs} {f2 : α → Rd → β × Rd} {g2 : α → Rs → β × Rs} (h : α → β → γ) (k1 : Good zs f g) (k2 : ∀ a, Good zs (f2 a) (g2 a)) :
    Good zs (fun r => (h (f r).1 (f2 (f r).1 (f r).2).1, (f2 (f r).1 (f r).2).2)) (fun s => (h (g s).1 (g2 (g s).1 (g s).2).1, (g2 (g s).1 (g s).2).2)) := by
  refine ⟨fun r s hs => ?_, fun r hr => ?_, fun s hs => ?_⟩
  · obtain ⟨h1, h2⟩ := k1.step r s hs
    by_cases he : (f r).2.err = 0
    · have ha := h2 he
      simp only [ha]
      obtain ⟨h3, h4⟩ := (k2 (f r).1).step _ _ h1
      exact ⟨h3, fun e => by rw [h4 e]⟩
    · have he' : (g s).2.err ≠ 0 := by rw [h1.err]; exact he
      have hs1 := (k2 (f r).1).still _ he
      refine ⟨?_, fun e => absurd (hs1.err.symm.trans e) he⟩
      simp only [(k2 (g s).1).stuck _ he']
      exact h1.same hs1
  · have h1 := k1.still r hr
    exact h1.trans ((k2 _).still _ (by rw [h1.err]; exact hr))
  · simp only [k1.stuck s hs, (k2 _).stuck s hs]

theorem good_to {α : Type} {zs : List Int} {f : Rd → α × Rd} {g : Rs → α × Rs} (k1 : Good zs f g) (k : Nat) : Good zs (rdTo f k) (pgTo g k) := by
  have hst : ∀ k s, s.err ≠ 0 → (pgTo g k s).2 = s := by
    intro k s hs
    induction k with
    | zero => rfl
    | succ k ih => show (g (pgTo g k s).2).2 = s; rw [ih]; exact k1.stuck s hs
  refine ⟨fun r s h => ?_, fun r h => ?_, hst k⟩
  · induction k with
    | zero => exact ⟨h, fun _ => rfl⟩
    | succ k ih =>
      by_cases he : (rdTo f k r).2.err = 0
      · rw [rdTo_go f k r he]
        obtain ⟨h1, h2⟩ := k1.step _ _ ih.1
        exact ⟨h1, fun e => by show (pgTo g k s).1 ++ [_] = _; rw [ih.2 he, h2 e]⟩
      · rw [rdTo_stop f k r he (k + 1) (by omega)]
        refine ⟨?_, fun e => absurd e he⟩
        show Sim zs _ (g (pgTo g k s).2).2
        rw [k1.stuck _ (by rw [ih.1.err]; exact he)]
        exact ih.1
  · have := rdTo_stop f 0 r h k (by omega)
    rw [this]
    exact Same.refl r

theorem good_ins (zs : List Int) (n : Int) : Good zs (rdIns zs n) (pgIns zs n) := Good.bind (fun a b => (a, b)) (good_B zs 0 13) (fun a => good_B zs 0 (if a = 4 then n - 1 else 255))
theorem good_proc (zs : List Int) : Good zs (rdProc zs) (pgProc zs) := Good.bind (fun p c => Pr.mk p c) (good_B zs 0 9) (fun _ => Good.bind (fun _ c => c) (good_B zs 1 20) (fun m => good_to (good_ins zs m) m.toNat))
theorem good_act (zs : List Int) (c : Nat) : Good zs (rdAct zs c) (pgAct zs c) := by
  by_cases h : c = 5
  · subst h
    refine good_not zs 1 7 [2, 3] (fun v r => rdNot v 3 (rdNot v 2 r)) ?_
    intro v r
    have hit : ∀ v bad (r : Rd), r.err = 0 → v = bad → rdNot v bad r = { r with err := 3, pl := (r.pos : Int) - 1 } := fun v bad r h1 h2 => by unfold rdNot; rw [if_pos ⟨h1, h2⟩]
    have miss : ∀ v bad (r : Rd), ¬ (r.err = 0 ∧ v = bad) → rdNot v bad r = r := fun v bad r h => by unfold rdNot; rw [if_neg h]
    show rdNot v 3 (rdNot v 2 r) = _
    by_cases h1 : r.err = 0
    · by_cases h2 : v = 2
      · rw [hit v 2 r h1 h2, miss _ _ _ (fun hh => by simp at hh), if_pos ⟨h1, by simp [h2]⟩]
      · rw [miss v 2 r (fun hh => h2 hh.2)]
        by_cases h3 : v = 3
        · rw [hit v 3 r h1 h3, if_pos ⟨h1, by simp [h3]⟩]
        · rw [miss v 3 r (fun hh => h3 hh.2), if_neg (fun hh => by simpa [h2, h3] using hh.2)]
    · rw [miss v 2 r (fun hh => h1 hh.1), miss v 3 r (fun hh => h1 hh.1), if_neg (fun hh => h1 hh.1)]
  · have h1 : rdAct zs c = rdB zs 1 7 := by funext r; unfold rdAct; rw [if_neg h]
    have h2 : pgAct zs c = pgB zs 1 7 [] := by funext s; unfold pgAct; rw [if_neg h]
    rw [h1, h2]
    exact good_B zs 1 7
theorem good_acts (zs : List Int) (k : Nat) : Good zs (rdActs zs k) (pgActs zs k) := by
  induction k with
  | zero => exact ⟨fun r s h => ⟨h, fun _ => rfl⟩, fun r _ => Same.refl r, fun _ _ => rfl⟩
  | succ k ih => exact Good.bind (fun l a => l ++ [a]) ih (fun _ => good_act zs k)
theorem good_part (zs : List Int) : Good zs (rdPart zs) (pgPart zs) :=
  Good.bind (fun (a : Int) (x : Int × Int × List Int × List Pr) => Pt.mk (a == 1) x.1 x.2.1 x.2.2.1 x.2.2.2) (good_B zs 0 1) (fun _ => Good.bind (fun b x => (b, x)) (good_B zs 1 16) (fun _ => Good.bind (fun c x => (c, x)) (good_B zs 0 9) (fun _ => Good.bind (fun d q => (d, q)) (good_acts zs 6) (fun _ => Good.bind (fun _ q => q) (good_B zs 1 2) (fun m => good_to (good_proc zs) m.toNat)))))
theorem good_chan (zs : List Int) (n : Int) : Good zs (rdChan zs n) (pgChan zs n) :=
  Good.bind (fun (a : Int) (x : Int × Int) => Ch.mk a x.1 x.2) (good_B zs 0 (n - 1)) (fun a => Good.bind (fun b c => (b, c)) (good_not zs 0 (n - 1) [a] (fun v r => rdNot v a r) (by intro v r; simp [rdNot])) (fun _ => good_B zs 1 4))
def rdW3 (zs : List Int) (n frame fin : Int) (r : Rd) : (Int × Int × Int) × Rd :=
  (((rdB zs 0 (n - 1) r).1, (rdB zs fin (frame - 1) (rdB zs 0 (n - 1) r).2).1, (rdB zs 1 (frame - (rdB zs fin (frame - 1) (rdB zs 0 (n - 1) r).2).1) (rdB zs fin (frame - 1) (rdB zs 0 (n - 1) r).2).2).1), (rdB zs 1 (frame - (rdB zs fin (frame - 1) (rdB zs 0 (n - 1) r).2).1) (rdB zs fin (frame - 1) (rdB zs 0 (n - 1) r).2).2).2)
def pgW3 (zs : List Int) (n frame fin : Int) (s : Rs) : (Int × Int × Int) × Rs :=
  (((pgB zs 0 (n - 1) [] s).1, (pgB zs fin (frame - 1) [] (pgB zs 0 (n - 1) [] s).2).1, (pgB zs 1 (frame - (pgB zs fin (frame - 1) [] (pgB zs 0 (n - 1) [] s).2).1) [] (pgB zs fin (frame - 1) [] (pgB zs 0 (n - 1) [] s).2).2).1), (pgB zs 1 (frame - (pgB zs fin (frame - 1) [] (pgB zs 0 (n - 1) [] s).2).1) [] (pgB zs fin (frame - 1) [] (pgB zs 0 (n - 1) [] s).2).2).2)
theorem good_w3 (zs : List Int) (n frame fin : Int) : Good zs (rdW3 zs n frame fin) (pgW3 zs n frame fin) :=
  Good.bind (fun a x => (a, x.1, x.2)) (good_B zs 0 (n - 1)) (fun _ => Good.bind (fun b c => (b, c)) (good_B zs fin (frame - 1)) (fun b => good_B zs 1 (frame - b)))
theorem rdWin_eq (zs : List Int) (n frame : Int) (r : Rd) : rdWin zs n frame r = (⟨(rdW3 zs n frame r.fin r).1.1, (rdW3 zs n frame r.fin r).1.2.1, (rdW3 zs n frame r.fin r).1.2.2⟩, { (rdW3 zs n frame r.fin r).2 with fin := (rdW3 zs n frame r.fin r).1.2.1 + (rdW3 zs n frame r.fin r).1.2.2 }) := rfl
theorem pgWin_eq (zs : List Int) (n frame : Int) (s : Rs) (fin : Int) : pgWin zs n frame (s, fin) = (⟨(pgW3 zs n frame fin s).1.1, (pgW3 zs n frame fin s).1.2.1, (pgW3 zs n frame fin s).1.2.2⟩, ((pgW3 zs n frame fin s).2, (pgW3 zs n frame fin s).1.2.1 + (pgW3 zs n frame fin s).1.2.2)) := rfl
def rdWs (zs : List Int) (n frame : Int) (k : Nat) (r : Rd) : List Wn × Rd := rdTo (rdWin zs n frame) k { r with fin := 0 }
def pgWs (zs : List Int) (n frame : Int) (k : Nat) (s : Rs) : List Wn × Rs := ((pgTo (pgWin zs n frame) k (s, 0)).1, (pgTo (pgWin zs n frame) k (s, 0)).2.1)
theorem good_ws (zs : List Int) (n frame : Int) (k : Nat) : Good zs (rdWs zs n frame k) (pgWs zs n frame k) := by
  have hone : ∀ p : Rs × Int, p.1.err ≠ 0 → (pgWin zs n frame p).2.1 = p.1 := fun p hp => by
    obtain ⟨s, fin⟩ := p
    rw [pgWin_eq]
    exact (good_w3 zs n frame fin).stuck s hp
  refine ⟨fun r s h => ?_, fun r h => ?_, fun s h => ?_⟩
  · have h0 : Sim zs { r with fin := 0 } s := ⟨h.err, h.pos, h.pl, h.le⟩
    have key : Sim zs (rdTo (rdWin zs n frame) k { r with fin := 0 }).2 (pgTo (pgWin zs n frame) k (s, 0)).2.1 ∧ ((rdTo (rdWin zs n frame) k { r with fin := 0 }).2.err = 0 → (pgTo (pgWin zs n frame) k (s, 0)).1 = (rdTo (rdWin zs n frame) k { r with fin := 0 }).1 ∧ (pgTo (pgWin zs n frame) k (s, 0)).2.2 = (rdTo (rdWin zs n frame) k { r with fin := 0 }).2.fin) := by
      induction k with
      | zero => exact ⟨h0, fun _ => ⟨rfl, rfl⟩⟩
      | succ k ih =>
        by_cases he : (rdTo (rdWin zs n frame) k { r with fin := 0 }).2.err = 0
        · rw [rdTo_go _ k _ he]
          obtain ⟨i1, i2⟩ := ih
          obtain ⟨i3, i4⟩ := i2 he
          generalize rdTo (rdWin zs n frame) k { r with fin := 0 } = R at *
          have hstep : pgTo (pgWin zs n frame) (k + 1) (s, 0) = ((pgTo (pgWin zs n frame) k (s, 0)).1 ++ [(pgWin zs n frame (pgTo (pgWin zs n frame) k (s, 0)).2).1], (pgWin zs n frame (pgTo (pgWin zs n frame) k (s, 0)).2).2) := rfl
          rw [hstep]
          generalize pgTo (pgWin zs n frame) k (s, 0) = P at *
          obtain ⟨l, s', fin⟩ := P
          simp only at i1 i3 i4
          subst i4
          rw [rdWin_eq, pgWin_eq]
          obtain ⟨j1, j2⟩ := (good_w3 zs n frame R.2.fin).step _ _ i1
          refine ⟨⟨j1.err, j1.pos, j1.pl, j1.le⟩, fun e => ?_⟩
          have := j2 e
          rw [i3, this]
          exact ⟨rfl, rfl⟩
        · rw [rdTo_stop _ k _ he (k + 1) (by omega)]
          refine ⟨?_, fun e => absurd e he⟩
          show Sim zs _ (pgWin zs n frame (pgTo (pgWin zs n frame) k (s, 0)).2).2.1
          rw [hone _ (by rw [ih.1.err]; exact he)]
          exact ih.1
    exact ⟨key.1, fun e => (key.2 e).1⟩
  · have := rdTo_stop (rdWin zs n frame) 0 { r with fin := 0 } h k (by omega)
    unfold rdWs
    rw [this]
    exact ⟨rfl, rfl, rfl⟩
  · show (pgTo (pgWin zs n frame) k (s, 0)).2.1 = s
    induction k with
    | zero => rfl
    | succ k ih =>
      show (pgWin zs n frame (pgTo (pgWin zs n frame) k (s, 0)).2).2.1 = s
      rw [hone _ (by rw [ih]; exact h), ih]
theorem good_wins (zs : List Int) (n frame : Int) : Good zs (fun r => rdWs zs n frame (rdB zs 1 8 r).1.toNat (rdB zs 1 8 r).2) (pgWins zs n frame) := Good.bind (fun _ q => q) (good_B zs 1 8) (fun m => good_ws zs n frame m.toNat)
def rdAll (zs : List Int) (r0 : Rd) : Cf × Rd :=
  let r1 := (rdB zs 72 72 r0).2
  let n := rdB zs 1 4 r1
  let f := rdB zs 1 64 n.2
  let wt := rdB zs 0 200 f.2
  let ps := rdTo (rdPart zs) n.1.toNat wt.2
  let ws := rdWs zs n.1 f.1 (rdB zs 1 8 ps.2).1.toNat (rdB zs 1 8 ps.2).2
  let k := rdB zs 0 4 ws.2
  let cs := rdTo (rdChan zs n.1) k.1.toNat k.2
  (⟨f.1, wt.1, ps.1, ws.1, cs.1⟩, cs.2)
theorem rdAll_eq (zs : List Int) : rdAll zs ⟨0, 0, 0, 0⟩ = rdConf zs := rfl
theorem good_conf (zs : List Int) : Good zs (rdAll zs) (pgConf zs) :=
  Good.bind (fun _ x => x) (good_B zs 72 72) (fun _ => Good.bind (fun _ x => x) (good_B zs 1 4) (fun n => Good.bind (fun (f : Int) (x : Int × List Pt × List Wn × List Ch) => Cf.mk f x.1 x.2.1 x.2.2.1 x.2.2.2) (good_B zs 1 64) (fun f => Good.bind (fun wt x => (wt, x)) (good_B zs 0 200) (fun _ => Good.bind (fun ps x => (ps, x)) (good_to (good_part zs) n.toNat) (fun _ => Good.bind (fun ws x => (ws, x)) (good_wins zs n f) (fun _ => Good.bind (fun _ x => x) (good_B zs 0 4) (fun k => good_to (good_chan zs n) k.toNat)))))))

theorem parse_same (zs : List Int) : pgParse zs = parseOf zs := by
  have h0 : Sim zs ⟨0, 0, 0, 0⟩ ⟨0, 0⟩ := ⟨rfl, fun _ => rfl, fun h => absurd rfl h, Nat.zero_le _⟩
  have hg := (good_conf zs).step _ _ h0
  rw [rdAll_eq] at hg
  obtain ⟨h1, h2⟩ := hg
  unfold pgParse parseOf pgLast
  generalize rdConf zs = C at *
  generalize pgConf zs ⟨0, 0⟩ = D at *
  by_cases he : C.2.err = 0
  · have he' : D.2.err = 0 := h1.err.trans he
    have hp := h1.pos he
    have hv := h2 he
    have hc : pgCheck zs D.2 = if zs.length < C.2.pos + 4 then ⟨zs.length, 2⟩ else if numFrom 0 ((zs.drop C.2.pos).take 4) ≠ crcOf (zs.take C.2.pos) then ⟨C.2.pos, 5⟩ else ⟨C.2.pos + 4, 0⟩ := by
      unfold pgCheck
      rw [if_neg (show ¬ D.2.err ≠ 0 by simpa using he'), hp, he']
    simp only
    rw [if_neg (show ¬ C.2.err ≠ 0 by simpa using he)]
    by_cases h3 : zs.length < C.2.pos + 4
    · rw [if_pos h3] at hc
      rw [hc, if_pos h3]
      simp [pgEnd]
    · rw [if_neg h3] at hc
      rw [if_neg h3]
      by_cases h4 : numFrom 0 ((zs.drop C.2.pos).take 4) ≠ crcOf (zs.take C.2.pos)
      · rw [if_pos h4] at hc
        rw [hc, if_pos h4]
        simp [pgEnd]
      · rw [if_neg h4] at hc
        rw [hc, if_neg h4]
        by_cases h5 : C.2.pos + 4 < zs.length
        · simp [pgEnd, h5]
        · simp [pgEnd, h5, hv]
  · have he' : D.2.err ≠ 0 := by rw [h1.err]; exact he
    have hp := h1.pl he
    have hc : pgCheck zs D.2 = D.2 := by unfold pgCheck; rw [if_pos he']
    have hd : pgEnd zs D.2 = D.2 := by unfold pgEnd; rw [if_neg (fun hh => he' hh.1)]
    rw [hc, hd, if_pos he']
    simp only
    rw [if_pos he, hp, h1.err]
end Go.Proofs.YtnjlbgolnbdkaaaGreat
/- The law: two partitions that lie alike are the same. -/
namespace Go.Proofs.YtnjlbgolnbdkaaaGreat
open Go.RowKit

theorem flat_get {α : Type} (F : α → List Value) (sz : Nat) (hF : ∀ a, (F a).length = sz) (l : List α) (i : Nat) (a : α) (hi : l[i]? = some a) (f : Nat) (hf : f < sz) : (l.flatMap F)[i * sz + f]? = (F a)[f]? := by
  induction l generalizing i with
  | nil => simp at hi
  | cons x l ih =>
    rw [List.flatMap_cons]
    cases i with
    | zero =>
      simp at hi
      subst hi
      rw [Nat.zero_mul, Nat.zero_add, List.getElem?_append_left (by rw [hF]; exact hf)]
    | succ i =>
      have hx := hF x
      rw [List.getElem?_append_right (by rw [hx, Nat.add_mul]; omega), hx, show (i + 1) * sz + f - sz = i * sz + f from by rw [Nat.add_mul]; omega]
      exact ih i (by simpa using hi)
theorem own_read {w : World} {base : Nat} {e : TypeId} {sz : Nat} {v : Value} {n : Nat} {α : Type} (F : α → List Value) (hF : ∀ a, (F a).length = sz) (l : List α) (hn : l.length = n) (h : w.ownsRow base e sz v n (l.flatMap F)) : n ≤ 9223372036854775807 ∧ ∃ ad c, v = .slice ad n c ∧ ∀ i a, l[i]? = some a → ∃ g, ad = some ⟨g, 0, none⟩ ∧ ∀ f, f < sz → w.cell? ⟨g, i * sz + f, none⟩ = (F a)[f]? := by
  rcases h.2 with ⟨h1, h2⟩ | ⟨g, cap, cur, hv, hb, hh, hc, hm, _⟩
  · subst h2
    refine ⟨by omega, none, 0, h1, fun i a hi => ?_⟩
    rw [List.length_eq_zero_iff.1 hn] at hi
    simp at hi
  · refine ⟨by unfold maxLen at hm; omega, some ⟨g, 0, none⟩, cap, hv, fun i a hi => ⟨g, rfl, fun f hf => ?_⟩⟩
    subst hv
    have hlt : i < l.length := (List.getElem?_eq_some_iff.1 hi).1
    rw [World.ownsRow.cellAt h (i * sz + f) (by
      have : (i + 1) * sz ≤ n * sz := Nat.mul_le_mul_right sz (by omega)
      rw [Nat.add_mul] at this
      omega)]
    exact flat_get F sz hF l i a hi f hf
theorem code_read {base : Nat} {v : Value} {code : List (Int × Int)} {w : World} (h : CodeV base v code w) : code.length ≤ 9223372036854775807 ∧ ∃ ad c, v = .slice ad code.length c ∧ ∀ i a, code[i]? = some a → ∃ g, ad = some ⟨g, 0, none⟩ ∧ w.cell? ⟨g, i * 2, none⟩ = some (.int .i64 a.1) ∧ w.cell? ⟨g, i * 2 + 1, none⟩ = some (.int .i64 a.2) := by
  obtain ⟨h1, ad, c, hv, hr⟩ := own_read (fun c : Int × Int => [.int .i64 c.1, .int .i64 c.2]) (fun _ => rfl) code rfl h
  refine ⟨h1, ad, c, hv, fun i a hi => ?_⟩
  obtain ⟨g, hg, hc⟩ := hr i a hi
  exact ⟨g, hg, by simpa using hc 0 (by omega), by simpa using hc 1 (by omega)⟩
theorem procs_read {base : Nat} {v : Value} {ps : List Pr} {w : World} (h : ProcsV base v ps w) : ps.length ≤ 9223372036854775807 ∧ ∃ ad c, v = .slice ad ps.length c ∧ ∀ i p, ps[i]? = some p → ∃ g vc, ad = some ⟨g, 0, none⟩ ∧ w.cell? ⟨g, i * 2, none⟩ = some (.int .i64 p.prio) ∧ w.cell? ⟨g, i * 2 + 1, none⟩ = some vc ∧ CodeV base vc p.code w := by
  obtain ⟨l, hl, ho, hc⟩ := h
  subst hl
  obtain ⟨h1, ad, c, hv, hr⟩ := own_read (fun p : Pr × Value => [.int .i64 p.1.prio, p.2]) (fun _ => rfl) l rfl ho
  rw [List.length_map]
  refine ⟨h1, ad, c, hv, fun i p hi => ?_⟩
  rw [List.getElem?_map] at hi
  obtain ⟨q, hq, rfl⟩ := Option.map_eq_some_iff.1 hi
  obtain ⟨g, hg, hcc⟩ := hr i q hq
  exact ⟨g, q.2, hg, by simpa using hcc 0 (by omega), by simpa using hcc 1 (by omega), hc q (List.mem_of_getElem? hq)⟩

theorem cell_lt {w : World} {g o : Nat} {u : Value} (h : w.cell? ⟨g, o, none⟩ = some u) : g < w.heap.size := by
  rcases Nat.lt_or_ge g w.heap.size with h1 | h1
  · exact h1
  · have : w.heap[g]? = none := by simp; omega
    simp [World.cell?, this] at h
end Go.Proofs.YtnjlbgolnbdkaaaGreat
/- The program's journal: At, is, headed, header, generation. -/
namespace Go.Proofs.YtnjlbgolnbdkaaaGreat
open Go.RowKit

def SecAt (x : Nat) (bs : List Int) (s : Nat) (w : World) : Prop := w.ownsRow 0 259 6 (.slice (some ⟨x, 0, none⟩) 8 8) 8 (entsCells (entsTo bs s 8))
theorem SecAt.below {x : Nat} {bs : List Int} {s : Nat} {w w' : World} (h : SecAt x bs s w) (hb : Below w.heap.size w w') : SecAt x bs s w' := own_keep h (fun b e => hb.block b (World.ownsRow.lt h b e).2)
theorem SecAt.lt {x : Nat} {bs : List Int} {s : Nat} {w : World} (h : SecAt x bs s w) : x < w.heap.size := (World.ownsRow.lt h x rfl).2
theorem SecAt.cell {x : Nat} {bs : List Int} {s : Nat} {w : World} (h : SecAt x bs s w) (i o : Nat) (hi : i < 8) (ho : o < 6) : w.cell? ⟨x, i * 6 + o, none⟩ = some (.int .i64 (entOf bs s i o)) := by
  obtain ⟨_, ad, c, hv, hr⟩ := own_read entCells (fun _ => rfl) (entsTo bs s 8) rfl h
  simp at hv
  obtain ⟨g, hg, hc⟩ := hr i (entOf bs s i) (by rcases (show i = 0 ∨ i = 1 ∨ i = 2 ∨ i = 3 ∨ i = 4 ∨ i = 5 ∨ i = 6 ∨ i = 7 from by omega) with rfl | rfl | rfl | rfl | rfl | rfl | rfl | rfl <;> rfl)
  rw [← hv.1] at hg
  simp at hg
  subst hg
  rw [hc o ho]
  rcases (show o = 0 ∨ o = 1 ∨ o = 2 ∨ o = 3 ∨ o = 4 ∨ o = 5 from by omega) with rfl | rfl | rfl | rfl | rfl | rfl <;> rfl

set_option maxHeartbeats 1000000 in
theorem entAt_any (x i : Nat) (w : World) (hi : i < 8) :
    Calls Tryz.prog 170 #[.agg #[.slice (some ⟨x, 0, none⟩) 8 8], .int .i64 i] w fun e w' => e = .returned (.pointer (some ⟨x, i * 6, none⟩)) ∧ Below w.heap.size w w' := by
  have HB : Hid (Below w.heap.size w (w.alloc (.cells #[.slice (some ⟨x, 0, none⟩) 8 8] 181))) := (Below.refl _ _).alloc (Nat.le_refl _) _
  go_enter Tryz.func170, Tryz.ntmps170
  go_wp2
  go_ret
  exact ⟨by simp, HB.out⟩
set_option maxHeartbeats 1000000 in
theorem entIs_any (e0 e1 e2 e3 e4 e5 kind : Int) (w : World) :
    Calls Tryz.prog 171 #[.agg #[.int .i64 e0, .int .i64 e1, .int .i64 e2, .int .i64 e3, .int .i64 e4, .int .i64 e5], .int .i64 kind] w fun e w' => e = .returned (.bool (e0 == 3 && e1 == kind)) ∧ Below w.heap.size w w' := by
  have HB : Hid (Below w.heap.size w (w.alloc (.cells #[.int .i64 e0, .int .i64 e1, .int .i64 e2, .int .i64 e3, .int .i64 e4, .int .i64 e5] 259))) := (Below.refl _ _).alloc (Nat.le_refl _) _
  by_cases h : e0 = 3
  · have h3 : (e0 == 3) = true := by simp [h]
    clear h
    go_enter Tryz.func171, Tryz.ntmps171
    go_wp2
    go_ret
    exact ⟨by simp [h3], HB.out⟩
  · have h3 : (e0 == 3) = false := by simp [h]
    clear h
    go_enter Tryz.func171, Tryz.ntmps171
    go_wp2
    go_ret
    exact ⟨by simp [h3], HB.out⟩

set_option maxHeartbeats 1000000 in
theorem headed_any (x : Nat) (bs : List Int) (s : Nat) (w : World) (h : SecAt x bs s w) :
    Calls Tryz.prog 125 #[.agg #[.int .i64 s, .slice (some ⟨x, 0, none⟩) 8 8]] w fun e w' => e = .returned (.bool (headB bs s)) ∧ Below w.heap.size w w' := by
  have HH := hide h
  have HE : Hid (headB bs s = (entOf bs s 0 0 == 3 && entOf bs s 0 1 == 2)) := rfl
  have hb0 : Below w.heap.size w (w.alloc (.cells #[.int .i64 s, .slice (some ⟨x, 0, none⟩) 8 8] 183)) := (Below.refl _ _).alloc (Nat.le_refl _) _
  have HB0 := hide hb0
  have HAT := hide (entAt_any x 0 (w.alloc (.cells #[.int .i64 s, .slice (some ⟨x, 0, none⟩) 8 8] 183)) (by omega))
  clear h hb0
  go_enter Tryz.func125, Tryz.ntmps125
  go_wp2_with fail
  refine HAT.out.mono ?_
  rintro e w1 ⟨rfl, hb1⟩
  have HB1 : Hid (Below w.heap.size w w1) := HB0.out.trans (hb1.mono (by simp))
  have hS1 := HH.out.below HB1.out
  have c0 : w1.cell? ⟨x, 0, none⟩ = some (.int .i64 (entOf bs s 0 0)) := by simpa using hS1.cell 0 0 (by omega) (by omega)
  have c1 : w1.cell? ⟨x, 1, none⟩ = some (.int .i64 (entOf bs s 0 1)) := by simpa using hS1.cell 0 1 (by omega) (by omega)
  have c2 : w1.cell? ⟨x, 2, none⟩ = some (.int .i64 (entOf bs s 0 2)) := by simpa using hS1.cell 0 2 (by omega) (by omega)
  have c3 : w1.cell? ⟨x, 3, none⟩ = some (.int .i64 (entOf bs s 0 3)) := by simpa using hS1.cell 0 3 (by omega) (by omega)
  have c4 : w1.cell? ⟨x, 4, none⟩ = some (.int .i64 (entOf bs s 0 4)) := by simpa using hS1.cell 0 4 (by omega) (by omega)
  have c5 : w1.cell? ⟨x, 5, none⟩ = some (.int .i64 (entOf bs s 0 5)) := by simpa using hS1.cell 0 5 (by omega) (by omega)
  have HIS := hide (fun kind W => entIs_any (entOf bs s 0 0) (entOf bs s 0 1) (entOf bs s 0 2) (entOf bs s 0 3) (entOf bs s 0 4) (entOf bs s 0 5) kind W)
  have hs1 := HB1.out.size
  clear hb1 hS1 HAT
  generalize entOf bs s 0 0 = e0 at *
  generalize entOf bs s 0 1 = e1 at *
  generalize entOf bs s 0 2 = e2 at *
  generalize entOf bs s 0 3 = e3 at *
  generalize entOf bs s 0 4 = e4 at *
  generalize entOf bs s 0 5 = e5 at *
  go_wp2_with fail
  refine (HIS.out 2 w1).mono ?_
  rintro e w2 ⟨rfl, hb2⟩
  have HEND : Hid (Below w.heap.size w w2) := HB1.out.trans (hb2.mono hs1)
  clear hb2
  go_wp2
  go_ret
  exact ⟨by rw [HE.out]; rfl, HEND.out⟩
def hdrOf (bs : List Int) (s : Nat) (k : Nat) : Int := if headB bs s = true then recOf bs s 0 k else 0

set_option maxRecDepth 100000 in
set_option maxHeartbeats 2000000 in
theorem header_any (x : Nat) (bs : List Int) (s : Nat) (w : World) (h : SecAt x bs s w) :
    Calls Tryz.prog 153 #[.agg #[.int .i64 s, .slice (some ⟨x, 0, none⟩) 8 8]] w fun e w' => e = .returned (.agg #[.int .i64 (hdrOf bs s 0), .int .i64 (hdrOf bs s 1), .int .i64 (hdrOf bs s 2), .int .i64 (hdrOf bs s 3), .int .i64 (hdrOf bs s 4)]) ∧ Below w.heap.size w w' := by
  have HH := hide h
  obtain ⟨w2, hw2⟩ : ∃ w2, w2 = (w.alloc (.cells #[.int .i64 s, .slice (some ⟨x, 0, none⟩) 8 8] 183)).alloc (.cells #[.int .i64 0, .int .i64 0, .int .i64 0, .int .i64 0, .int .i64 0] 52) := ⟨_, rfl⟩
  have hb2 : Below w.heap.size w w2 := by rw [hw2]; exact ((Below.refl _ _).alloc (Nat.le_refl _) _).alloc (by simp) _
  have hs2 : w2.heap.size = w.heap.size + 2 := by rw [hw2]; simp
  have hx2 : w2.heap[w.heap.size]? = some (.cells #[.int .i64 s, .slice (some ⟨x, 0, none⟩) 8 8] 183 (0, 0)) := by rw [hw2, Below.heap_alloc _ _ _ (by simp)]; exact heap_alloc_new w _
  have hr2 : w2.heap[w.heap.size + 1]? = some (.cells #[.int .i64 0, .int .i64 0, .int .i64 0, .int .i64 0, .int .i64 0] 52 (0, 0)) := by
    rw [hw2]
    have := heap_alloc_new (w.alloc (.cells #[.int .i64 s, .slice (some ⟨x, 0, none⟩) 8 8] 183)) (.cells #[.int .i64 0, .int .i64 0, .int .i64 0, .int .i64 0, .int .i64 0] 52)
    rwa [show (w.alloc (.cells #[.int .i64 s, .slice (some ⟨x, 0, none⟩) 8 8] 183)).heap.size = w.heap.size + 1 from by simp] at this
  have HHD := hide (headed_any x bs s w2 (h.below hb2))
  have HB2 := hide hb2
  have HX2 := hide hx2
  have HR2 := hide hr2
  have HW2 := hide hw2
  have HE : Hid (∀ k, hdrOf bs s k = if headB bs s = true then recOf bs s 0 k else 0) := fun k => rfl
  clear h hb2 hx2 hr2 hw2
  go_enter Tryz.func153, Tryz.ntmps153
  go_wp2_with fail
  rw [← HW2.out]
  refine HHD.out.mono ?_
  rintro e w3 ⟨rfl, hb3⟩
  have hs3 := hb3.size
  have HB3 : Hid (Below w.heap.size w w3) := HB2.out.trans (hb3.mono (by omega))
  have hx3 := (hb3.block _ (by omega)).trans HX2.out
  have hr3 := (hb3.block _ (by omega)).trans HR2.out
  have b1 : w3.cell? ⟨w.heap.size, 1, none⟩ = some (.slice (some ⟨x, 0, none⟩) 8 8) := by rw [cell_of_row _ _ _ _ _ _ hx3]; rfl
  have HR3 := hide hr3
  clear hb3 HHD hx3 hr3 HX2 HR2 HB2
  cases hd : headB bs s with
  | false =>
    have z0 : w3.cell? ⟨w.heap.size + 1, 0, none⟩ = some (.int .i64 0) := by rw [cell_of_row _ _ _ _ _ _ HR3.out]; rfl
    have z1 : w3.cell? ⟨w.heap.size + 1, 1, none⟩ = some (.int .i64 0) := by rw [cell_of_row _ _ _ _ _ _ HR3.out]; rfl
    have z2 : w3.cell? ⟨w.heap.size + 1, 2, none⟩ = some (.int .i64 0) := by rw [cell_of_row _ _ _ _ _ _ HR3.out]; rfl
    have z3 : w3.cell? ⟨w.heap.size + 1, 3, none⟩ = some (.int .i64 0) := by rw [cell_of_row _ _ _ _ _ _ HR3.out]; rfl
    have z4 : w3.cell? ⟨w.heap.size + 1, 4, none⟩ = some (.int .i64 0) := by rw [cell_of_row _ _ _ _ _ _ HR3.out]; rfl
    have f0 := free_of_block HR3.out 0
    have f1 := free_of_block HR3.out 1
    have f2 := free_of_block HR3.out 2
    have f3 := free_of_block HR3.out 3
    have f4 := free_of_block HR3.out 4
    have HD := hide hd
    clear hd
    go_wp2
    refine bodyPost_ret (v := .agg #[.int .i64 0, .int .i64 0, .int .i64 0, .int .i64 0, .int .i64 0]) (by simp [results, Tryz.results153, go_sem, z0, z1, z2, z3, z4]) rfl ?_
    refine ⟨by simp [HE.out, HD.out], ?_⟩
    iterate 5 refine Below.thenSet ?_ (by omega) _ _
    exact HB3.out
  | true =>
    have HAT := hide (entAt_any x 0 w3 (by omega))
    have HD := hide hd
    clear hd
    go_wp2_with fail
    refine HAT.out.mono ?_
    rintro e w4 ⟨rfl, hb4⟩
    have hs4 := hb4.size
    have HB4 : Hid (Below w.heap.size w w4) := HB3.out.trans (hb4.mono (by omega))
    have hr4 := (hb4.block _ (by omega)).trans HR3.out
    have hS4 := HH.out.below HB4.out
    have c1 : w4.cell? ⟨x, 1, none⟩ = some (.int .i64 (recOf bs s 0 0)) := by simpa [entOf] using hS4.cell 0 1 (by omega) (by omega)
    have c2 : w4.cell? ⟨x, 2, none⟩ = some (.int .i64 (recOf bs s 0 1)) := by simpa [entOf] using hS4.cell 0 2 (by omega) (by omega)
    have c3 : w4.cell? ⟨x, 3, none⟩ = some (.int .i64 (recOf bs s 0 2)) := by simpa [entOf] using hS4.cell 0 3 (by omega) (by omega)
    have c4 : w4.cell? ⟨x, 4, none⟩ = some (.int .i64 (recOf bs s 0 3)) := by simpa [entOf] using hS4.cell 0 4 (by omega) (by omega)
    have c5 : w4.cell? ⟨x, 5, none⟩ = some (.int .i64 (recOf bs s 0 4)) := by simpa [entOf] using hS4.cell 0 5 (by omega) (by omega)
    have z0 : w4.cell? ⟨w.heap.size + 1, 0, none⟩ = some (.int .i64 0) := by rw [cell_of_row _ _ _ _ _ _ hr4]; rfl
    have z1 : w4.cell? ⟨w.heap.size + 1, 1, none⟩ = some (.int .i64 0) := by rw [cell_of_row _ _ _ _ _ _ hr4]; rfl
    have z2 : w4.cell? ⟨w.heap.size + 1, 2, none⟩ = some (.int .i64 0) := by rw [cell_of_row _ _ _ _ _ _ hr4]; rfl
    have z3 : w4.cell? ⟨w.heap.size + 1, 3, none⟩ = some (.int .i64 0) := by rw [cell_of_row _ _ _ _ _ _ hr4]; rfl
    have z4 : w4.cell? ⟨w.heap.size + 1, 4, none⟩ = some (.int .i64 0) := by rw [cell_of_row _ _ _ _ _ _ hr4]; rfl
    have f0 := free_of_block hr4 0
    have f1 := free_of_block hr4 1
    have f2 := free_of_block hr4 2
    have f3 := free_of_block hr4 3
    have f4 := free_of_block hr4 4
    clear hb4 hr4 hS4 HAT HR3
    go_wp2
    refine bodyPost_ret (v := .agg #[.int .i64 (recOf bs s 0 0), .int .i64 (recOf bs s 0 1), .int .i64 (recOf bs s 0 2), .int .i64 (recOf bs s 0 3), .int .i64 (recOf bs s 0 4)]) (by simp [results, Tryz.results153, go_sem, z0, z1, z2, z3, z4]) rfl ?_
    refine ⟨by simp [HE.out, HD.out], ?_⟩
    iterate 5 refine Below.thenSet ?_ (by omega) _ _
    exact HB4.out

def genOf (bs : List Int) (s : Nat) : Int := hdrOf bs s 3
set_option maxRecDepth 100000 in
set_option maxHeartbeats 2000000 in
theorem generation_any (x : Nat) (bs : List Int) (s : Nat) (w : World) (h : SecAt x bs s w) :
    Calls Tryz.prog 126 #[.agg #[.int .i64 s, .slice (some ⟨x, 0, none⟩) 8 8]] w fun e w' => e = .returned (.int .i64 (genOf bs s)) ∧ Below w.heap.size w w' := by
  have hb0 : Below w.heap.size w (w.alloc (.cells #[.int .i64 s, .slice (some ⟨x, 0, none⟩) 8 8] 183)) := (Below.refl _ _).alloc (Nat.le_refl _) _
  have HHD := hide (header_any x bs s _ (h.below hb0))
  have HB0 := hide hb0
  have HE : Hid (genOf bs s = hdrOf bs s 3) := rfl
  clear h hb0
  generalize hdrOf bs s 0 = r0 at *
  generalize hdrOf bs s 1 = r1 at *
  generalize hdrOf bs s 2 = r2 at *
  generalize hdrOf bs s 3 = r3 at *
  generalize hdrOf bs s 4 = r4 at *
  have hfld : ∀ W : World, (Instr.field 52 (.agg #[.int .i64 r0, .int .i64 r1, .int .i64 r2, .int .i64 r3, .int .i64 r4]) 3).run Tryz.prog W = .ok (.int .i64 r3) W := fun W => by kernel_rfl
  go_enter Tryz.func126, Tryz.ntmps126
  go_wp2_with fail
  refine HHD.out.mono ?_
  rintro e w1 ⟨rfl, hb1⟩
  have HB1 : Hid (Below w.heap.size w w1) := HB0.out.trans (hb1.mono (by simp))
  clear hb1 HHD
  go_wp2
  go_ret
  exact ⟨by rw [HE.out]; rfl, HB1.out⟩
end Go.Proofs.YtnjlbgolnbdkaaaGreat
