/- Two partitions, a tick each: quiet ticks, faults from outside, with the power as it may be. Plain. -/
import Derived.Test.YtnjlbgolnbdkaaaGreatCj
namespace Go.Proofs.YtnjlbgolnbdkaaaGreat
open Go.RowKit

def cfD (p q : Pt) : Cf := ⟨2, 0, [p, q], winsOf 1 2, []⟩
theorem parse_D (p q : Pt) (hp : PtFit p) (hq : PtFit q) : parseOf (configK 0 [encPt p, encPt q] 1) = (cfD p q, 0, 0) := by
  have := parse_config 0 [p, q] 1 (by omega) (by omega) (by simp) (by simp) (fun x hx => by
    simp only [List.mem_cons, List.not_mem_nil, or_false] at hx
    rcases hx with rfl | rfl
    · exact hp
    · exact hq)
  exact this
theorem parse_DK (l1 l2 : Int) (a1 o1 t1 a2 o2 t2 : List Int) (h1 : 0 ≤ l1 ∧ l1 ≤ 9) (h2 : 0 ≤ l2 ∧ l2 ≤ 9) : parseOf (configK 0 [partK l1 a1 o1 t1, partK l2 a2 o2 t2] 1) = (cfD (ptK l1 a1 o1 t1) (ptK l2 a2 o2 t2), 0, 0) := by
  rw [← enc_part, ← enc_part]
  exact parse_D _ _ (ptK_fit l1 a1 o1 t1 h1) (ptK_fit l2 a2 o2 t2 h2)
theorem config1_len (w : Int) (p q : List Int) : (configK w [p, q] 1).length = 16 + p.length + q.length := by
  rw [configK_len]
  simp only [List.flatten_cons, List.flatten_nil, List.length_append, List.length_nil, List.length_cons]
  omega
structure Qt (p q : Pt) (s : SF) : Prop where
  cf : s.1.cf = cfD p q
  dead : s.1.dead = false
  dl : ∀ x ∈ s.1.parts, ∀ y ∈ x.procs, y.dl < 0
def Still (p : Pt) : Prop := ∀ r ∈ p.procs, ∀ x ∈ r.code, x.1 = 0 ∨ x.1 = 1 ∨ x.1 = 4
theorem getD_or {α : Type} (l : List α) (i : Nat) (d : α) : l.getD i d ∈ l ∨ l.getD i d = d := by
  by_cases h : i < l.length
  · left
    rw [List.getD_eq_getElem?_getD, List.getElem?_eq_getElem h]
    simp
  · right
    rw [List.getD_eq_getElem?_getD, List.getElem?_eq_none (by omega)]
    rfl
theorem ins_still {p q : Pt} {s : SF} (h : Qt p q s) (hp : Still p) (hq : Still q) (i n : Nat) : (insOf s.1 i n).1 = 0 ∨ (insOf s.1 i n).1 = 1 ∨ (insOf s.1 i n).1 = 4 := by
  have key : ∀ pt : Pt, (pt = p ∨ pt = q ∨ pt = default) → Still pt := fun pt h => by
    rcases h with rfl | rfl | rfl
    · exact hp
    · exact hq
    · intro r hr
      cases hr
  unfold insOf RSt.codeOf RSt.cpart
  rw [h.cf]
  have h1 : Still ((cfD p q).parts.getD i default) := key _ (by
    rcases getD_or (cfD p q).parts i default with hx | hx
    · simp only [cfD, List.mem_cons, List.not_mem_nil, or_false] at hx
      rcases hx with hx | hx
      · exact .inl hx
      · exact .inr (.inl hx)
    · exact .inr (.inr hx))
  generalize (cfD p q).parts.getD i default = pt at *
  rcases getD_or pt.procs n default with hx | hx
  · rcases getD_or (pt.procs.getD n default).code (s.1.proc i n).next.toNat (0, 0) with hy | hy
    · exact h1 _ hx _ hy
    · rw [hy]
      exact .inl rfl
  · rw [hx]
    rcases getD_or (default : Pr).code (s.1.proc i n).next.toNat (0, 0) with hy | hy
    · cases hy
    · rw [hy]
      exact .inl rfl
theorem step_still (bs : List Int) (st : RSt) (i n : Nat) (h : (insOf st i n).1 = 0 ∨ (insOf st i n).1 = 1 ∨ (insOf st i n).1 = 4) : ∃ y : RProc, y.dl = (st.proc i n).dl ∧ stepS bs i n st = (-1, st.setProc i n y) := by
  unfold stepS
  rcases h with h | h | h
  · simp only [h]
    exact ⟨st.follow i n ((st.proc i n).next + 1), rfl, by simp⟩
  · simp only [h]
    exact ⟨{ st.follow i n ((st.proc i n).next + 1) with acc := IntKind.i64.wrap ((st.follow i n ((st.proc i n).next + 1)).acc + (if (insOf st i n).2 > 127 then (insOf st i n).2 - 256 else (insOf st i n).2)) }, rfl, by simp⟩
  · simp only [h]
    exact ⟨st.follow i n (if (4 : Int) = 4 ∧ (st.proc i n).acc ≠ 0 then (insOf st i n).2 else (st.proc i n).next + 1), rfl, by simp⟩
theorem Qt.set {p q : Pt} {s : SF} (h : Qt p q s) (i n : Nat) (y : RProc) (hy : y.dl = (s.1.proc i n).dl) : Qt p q (s.1.setProc i n y, s.2) := by
  refine ⟨h.cf, h.dead, fun x hx z hz => ?_⟩
  have hx' : x ∈ s.1.parts.set i { s.1.part i with procs := (s.1.part i).procs.set n y } := hx
  by_cases hi : i < s.1.parts.length
  · have hm : s.1.part i ∈ s.1.parts := getD_mem hi
    rcases List.mem_or_eq_of_mem_set hx' with hx1 | hx1
    · exact h.dl x hx1 z hz
    · rw [hx1] at hz
      have hz' : z ∈ (s.1.part i).procs.set n y := hz
      by_cases hn : n < (s.1.part i).procs.length
      · rcases List.mem_or_eq_of_mem_set hz' with hz1 | hz1
        · exact h.dl _ hm z hz1
        · rw [hz1, hy]
          exact h.dl _ hm _ (getD_mem hn)
      · rw [List.set_eq_of_length_le (by omega)] at hz'
        exact h.dl _ hm z hz'
  · rw [List.set_eq_of_length_le (by omega)] at hx'
    exact h.dl x hx' z hz
theorem tick_still {p q : Pt} {s : SF} (h : Qt p q s) (hp : Still p) (hq : Still q) : ∃ s', tickS s = (true, s') ∧ Qt p q s' ∧ s'.2 = s.2 := by
  have hd := deadS_quiet s (fun i n hi hn => .inr (.inr (.inl (h.dl _ (getD_mem hi) _ (getD_mem hn)))))
  have hw := watchesS_off s (by rw [h.cf]; rfl)
  have hx : ∃ s1 : SF, winS s = (true, s1) ∧ Qt p q s1 ∧ s1.2 = s.2 := by
    unfold winS
    split
    · exact ⟨s, rfl, h, rfl⟩
    · rename_i x _
      unfold turnS
      split
      · exact ⟨s, rfl, h, rfl⟩
      · rename_i n _
        obtain ⟨y, hy, e⟩ := step_still s.2.bs s.1 x.part.toNat n (ins_still h hp hq _ _)
        rw [e, if_pos (show (-1 : Int) < 0 by decide)]
        exact ⟨_, rfl, h.set _ _ y hy, rfl⟩
  obtain ⟨s1, e1, h1, h2⟩ := hx
  exact ⟨later s1, tickS_of hd hw e1, ⟨h1.cf, h1.dead, h1.dl⟩, h2⟩
theorem ticks_still {p q : Pt} {s : SF} (h : Qt p q s) (hp : Still p) (hq : Still q) (n : Nat) : ∃ s', ticksTo n s = (true, s') ∧ Qt p q s' ∧ s'.2 = s.2 := by
  obtain ⟨s', e, h1, h2⟩ := ticksTo_keep (fun _ x => Qt p q x ∧ x.2 = s.2) s 0 n ⟨h, rfl⟩ (fun _ x _ hx => by
    obtain ⟨x', a, b, c⟩ := tick_still hx.1 hp hq
    exact ⟨x', a, b, c.trans hx.2⟩)
  exact ⟨s', e, h1, h2⟩
theorem partsTo_mem (log : List (Nat → Int)) (ps : List Pt) (k : Nat) : ∀ x ∈ partsTo log ps k, ∀ y ∈ x.procs, y.dl < 0 := by
  induction k with
  | zero => intro x hx; cases hx
  | succ k ih =>
    intro x hx y hy
    have hx' : x ∈ partsTo log ps k ++ (match ps[k]? with | some p => [part0 log k p] | none => []) := hx
    rcases List.mem_append.1 hx' with h | h
    · exact ih x h y hy
    · split at h
      · simp only [List.mem_cons, List.not_mem_nil, or_false] at h
        rw [h] at hy
        have hy' := List.eq_of_mem_replicate hy
        rw [hy']
        decide
      · cases h
theorem boot_still (p q : Pt) (F : Fl) : Qt p q (bootSt (cfD p q) F.bs, F) := ⟨rfl, rfl, partsTo_mem _ _ _⟩
theorem inject_gen (s : SF) (i code : Nat) (hi : i < s.1.parts.length) (hp : (s.1.part i).procs.length = 1) (hc : code ≤ 4) (hd : s.1.dead = false) : injectCall i 0 code s = if (s.1.part i).mode = 3 then (0, s) else (if (s.2.app i code (actionOf s.1 s.2.bs i code)).1 = true then 0 else 6, ({ (if (s.2.app i code (actionOf s.1 s.2.bs i code)).1 = true then s.1.act i 0 (actionOf s.1 s.2.bs i code) else s.1) with dead := !(s.2.app i code (actionOf s.1 s.2.bs i code)).1 }, (s.2.app i code (actionOf s.1 s.2.bs i code)).2)) := by
  unfold injectCall
  rw [if_neg (by rw [Int.toNat_natCast, hp]; omega), if_neg (by rw [hd]; simp), Int.toNat_natCast]
  congr 1
  unfold faultS withDead
  rw [Int.toNat_natCast, show (0 : Int).toNat = 0 from rfl]
  cases (s.2.app i code (actionOf s.1 s.2.bs i code)).1 <;> simp
theorem setPart_part (st : RSt) (i : Nat) (p : RPart) (hi : i < st.parts.length) (j : Nat) : (st.setPart i p).part j = if j = i then p else st.part j := by
  unfold RSt.part RSt.setPart
  simp only [List.getD_eq_getElem?_getD, List.getElem?_set]
  by_cases e : i = j
  · subst e
    simp [hi]
  · rw [if_neg e, if_neg (fun h => e h.symm)]
end Go.Proofs.YtnjlbgolnbdkaaaGreat
