/- The log behind an append, with the power as it may be. Plain. -/
import Derived.Test.YtnjlbgolnbdkaaaGreatCi
namespace Go.Proofs.YtnjlbgolnbdkaaaGreat
open Go.RowKit

theorem Jg.log {c : Nat} {bs : List Int} {s k gen : Nat} (h : Jg c bs s k gen) (hc : c < 2147483648) : logOf bs = (if headB bs (1 - s) = true then faultsTo bs (1 - s) 7 else []) ++ faultsTo bs s 7 := by
  obtain ⟨h1, h2, -, -, -⟩ := h.facts hc
  have ho := h.other
  have hs := h.s2
  have fo : ∀ x : Nat, faultsOf bs (x : Int) = faultsTo bs x 7 := fun x => by
    unfold faultsOf
    rw [if_neg (by omega), Int.toNat_natCast]
  have fn : faultsOf bs (-1) = [] := rfl
  unfold logOf sectorsOf sectOf
  obtain rfl | rfl : s = 0 ∨ s = 1 := by omega
  · rcases ho with ho | ⟨ho, hg2⟩
    · simp only [Nat.sub_zero] at ho ⊢
      rw [h1, ho]
      simp only [Bool.and_false, Bool.false_and, Bool.true_and, Bool.not_false, Bool.true_or, Bool.false_eq_true, if_false, if_true]
      rw [fn]
      exact congrArg _ (fo 0)
    · simp only [Nat.sub_zero] at ho hg2 ⊢
      rw [h1, ho, h2, hg2]
      rw [if_pos (by simp), if_pos rfl]
      show faultsOf bs ((1 : Nat) : Int) ++ faultsOf bs ((0 : Nat) : Int) = _
      rw [fo, fo]
  · rcases ho with ho | ⟨ho, hg2⟩
    · simp only [Nat.sub_self] at ho ⊢
      rw [h1, ho]
      simp only [Bool.false_and, Bool.false_eq_true, if_false, if_true]
      rw [fn]
      exact congrArg _ (fo 1)
    · simp only [Nat.sub_self] at ho hg2 ⊢
      rw [h1, ho, h2, hg2]
      rw [if_neg (by simp; omega), if_pos (by simp), if_pos rfl]
      show faultsOf bs ((0 : Nat) : Int) ++ faultsOf bs ((1 : Nat) : Int) = _
      rw [fo, fo]
theorem log_none {bs : List Int} (b0 : headB bs 0 = false) (b1 : headB bs 1 = false) : logOf bs = [] := by
  unfold logOf sectorsOf sectOf
  rw [b0, b1]
  rfl
def Seqs (all : List (Nat → Int)) : Prop := ∀ (i : Nat) (r : Nat → Int), all[i]? = some r → r 3 = (i : Int) + 1
theorem great_app (l : List (Nat → Int)) (r : Nat → Int) : greatOf (l ++ [r]) = max (greatOf l) (r 3) := by
  unfold greatOf
  rw [List.foldl_append]
  rfl
theorem great_le (l : List (Nat → Int)) (n : Int) (hn : 0 ≤ n) (h : ∀ r ∈ l, r 3 ≤ n) : greatOf l ≤ n := by
  have key : ∀ (l : List (Nat → Int)) (m : Int), m ≤ n → (∀ r ∈ l, r 3 ≤ n) → l.foldl (fun n r => max n (r 3)) m ≤ n := by
    intro l
    induction l with
    | nil => intro m hm _; exact hm
    | cons x l ih =>
      intro m hm h
      have hx := h x (List.mem_cons_self ..)
      exact ih _ (by show max m (x 3) ≤ n; omega) fun r hr => h r (List.mem_cons_of_mem _ hr)
  exact key l 0 hn h
theorem Seqs.le {all : List (Nat → Int)} (h : Seqs all) {r : Nat → Int} (hr : r ∈ all) : r 3 ≤ all.length := by
  obtain ⟨i, hi, e⟩ := List.mem_iff_getElem.1 hr
  have := h i r (by rw [List.getElem?_eq_getElem hi, e])
  omega
theorem Seqs.last {pre l : List (Nat → Int)} {r : Nat → Int} (h : Seqs (pre ++ (l ++ [r]))) : r 3 = ((pre ++ (l ++ [r])).length : Int) := by
  have := h (pre.length + l.length) r (by
    rw [List.getElem?_append_right (by omega), Nat.add_sub_cancel_left, List.getElem?_append_right (by omega), Nat.sub_self]
    rfl)
  rw [this]
  simp
  omega
theorem Seqs.push {all : List (Nat → Int)} (h : Seqs all) {r : Nat → Int} (hr : r 3 = (all.length : Int) + 1) : Seqs (all ++ [r]) := by
  intro i x hx
  by_cases e : i < all.length
  · rw [List.getElem?_append_left e] at hx
    exact h i x hx
  · rw [List.getElem?_append_right (by omega)] at hx
    by_cases e2 : i - all.length = 0
    · rw [e2] at hx
      simp only [List.getElem?_cons_zero, Option.some.injEq] at hx
      rw [← hx, hr]
      omega
    · obtain ⟨m, hm⟩ : ∃ m, i - all.length = m + 1 := ⟨i - all.length - 1, by omega⟩
      rw [hm] at hx
      simp at hx
theorem Seqs.great {all l : List (Nat → Int)} (h : Seqs all) (he : ∃ pre, all = pre ++ l) (hm : min all.length 7 ≤ l.length) : greatOf l = all.length := by
  obtain ⟨pre, rfl⟩ := he
  rcases List.eq_nil_or_concat l with rfl | ⟨l', r, rfl⟩
  · have : (pre ++ []).length = 0 := by
      simp only [List.length_nil] at hm
      omega
    rw [this]
    rfl
  · rw [List.concat_eq_append] at *
    have h1 := h.last
    have h2 : greatOf l' ≤ ((pre ++ (l' ++ [r])).length : Int) := great_le l' _ (by omega) fun x hx => h.le (by simp [hx])
    rw [great_app, h1]
    omega
structure Du (all : List (Nat → Int)) (bs : List Int) (s k gen : Nat) : Prop where
  jg : Jg all.length bs s k gen
  full : (faultsTo bs s 7).length = k - 1
  ends : ∃ pre, all = pre ++ logOf bs
  many : min all.length 7 ≤ (logOf bs).length
def Jd (all : List (Nat → Int)) (bs : List Int) : Prop := Seqs all ∧ ((all = [] ∧ headB bs 0 = false ∧ headB bs 1 = false) ∨ ∃ s k gen, Du all bs s k gen)
theorem Jd.ends {all : List (Nat → Int)} {bs : List Int} (h : Jd all bs) : (∃ pre, all = pre ++ logOf bs) ∧ min all.length 7 ≤ (logOf bs).length := by
  obtain ⟨-, ⟨rfl, b0, b1⟩ | ⟨s, k, gen, h⟩⟩ := h
  · rw [log_none b0 b1]
    exact ⟨⟨[], rfl⟩, by simp⟩
  · exact ⟨h.ends, h.many⟩
theorem Jd.great {all : List (Nat → Int)} {bs : List Int} (h : Jd all bs) : greatOf (logOf bs) = all.length := h.1.great h.ends.1 h.ends.2
theorem faults_torn {bs bs' : List Int} {s k : Nat} (h : ∀ i, i < 8 → i ≠ k → slotB bs' s i = slotB bs s i) (hk : kindAt bs' s k ≠ 3) (hb : slotB bs s k = blank) (n : Nat) (hn : n ≤ 7) : faultsTo bs' s n = faultsTo bs s n := by
  induction n with
  | zero => rfl
  | succ n ih =>
    show faultsTo bs' s n ++ (if isFault bs' s (n + 1) then [recOf bs' s (n + 1)] else []) = faultsTo bs s n ++ (if isFault bs s (n + 1) then [recOf bs s (n + 1)] else [])
    rw [ih (by omega)]
    by_cases e : n + 1 = k
    · have f1 : isFault bs' s (n + 1) = false := by
        unfold isFault
        rw [e]
        simp [hk]
      have f2 : isFault bs s (n + 1) = false := fault_blank (by rw [e]; exact hb)
      rw [f1, f2]
      simp
    · have e2 := h (n + 1) (by omega) e
      unfold isFault kindAt recOf
      rw [e2]
def recN (part code act : Int) (n : Nat) : Nat → Int := fun j => match j with | 0 => 1 | 1 => part | 2 => code | 3 => (n : Int) + 1 | _ => act
theorem app_log {F : Fl} {all : List (Nat → Int)} (hok : FlOk F) (hd : F.dead = false) (hJ : Jd all F.bs) (hc : all.length + 1 < 2147483648) (part code : Nat) (act : Int) (hp : part < 256) (hcd : code < 256) (ha : 0 ≤ act ∧ act < 256) :
    ∃ b F', F.app part code act = (b, F') ∧ FlOk F' ∧ F'.dead = !b ∧ 
      (b = true → Jd (all ++ [recN part code act all.length]) F'.bs) ∧ ∃ pre X, all = pre ++ X ∧ min all.length 7 ≤ X.length ∧ (logOf F'.bs = X ++ [recN part code act all.length] ∨ (b = false ∧ logOf F'.bs = X)) := by
  have hgr := hJ.great
  have hend : ∀ (bs : List Int) (s i : Nat), slotB bs s i = slotOf 1 part code (greatOf (logOf F.bs) + 1) act → recOf bs s i = recN part code act all.length := fun bs s i h => by
    funext j
    rw [rec_good h, hgr]
    match j with
    | 0 => rfl
    | 1 => show (part : Int) % 256 = part; omega
    | 2 => show (code : Int) % 256 = code; omega
    | 3 => show ((all.length : Int) + 1) % 4294967296 = (all.length : Int) + 1; omega
    | (j + 4) => show act % 4294967296 = act; omega
  have hr3 : recN part code act all.length 3 = (all.length : Int) + 1 := rfl
  generalize recN part code act all.length = r at hend hr3 ⊢
  obtain ⟨hS, hJ⟩ := hJ
  have hS' := hS.push hr3
  rcases hJ with ⟨rfl, b0, b1⟩ | ⟨s, k, gen, D⟩
  · obtain ⟨b, F', e, k1, d1, a1, c1⟩ := app_out0 hok hd b0 b1 part code act
    have hb1 : headB F'.bs 1 = false := by rw [(head_congr (a1 0 (by omega))).1, b1]
    refine ⟨b, F', e, k1, d1, ?_⟩
    have none : headB F'.bs 0 = false → b = false → (b = true → Jd ([] ++ [r]) F'.bs) ∧ ∃ pre X : List (Nat → Int), [] = pre ++ X ∧ min ([] : List (Nat → Int)).length 7 ≤ X.length ∧ (logOf F'.bs = X ++ [r] ∨ (b = false ∧ logOf F'.bs = X)) := by
      intro h0 hbf
      exact ⟨fun h => (by rw [hbf] at h; cases h), [], [], rfl, by simp, .inr ⟨hbf, log_none h0 hb1⟩⟩
    rcases c1 with ⟨hbf, h⟩ | ⟨hbf, h⟩ | ⟨hh, hr, hn⟩
    · exact none (by rw [(head_congr (h 0 (by omega))).1, b0]) hbf
    · exact none (head_none (h 0 (by omega))) hbf
    · obtain ⟨-, hB⟩ := sector_on (c := 1) k1.len (show 0 < 2 by omega) (by omega) (allRest_rng F.bs) hh hr rfl hn (.inl hb1)
      rcases hB with ⟨hs1, hj, hf⟩ | ⟨hbf, ⟨k', hj⟩, hf⟩
      · have hl : logOf F'.bs = [r] := by
          rw [hj.log (by omega), if_neg (by rw [show 1 - 0 = 1 by rfl, hb1]; decide), hf, hend _ _ _ hs1]
          rfl
        exact ⟨fun _ => ⟨hS', .inr ⟨0, 2, 1, hj, by rw [hf]; rfl, ⟨[], by rw [hl]⟩, by rw [hl]; simp⟩⟩, [], [], rfl, by simp, .inl hl⟩
      · have hl : logOf F'.bs = [] := by
          rw [hj.log (by omega), if_neg (by rw [show 1 - 0 = 1 by rfl, hb1]; decide), hf]
          rfl
        exact ⟨fun h => (by rw [hbf] at h; cases h), [], [], rfl, by simp, .inr ⟨hbf, hl⟩⟩
  · have hJ := D.jg
    obtain ⟨f1, f2, f3, f4, f5⟩ := hJ.facts (by omega)
    have hlog := hJ.log (by omega)
    have hg := hJ.gens
    have hs2 := hJ.s2
    obtain ⟨pre, hpre⟩ := D.ends
    have hmany := D.many
    have hfull := D.full
    obtain ⟨b, F', e, k1, d1, c1⟩ := app_out hok hd hJ (by omega) part code act
    refine ⟨b, F', e, k1, d1, ?_⟩
    rcases c1 with ⟨h8, ho, hn⟩ | ⟨h8, ho, c1⟩
    · have hoth : ∀ i, i < 8 → slotB F'.bs (1 - s) i = slotB F.bs (1 - s) i := fun i hi => ho (1 - s) i (by omega) hi (by omega)
      have hhead := (head_congr (hoth 0 (by omega))).1
      have hfo := faults_congr (bs := F.bs) (bs' := F'.bs) (s := 1 - s) 7 (fun i _ h => hoth i (by omega))
      rcases hn with hn | ⟨hbf, hn⟩
      · obtain ⟨hj, -, hf⟩ := hJ.put h8 k1.len ho hn
        have hl : logOf F'.bs = logOf F.bs ++ [r] := by rw [hj.log (by omega), hlog, hf, hfo, hhead, hend _ _ _ hn, List.append_assoc]
        refine ⟨fun _ => ⟨hS', .inr ⟨s, k + 1, gen, by rw [List.length_append]; exact hj, ?_, ⟨pre, by rw [hl, ← List.append_assoc, ← hpre]⟩, ?_⟩⟩, pre, logOf F.bs, hpre, hmany, .inl hl⟩
        · rw [hf, List.length_append, hfull]
          simp only [List.length_cons, List.length_nil]
          have := hJ.k8
          omega
        · rw [hl, List.length_append, List.length_append]
          omega
      · obtain ⟨⟨k', hj⟩, -⟩ := hJ.torn (by omega) h8 k1.len ho hn
        have hf := faults_torn (bs := F.bs) (bs' := F'.bs) (s := s) (k := k) (fun i hi hne => ho s i hs2 hi (by omega)) hn (hJ.rest k (Nat.le_refl _) h8) 7 (Nat.le_refl _)
        have hl : logOf F'.bs = logOf F.bs := by rw [hj.log (by omega), hlog, hf, hfo, hhead]
        exact ⟨fun h => (by rw [hbf] at h; cases h), pre, logOf F.bs, hpre, hmany, .inr ⟨hbf, hl⟩⟩
    · have hfs := faults_congr (bs := F.bs) (bs' := F'.bs) (s := s) 7 (fun i _ h => ho i (by omega))
      have h7 : (faultsTo F.bs s 7).length = 7 := by rw [hfull, h8]
      have hA : ∃ pre', all = pre' ++ faultsTo F.bs s 7 := ⟨pre ++ (if headB F.bs (1 - s) = true then faultsTo F.bs (1 - s) 7 else []), by rw [List.append_assoc, ← hlog, ← hpre]⟩
      obtain ⟨pre', hA⟩ := hA
      rcases c1 with ⟨hbf, h⟩ | ⟨hbf, h⟩ | ⟨hh, hr, hn⟩
      · obtain ⟨c1, c2, -⟩ := head_congr (h 0 (by omega))
        obtain ⟨hj, -⟩ := hJ.aside (by omega) k1.len ho (by
          rw [c1, c2]
          exact hJ.other)
        have hl : logOf F'.bs = logOf F.bs := by rw [hj.log (by omega), hlog, hfs, c1, faults_congr (bs := F.bs) (bs' := F'.bs) (s := 1 - s) 7 (fun i _ hi => h i (by omega))]
        exact ⟨fun h => (by rw [hbf] at h; cases h), pre, logOf F.bs, hpre, hmany, .inr ⟨hbf, hl⟩⟩
      · have hno := head_none (h 0 (by omega))
        obtain ⟨hj, -⟩ := hJ.aside (by omega) k1.len ho (.inl hno)
        have hl : logOf F'.bs = faultsTo F.bs s 7 := by
          rw [hj.log (by omega), hfs, hno]
          rfl
        exact ⟨fun h => (by rw [hbf] at h; cases h), pre', faultsTo F.bs s 7, hA, by omega, .inr ⟨hbf, hl⟩⟩
      · obtain ⟨g1, g2, -⟩ := head_congr (ho 0 (by omega))
        obtain ⟨-, hB⟩ := sector_on (c := all.length + 1) k1.len (show 1 - s < 2 by omega) (by omega) (allRest_rng F.bs) hh hr rfl hn (.inr (by
          rw [show 1 - (1 - s) = s by omega, g1, g2]
          exact ⟨f1, by rw [f2]; omega⟩))
        have hss : headB F'.bs (1 - (1 - s)) = true := by rw [show 1 - (1 - s) = s by omega, g1, f1]
        rcases hB with ⟨hs1, hj, hf⟩ | ⟨hbf, ⟨k', hj⟩, hf⟩
        · have hl : logOf F'.bs = faultsTo F.bs s 7 ++ [r] := by
            rw [hj.log (by omega), if_pos hss, hf, hend _ _ _ hs1, show 1 - (1 - s) = s by omega, hfs]
          refine ⟨fun _ => ⟨hS', .inr ⟨1 - s, 2, gen + 1, by rw [List.length_append]; exact hj, by rw [hf]; rfl, ⟨pre', by rw [hl, ← List.append_assoc, ← hA]⟩, ?_⟩⟩, pre', faultsTo F.bs s 7, hA, by omega, .inl hl⟩
          rw [hl, List.length_append, List.length_append, h7]
          omega
        · have hl : logOf F'.bs = faultsTo F.bs s 7 := by
            rw [hj.log (by omega), if_pos hss, hf, show 1 - (1 - s) = s by omega, hfs, List.append_nil]
          exact ⟨fun h => (by rw [hbf] at h; cases h), pre', faultsTo F.bs s 7, hA, by omega, .inr ⟨hbf, hl⟩⟩
end Go.Proofs.YtnjlbgolnbdkaaaGreat
