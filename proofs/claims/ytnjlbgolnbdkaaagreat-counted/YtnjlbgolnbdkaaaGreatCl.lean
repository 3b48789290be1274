/- Counted and Durable: what a fault from outside does. Plain. -/
import Derived.Test.YtnjlbgolnbdkaaaGreatCk
namespace Go.Proofs.YtnjlbgolnbdkaaaGreat
open Go.RowKit

structure Up (p q : Pt) (s : SF) : Prop where
  cf : s.1.cf = cfD p q
  dead : s.1.dead = false
  fdead : s.2.dead = false
  ok : FlOk s.2
  run : SRun s
theorem Up.len {p q : Pt} {s : SF} (h : Up p q s) : s.1.parts.length = 2 := by rw [h.run.2.len, h.cf]; rfl
theorem Up.procs {p q : Pt} {s : SF} (h : Up p q s) (hp : p.procs.length = 1) (hq : q.procs.length = 1) (i : Nat) (hi : i < 2) : (s.1.part i).procs.length = 1 := by
  have := (h.run.2.part i (by rw [h.len]; exact hi)).2
  rw [h.cf] at this
  obtain rfl | rfl : i = 0 ∨ i = 1 := by omega
  · exact this.trans hp
  · exact this.trans hq
def Cw (n : Int) (c : Nat) (r : Int) (bs : List Int) : Prop := Jh c bs ∧ r ≤ restartsOf bs 0 ∧ restartsOf bs 0 ≤ n
def ptC (n : Int) (ta : Int) : Pt := ptK n [ta, ta, ta, ta, ta] [0, 10] []
def ptO : Pt := ptK 9 [] [] []
theorem ptC_acts (n : Int) (ta : Int) (ht : ta = 3 ∨ ta = 4) (code : Nat) (hc : code ≤ 4) : (ptC n ta).acts.getD code 0 = ta + 1 := by
  have h : ∀ k : Fin 5, (actsK [3, 3, 3, 3, 3] 6).getD k.1 0 = 3 + 1 ∧ (actsK [4, 4, 4, 4, 4] 6).getD k.1 0 = 4 + 1 := by decide +kernel
  rcases ht with rfl | rfl
  · exact (h ⟨code, by omega⟩).1
  · exact (h ⟨code, by omega⟩).2
theorem ptO_acts (code : Nat) (hc : code ≤ 4) : ptO.acts.getD code 0 = 1 := by
  have h : ∀ k : Fin 5, (actsK [] 6).getD k.1 0 = 1 := by decide +kernel
  exact h ⟨code, by omega⟩
theorem ptC_still (n ta : Int) : Still (ptC n ta) := by
  have h : ∀ r ∈ (ptK 0 [] [0, 10] []).procs, ∀ x ∈ r.code, x.1 = 0 ∨ x.1 = 1 ∨ x.1 = 4 := by decide +kernel
  exact h
theorem ptO_still : Still ptO := by
  have h : ∀ r ∈ (ptK 9 [] [] []).procs, ∀ x ∈ r.code, x.1 = 0 ∨ x.1 = 1 ∨ x.1 = 4 := by decide +kernel
  exact h
theorem Jh.mono {c c' : Nat} {bs : List Int} (h : Jh c bs) (hc : c ≤ c') : Jh c' bs := by
  rcases h with h | ⟨s, k, gen, h⟩
  · exact .inl h
  · exact .inr ⟨s, k, gen, h.mono hc⟩
theorem rnext_six (p part r : Int) : rnext p part 6 r = r := by unfold rnext; simp
theorem rnext_one (p part r : Int) : rnext p part 1 r = r := by unfold rnext; simp
theorem rnext_up (p ta r : Int) (ht : ta = 3 ∨ ta = 4) (hr : r < 255) : rnext p p (ta + 1) r = r + 1 := by
  unfold rnext
  rcases ht with rfl | rfl <;> simp [hr]
theorem act_mode (st : RSt) (i n : Nat) (ta : Int) (hi : i < st.parts.length) (ht : ta = 3 ∨ ta = 4) : ((st.act i n (ta + 1)).part i).mode = 5 - ta := by
  rcases ht with rfl | rfl
  · show ((st.setPart i (restartP 2 st.now (st.part i))).part i).mode = _
    rw [setPart_part st i _ hi i, if_pos rfl]
    rfl
  · show ((st.setPart i (restartP 1 st.now (st.part i))).part i).mode = _
    rw [setPart_part st i _ hi i, if_pos rfl]
    rfl
theorem act_idle (st : RSt) (i n : Nat) (hi : i < st.parts.length) : ((st.act i n 6).part i).mode = 3 := by
  show ((st.setPart i { st.part i with mode := 3 }).part i).mode = _
  rw [setPart_part st i _ hi i, if_pos rfl]
theorem count_first {n r ta : Int} {k : Nat} {s : SF} (h : Up (ptC n ta) ptO s) (hw : Cw n k r s.2.bs) (ht : ta = 3 ∨ ta = 4) (hn : n ≤ 9) (hk : k + 1 < 2147483648) (code : Nat) (hc : code ≤ 4) :
    ∃ s', (injectCall 0 0 code s = (0, s') ∧ Up (ptC n ta) ptO s' ∧ Cw n (k + 1) (if (s.1.part 0).mode ≠ 3 ∧ (s'.1.part 0).mode = 5 - ta then r + 1 else r) s'.2.bs) ∨ (injectCall 0 0 code s = (6, s') ∧ Cw n (k + 1) r s'.2.bs ∧ s'.1.parts.length = 2) := by
  have hl := h.len
  have hg : injectCall 0 0 code s = _ := inject_gen s 0 code (by omega) (h.procs rfl rfl 0 (by omega)) hc h.dead
  have htk := injectCall_tk 0 0 code s h.run
  obtain ⟨hj, hr1, hr2⟩ := hw
  by_cases hm : (s.1.part 0).mode = 3
  · rw [if_pos hm] at hg
    exact ⟨s, .inl ⟨hg, h, by rw [if_neg (fun x => x.1 hm)]; exact ⟨hj.mono (by omega), hr1, hr2⟩⟩⟩
  · rw [if_neg hm] at hg
    have ha : actionOf s.1 s.2.bs 0 code = if n ≤ restartsOf s.2.bs 0 then 6 else ta + 1 := by
      have hcp : s.1.cpart 0 = ptC n ta := by unfold RSt.cpart; rw [h.cf]; rfl
      unfold actionOf
      rw [hcp, ptC_acts n ta ht code hc, show (ptC n ta).limit = n from rfl]
      by_cases hx : n ≤ restartsOf s.2.bs 0
      · rw [if_pos ⟨by omega, hx⟩, if_pos hx]
      · rw [if_neg (fun q => hx q.2), if_neg hx]
    obtain ⟨a, hae⟩ : ∃ a, a = actionOf s.1 s.2.bs 0 code := ⟨_, rfl⟩
    rw [← hae] at hg ha
    have har : 0 ≤ a ∧ a < 256 := by rw [ha]; split <;> omega
    obtain ⟨b, F', e, ok', d', j', cnt⟩ := app_any h.ok h.fdead hj hk 0 code a (by omega) har
    have e' : s.2.app ((0 : Nat) : Int) code a = (b, F') := e
    rw [e'] at hg
    have hrn : rnext ((0 : Nat) : Int) ((0 : Nat) : Int) a (restartsOf s.2.bs 0) = if n ≤ restartsOf s.2.bs 0 then restartsOf s.2.bs 0 else restartsOf s.2.bs 0 + 1 := by
      rw [ha]
      split
      · exact rnext_six _ _ _
      · exact rnext_up _ ta _ ht (by omega)
    cases b with
    | false =>
      refine ⟨_, .inr ⟨hg, ⟨j', ?_⟩, ?_⟩⟩
      · rcases cnt with cnt | ⟨-, cnt⟩
        · have := cnt 0 (by omega)
          rw [hrn] at this
          show r ≤ restartsOf F'.bs 0 ∧ restartsOf F'.bs 0 ≤ n
          rw [this]
          split <;> omega
        · have := cnt 0 (by omega)
          show r ≤ restartsOf F'.bs 0 ∧ restartsOf F'.bs 0 ≤ n
          rw [this]
          omega
      · exact hl
    | true =>
      have cn : restartsOf F'.bs 0 = if n ≤ restartsOf s.2.bs 0 then restartsOf s.2.bs 0 else restartsOf s.2.bs 0 + 1 := by
        rcases cnt with cnt | ⟨hb, -⟩
        · rw [cnt 0 (by omega), hrn]
        · cases hb
      rw [hg] at htk
      refine ⟨_, .inl ⟨hg, ⟨htk.cf.trans h.cf, rfl, d', ok', htk.run⟩, j', ?_⟩⟩
      show (if (s.1.part 0).mode ≠ 3 ∧ ((s.1.act 0 0 a).part 0).mode = 5 - ta then r + 1 else r) ≤ restartsOf F'.bs 0 ∧ restartsOf F'.bs 0 ≤ n
      rw [cn, ha]
      by_cases hx : n ≤ restartsOf s.2.bs 0
      · rw [if_pos hx, if_pos hx, act_idle s.1 0 0 (by omega), if_neg (fun q => by omega)]
        omega
      · rw [if_neg hx, if_neg hx, act_mode s.1 0 0 ta (by omega) ht, if_pos ⟨hm, rfl⟩]
        omega
theorem count_second {n r ta : Int} {k : Nat} {s : SF} (h : Up (ptC n ta) ptO s) (hw : Cw n k r s.2.bs) (hk : k + 1 < 2147483648) :
    ∃ s', (injectCall 1 0 0 s = (0, s') ∧ Up (ptC n ta) ptO s' ∧ Cw n (k + 1) r s'.2.bs) ∨ (injectCall 1 0 0 s = (6, s') ∧ Cw n (k + 1) r s'.2.bs ∧ s'.1.parts.length = 2) := by
  have hl := h.len
  have hg : injectCall 1 0 0 s = _ := inject_gen s 1 0 (by omega) (h.procs rfl rfl 1 (by omega)) (by omega) h.dead
  have htk := injectCall_tk 1 0 0 s h.run
  obtain ⟨hj, hr1, hr2⟩ := hw
  by_cases hm : (s.1.part 1).mode = 3
  · rw [if_pos hm] at hg
    exact ⟨s, .inl ⟨hg, h, hj.mono (by omega), hr1, hr2⟩⟩
  · rw [if_neg hm] at hg
    have ha : actionOf s.1 s.2.bs 1 0 = 1 := by
      have hcp : s.1.cpart 1 = ptO := by unfold RSt.cpart; rw [h.cf]; rfl
      unfold actionOf
      rw [hcp, ptO_acts 0 (by omega), if_neg (fun q => by omega)]
    rw [ha] at hg
    obtain ⟨b, F', e, ok', d', j', cnt⟩ := app_any h.ok h.fdead hj hk 1 0 1 (by omega) (by omega)
    have e' : s.2.app ((1 : Nat) : Int) ((0 : Nat) : Int) 1 = (b, F') := e
    rw [e'] at hg
    have cn : restartsOf F'.bs 0 = restartsOf s.2.bs 0 := by
      rcases cnt with cnt | ⟨-, cnt⟩
      · rw [cnt 0 (by omega), rnext_one]
      · exact cnt 0 (by omega)
    cases b with
    | false => exact ⟨_, .inr ⟨hg, ⟨j', by show r ≤ restartsOf F'.bs 0; omega, by show restartsOf F'.bs 0 ≤ n; omega⟩, hl⟩⟩
    | true =>
      rw [hg] at htk
      exact ⟨_, .inl ⟨hg, ⟨htk.cf.trans h.cf, rfl, d', ok', htk.run⟩, j', by show r ≤ restartsOf F'.bs 0; omega, by show restartsOf F'.bs 0 ≤ n; omega⟩⟩
def ptW : Pt := ptK 9 [3, 4] [] []
theorem ptW_acts (code : Nat) (hc : code ≤ 4) : 1 ≤ ptW.acts.getD code 0 ∧ ptW.acts.getD code 0 ≤ 5 := by
  have h : ∀ k : Fin 5, 1 ≤ (actsK [3, 4] 6).getD k.1 0 ∧ (actsK [3, 4] 6).getD k.1 0 ≤ 5 := by decide +kernel
  exact h ⟨code, by omega⟩
theorem act_first (st : RSt) (n : Nat) (a : Int) (hl : st.parts.length = 2) (ha : a ≤ 6) : (st.act 1 n a).part 0 = st.part 0 := by
  have key : ∀ p, (st.setPart 1 p).part 0 = st.part 0 := fun p => by rw [setPart_part st 1 p (by omega) 0, if_neg (by omega)]
  unfold RSt.act
  split
  · exact key _
  · split
    · exact key _
    · split
      · exact key _
      · split
        · exact key _
        · split
          · exact key _
          · rw [if_neg (by omega)]
theorem dur_inj {all : List (Nat → Int)} {s : SF} (h : Up ptO ptW s) (hm0 : (s.1.part 0).mode ≠ 3) (hj : Jd all s.2.bs) (hk : all.length + 1 < 2147483648) (i code : Nat) (hi : i < 2) (hc : code ≤ 4) :
    ∃ s', (injectCall i 0 code s = (0, s') ∧ i = 1 ∧ s' = s) ∨
      (∃ act, injectCall i 0 code s = (0, s') ∧ Up ptO ptW s' ∧ (s'.1.part 0).mode ≠ 3 ∧ Jd (all ++ [recN i code act all.length]) s'.2.bs) ∨
      (∃ act pre X, injectCall i 0 code s = (6, s') ∧ all = pre ++ X ∧ min all.length 7 ≤ X.length ∧ (logOf s'.2.bs = X ++ [recN i code act all.length] ∨ logOf s'.2.bs = X)) := by
  have hl := h.len
  have hg := inject_gen s i code (by omega) (h.procs rfl rfl i hi) hc h.dead
  have htk := injectCall_tk i 0 code s h.run
  by_cases hm : (s.1.part i).mode = 3
  · rw [if_pos hm] at hg
    refine ⟨s, .inl ⟨hg, ?_, rfl⟩⟩
    by_cases e : i = 0
    · subst e
      exact absurd hm hm0
    · omega
  · rw [if_neg hm] at hg
    have ha : 1 ≤ actionOf s.1 s.2.bs i code ∧ actionOf s.1 s.2.bs i code ≤ 6 ∧ (i = 0 → actionOf s.1 s.2.bs i code = 1) := by
      unfold actionOf
      obtain rfl | rfl : i = 0 ∨ i = 1 := by omega
      · have hcp : s.1.cpart 0 = ptO := by unfold RSt.cpart; rw [h.cf]; rfl
        rw [hcp, ptO_acts code hc, if_neg (fun q => by omega)]
        omega
      · have hcp : s.1.cpart 1 = ptW := by unfold RSt.cpart; rw [h.cf]; rfl
        have := ptW_acts code hc
        rw [hcp]
        split <;> omega
    generalize actionOf s.1 s.2.bs i code = a at *
    obtain ⟨b, F', e, ok', d', hyes, pre, X, hX1, hX2, hX3⟩ := app_log h.ok h.fdead hj hk i code a (by omega) (by omega) (by omega)
    rw [e] at hg
    cases b with
    | false => exact ⟨_, .inr (.inr ⟨a, pre, X, hg, hX1, hX2, hX3.imp id And.right⟩)⟩
    | true =>
      rw [hg] at htk
      refine ⟨_, .inr (.inl ⟨a, hg, ⟨htk.cf.trans h.cf, rfl, d', ok', htk.run⟩, ?_, hyes rfl⟩)⟩
      show ((s.1.act i 0 a).part 0).mode ≠ 3
      obtain rfl | rfl : i = 0 ∨ i = 1 := by omega
      · rw [ha.2.2 rfl]
        exact hm0
      · rw [act_first s.1 0 a hl ha.2.1]
        exact hm0
end Go.Proofs.YtnjlbgolnbdkaaaGreat
