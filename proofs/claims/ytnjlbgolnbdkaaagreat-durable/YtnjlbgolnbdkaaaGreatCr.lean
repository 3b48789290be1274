/- Durable: what stands at each round. Plain. -/
import Derived.Test.YtnjlbgolnbdkaaaGreatCp
namespace Go.Proofs.YtnjlbgolnbdkaaaGreat
open Go.RowKit

def Ends (al lg : List (Nat → Int)) (pt cd : Int) : Prop := ∃ pre X, al = pre ++ X ∧ min al.length 7 ≤ X.length ∧ (lg = X ∨ ∃ r : Nat → Int, lg = X ++ [r] ∧ r 1 = pt ∧ r 2 = cd ∧ r 3 = (al.length : Int) + 1)
def Dst (al : List (Nat → Int)) (lost : Bool) (pt cd : Int) (s : SF) : Prop := (lost = false ∧ Up ptO ptW s ∧ (s.1.part 0).mode ≠ 3 ∧ Jd al s.2.bs) ∨ (lost = true ∧ Seqs al ∧ Ends al (logOf s.2.bs) pt cd)
theorem Dst.ends {al : List (Nat → Int)} {lost : Bool} {pt cd : Int} {s : SF} (h : Dst al lost pt cd s) : Seqs al ∧ Ends al (logOf s.2.bs) pt cd := by
  rcases h with ⟨-, -, -, h⟩ | ⟨-, h1, h2⟩
  · obtain ⟨⟨pre, he⟩, hm⟩ := h.ends
    exact ⟨h.1, pre, logOf s.2.bs, he, hm, .inl rfl⟩
  · exact ⟨h1, h2⟩
theorem seqs_last {al : List (Nat → Int)} (h : Seqs al) {r : Nat → Int} (hr : al[al.length - 1]? = some r) : r 3 = (al.length : Int) := by
  have := h _ _ hr
  have hl : al.length - 1 < al.length := by
    by_cases e : al.length - 1 < al.length
    · exact e
    · rw [List.getElem?_eq_none (by omega)] at hr
      cases hr
  omega
theorem dur_one {al : List (Nat → Int)} {s : SF} (h : Up ptO ptW s) (hm0 : (s.1.part 0).mode ≠ 3) (hj : Jd al s.2.bs) (hk : al.length + 1 < 2147483648) (i code : Nat) (hi : i < 2) (hc : code ≤ 4) :
    ∃ e s', injectCall i 0 code s = (e, s') ∧
      ((e = 0 ∧ i = 1 ∧ Dst al false i code s' ∧ (logOf s'.2.bs ≠ [] → al ≠ [] ∧ ∃ l q, logOf s'.2.bs = l ++ [q] ∧ q 3 = (al.length : Int))) ∨
       (e = 0 ∧ ∃ l r, logOf s'.2.bs = l ++ [r] ∧ r 3 = (al.length : Int) + 1 ∧ Dst (al ++ [r]) false i code s') ∨
       (e = 6 ∧ Dst al true i code s')) := by
  obtain ⟨s', ⟨e, h1, h2⟩ | ⟨act, e, h1, h2, h3⟩ | ⟨act, pre, X, e, h1, h2, h3⟩⟩ := dur_inj h hm0 hj hk i code hi hc
  · refine ⟨0, s', e, .inl ⟨rfl, h1, ?_, ?_⟩⟩
    · rw [h2]
      exact .inl ⟨rfl, h, hm0, hj⟩
    · rw [h2]
      intro hne
      obtain ⟨⟨pre, he⟩, hm⟩ := hj.ends
      rcases List.eq_nil_or_concat (logOf s.2.bs) with hn | ⟨l, q, hq⟩
      · exact absurd hn hne
      · rw [List.concat_eq_append] at hq
        refine ⟨?_, l, q, hq, ?_⟩
        · intro hn
          rw [hn, hq] at he
          have := congrArg List.length he
          simp at this
        · have hs := hj.1
          rw [he, hq] at hs
          have := hs.last
          rw [this, he, hq]
  · refine ⟨0, s', e, .inr (.inl ⟨rfl, ?_⟩)⟩
    obtain ⟨⟨pre, he⟩, hm⟩ := h3.ends
    have hne : logOf s'.2.bs ≠ [] := by
      intro hn
      rw [hn] at hm
      simp at hm
    rcases List.eq_nil_or_concat (logOf s'.2.bs) with hn | ⟨l, q, hq⟩
    · exact absurd hn hne
    · rw [List.concat_eq_append] at hq
      rw [hq, ← List.append_assoc] at he
      have he2 := List.append_inj' he rfl
      have hqr : recN i code act al.length = q := by
        have := he2.2
        simpa using this
      refine ⟨l, q, hq, by rw [← hqr]; rfl, .inl ⟨rfl, h1, h2, by rw [← hqr]; exact h3⟩⟩
  · refine ⟨6, s', e, .inr (.inr ⟨rfl, .inr ⟨rfl, hj.1, pre, X, h1, h2, ?_⟩⟩)⟩
    rcases h3 with h3 | h3
    · exact .inr ⟨_, h3, rfl, rfl, rfl⟩
    · exact .inl h3
theorem dur_start {base : Nat} {w : World} {kb : Nat} {L : MLay} {g : Nat} {F : Fl} (h : Kp base w kb L g (bootSt (cfD ptO ptW) flN.bs, F)) (hd : F.dead = false) (hb : F.bs = flN.bs) : Dst [] false 0 0 (bootSt (cfD ptO ptW) flN.bs, F) := by
  have hcw := (cw_start 0 (Int.le_refl _)).1
  refine .inl ⟨rfl, ⟨rfl, rfl, hd, h.kn.mo.flok, h.run⟩, ?_, ?_⟩
  · have e : (bootSt (cfD ptO ptW) flN.bs).part 0 = part0 (logOf flN.bs) 0 ptO := by
      exact partsTo_get (logOf flN.bs) (cfD ptO ptW).parts 2 0 (by decide) (by decide)
    show ((bootSt (cfD ptO ptW) flN.bs).part 0).mode ≠ 3
    rw [e, log_N3]
    decide
  · show Jd [] F.bs
    rw [hb]
    refine ⟨fun i r hr => by simp at hr, .inl ⟨rfl, ?_⟩⟩
    rcases hcw with ⟨-, h⟩ | ⟨s, k, gen, h⟩
    · exact h
    · have := h.gens
      omega
end Go.Proofs.YtnjlbgolnbdkaaaGreat
