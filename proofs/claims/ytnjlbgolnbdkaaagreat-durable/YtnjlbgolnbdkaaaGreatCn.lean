/- The keeper's sameLog, piece. -/
import Derived.Test.YtnjlbgolnbdkaaaGreatCm
namespace Go.Proofs.YtnjlbgolnbdkaaaGreat
open Go.RowKit

def Lies (w : World) (ao : Option Addr) (l : List (Nat → Int)) : Prop := ∀ i r, l[i]? = some r → ∃ g o, ao = some ⟨g, o, none⟩ ∧ w.cell? ⟨g, o + i * 5, none⟩ = some (.int .i64 (r 0)) ∧ w.cell? ⟨g, o + i * 5 + 1, none⟩ = some (.int .i64 (r 1)) ∧ w.cell? ⟨g, o + i * 5 + 2, none⟩ = some (.int .i64 (r 2)) ∧ w.cell? ⟨g, o + i * 5 + 3, none⟩ = some (.int .i64 (r 3)) ∧ w.cell? ⟨g, o + i * 5 + 4, none⟩ = some (.int .i64 (r 4))
theorem RecsV.lies {base : Nat} {v : Value} {l : List (Nat → Int)} {w : World} (h : RecsV base v l w) : ∃ ad c, v = .slice ad l.length c ∧ Lies w ad l := by
  obtain ⟨ad, c, hv, hr⟩ := recs_read h
  refine ⟨ad, c, hv, fun i r hi => ?_⟩
  obtain ⟨g, hg, h0⟩ := hr i r hi
  exact ⟨g, 0, hg, by simpa only [Nat.zero_add] using h0⟩
set_option maxHeartbeats 1000000 in
theorem ksameLog_yes (a1 a2 : Option Addr) (c1 c2 : Nat) (l : List (Nat → Int)) (w : World) (hm : l.length ≤ 1000000) (h1 : Lies w a1 l) (h2 : Lies w a2 l) :
    Calls Tryz.prog 43 #[.slice a1 l.length c1, .slice a2 l.length c2] w fun e w' => e = .returned (.bool true) ∧ Below w.heap.size w w' := by
  have H1 := hide h1
  have H2 := hide h2
  clear h1 h2
  obtain ⟨n, hn⟩ : ∃ n, n = l.length := ⟨_, rfl⟩
  rw [← hn] at hm ⊢
  have HN := hide hn
  clear hn
  have heq : ((n : Int) == (n : Int)) = true := by simp
  go_enter Tryz.func43, Tryz.ntmps43
  go_wp2_with fail
  go_loopw [5] (fun t wr => ∃ k q : Nat, k ≤ n ∧ t = .int .i64 k ∧ wr = w.drewN q) (fun t _ => n - (intOf t).toNat)
  case atStart => exact ⟨0, 0, by omega, rfl, rfl⟩
  case round =>
    obtain ⟨k, q, hk, rfl, rfl⟩ := hrel
    by_cases hlt : k < n
    · obtain ⟨r, hr⟩ : ∃ r, l[k]? = some r := ⟨l[k]'(by have := HN.out; omega), List.getElem?_eq_getElem _⟩
      obtain ⟨g1, o1, e1, x0, x1, x2, x3, x4⟩ := H1.out k r hr
      obtain ⟨g2, o2, e2, y0, y1, y2, y3, y4⟩ := H2.out k r hr
      subst e1
      subst e2
      clear hr
      generalize r 0 = r0 at *
      generalize r 1 = r1 at *
      generalize r 2 = r2 at *
      generalize r 3 = r3 at *
      generalize r 4 = r4 at *
      go_wp2_with fail
      go_quiet (fail)
      go_wp2
      exact ⟨⟨k + 1, q + nq, by omega, by go_num, rfl⟩, by simp [intOf]; omega⟩
    · obtain rfl : k = n := by omega
      have HB : Hid (Below w.heap.size w (w.drewN q)) := below_drewN (Below.refl _ _) q
      go_wp2
      go_ret
      exact ⟨rfl, HB.out⟩
set_option maxHeartbeats 1000000 in
theorem ksameLog_no (a1 a2 : Option Addr) (n c1 c2 : Nat) (l1 l2 : List (Nat → Int)) (r s : Nat → Int) (w : World) (hm : 1 ≤ n ∧ n ≤ 1000000) (h1 : Lies w a1 l1) (h2 : Lies w a2 l2) (hr : l1[0]? = some r) (hs : l2[0]? = some s) (hne : r 3 ≠ s 3) :
    Calls Tryz.prog 43 #[.slice a1 n c1, .slice a2 n c2] w fun e w' => e = .returned (.bool false) ∧ Below w.heap.size w w' := by
  obtain ⟨g1, o1, e1, x0, x1, x2, x3, x4⟩ := h1 0 r hr
  obtain ⟨g2, o2, e2, y0, y1, y2, y3, y4⟩ := h2 0 s hs
  subst e1
  subst e2
  clear hr hs h1 h2
  simp only [Nat.zero_mul, Nat.add_zero] at x0 x1 x2 x3 x4 y0 y1 y2 y3 y4
  have heq : ((n : Int) == (n : Int)) = true := by simp
  have hd : decide ((0 : Int) < (n : Nat)) = true := by simp; omega
  generalize r 0 = r0 at *
  generalize r 1 = r1 at *
  generalize r 2 = r2 at *
  generalize r 3 = r3 at *
  generalize r 4 = r4 at *
  generalize s 0 = s0 at *
  generalize s 1 = s1 at *
  generalize s 2 = s2 at *
  generalize s 3 = s3 at *
  generalize s 4 = s4 at *
  have hne2 : (r3 == s3) = false := by simpa using hne
  go_enter Tryz.func43, Tryz.ntmps43
  go_wp2_with fail
  go_loopw [5] (fun t wr => t = .int .i64 0 ∧ wr = w) (fun t _ => 1 - (intOf t).toNat)
  case atStart => exact ⟨rfl, rfl⟩
  case round =>
    obtain ⟨rfl, rfl⟩ := hrel
    go_wp2_with fail
    go_quiet (fail)
    have HB : Hid (Below wr.heap.size wr (wr.drewN nq)) := below_drewN (Below.refl _ _) nq
    go_wp2
    go_ret
    exact ⟨rfl, HB.out⟩
theorem Lies.take {w : World} {ao : Option Addr} {l : List (Nat → Int)} (h : Lies w ao l) (k : Nat) : Lies w ao (l.take k) := fun i r hi => by
  rw [List.getElem?_take] at hi
  split at hi
  · exact h i r hi
  · cases hi
theorem Lies.drop {w : World} {ao : Option Addr} {l : List (Nat → Int)} (h : Lies w ao l) (k c : Nat) (hc : l.length ≤ c) : Lies w (if c = k then ao else ao.map (·.add (k * 5))) (l.drop k) := fun i r hi => by
  rw [List.getElem?_drop] at hi
  have hlt : k + i < l.length := by
    by_cases e : k + i < l.length
    · exact e
    · rw [List.getElem?_eq_none (by omega)] at hi
      cases hi
  rw [if_neg (by omega)]
  obtain ⟨g, o, e, x0, x1, x2, x3, x4⟩ := h (k + i) r hi
  have hx : o + (k + i) * 5 = o + k * 5 + i * 5 := by omega
  rw [hx] at x0 x1 x2 x3 x4
  subst e
  exact ⟨g, o + k * 5, by simp [Addr.add], x0, x1, x2, x3, x4⟩
theorem Lies.below {w w' : World} {ao : Option Addr} {l : List (Nat → Int)} (h : Lies w ao l) (hb : Below w.heap.size w w') : Lies w' ao l := fun i r hi => by
  obtain ⟨g, o, e, x0, x1, x2, x3, x4⟩ := h i r hi
  have hl := lt_of_cell x0
  have hx : ∀ j, w'.cell? ⟨g, j, none⟩ = w.cell? ⟨g, j, none⟩ := fun j => hb.cell (p := ⟨g, j, none⟩) hl
  exact ⟨g, o, e, (hx _).trans x0, (hx _).trans x1, (hx _).trans x2, (hx _).trans x3, (hx _).trans x4⟩
end Go.Proofs.YtnjlbgolnbdkaaaGreat
