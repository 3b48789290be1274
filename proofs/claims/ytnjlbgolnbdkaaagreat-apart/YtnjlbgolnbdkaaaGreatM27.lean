/- Texts of the proof of Apart, one behind the other. -/
import Derived.Test.YtnjlbgolnbdkaaaGreatM26
/- The flash's slots, and what is laid and erased while the power holds. Plain. -/
namespace Go.Proofs.YtnjlbgolnbdkaaaGreat
open Go.RowKit

theorem getD_set (l : List Int) (i j : Nat) (v : Int) (hi : i < l.length) : (l.set i v).getD j 0 = if j = i then v else l.getD j 0 := by
  rw [List.getD_eq_getElem?_getD, List.getD_eq_getElem?_getD, List.getElem?_set]
  by_cases h : i = j
  · subst h
    simp [hi]
  · rw [if_neg h, if_neg (by omega)]
theorem band_full (v : Int) (h : 0 ≤ v ∧ v ≤ 255) : band8 255 v = v := by
  have h1 : ∀ q : Fin 256, band8 255 ((q.1 : Nat) : Int) = ((q.1 : Nat) : Int) := by decide +kernel
  obtain ⟨n, rfl⟩ := Int.eq_ofNat_of_zero_le h.1
  exact h1 ⟨n, by omega⟩
theorem prog_live {F : Fl} (h : Live F) (a : Nat) (v : Int) : ∃ F', F.prog a v = (true, F') ∧ Live F' ∧ F'.bs = F.bs.set a (band8 (F.bs.getD a 0) v) := by
  refine ⟨_, Prod.ext (h.prog a v).1 rfl, (h.prog a v).2, ?_⟩
  unfold Fl.prog
  rw [if_neg (by rw [h.dead]; simp), if_neg (by rw [h.left]; decide)]
  rfl
/- bytes laid one behind the other on what is blank -/
theorem layTo_live {F : Fl} (h : Live F) (hl : F.bs.length = 256) (a : Nat) (sl : List Int) (ha : a + 16 ≤ 256) (hb : ∀ j, j < 16 → F.bs.getD (a + j) 0 = 255) (hs : Bytes sl) (n : Nat) (hn : n ≤ 15) :
    ∃ F', loopB (fun k F => F.prog (a + (k + 1)) (sl.getD (k + 1) 0)) n F = (true, F') ∧ Live F' ∧ F'.bs.length = 256 ∧ ∀ j, F'.bs.getD j 0 = if a + 1 ≤ j ∧ j < a + 1 + n then sl.getD (j - a) 0 else F.bs.getD j 0 := by
  induction n with
  | zero => exact ⟨F, rfl, h, hl, fun j => by rw [if_neg (by omega)]⟩
  | succ n ih =>
    obtain ⟨F1, e1, h1, l1, g1⟩ := ih (by omega)
    obtain ⟨F2, e2, h2, b2⟩ := prog_live h1 (a + (n + 1)) (sl.getD (n + 1) 0)
    refine ⟨F2, ?_, h2, by rw [b2, List.length_set, l1], fun j => ?_⟩
    · show andB (loopB _ n F) _ = _
      rw [e1, andB_yes]
      exact e2
    · have hx := hs.getD (n + 1)
      rw [b2, getD_set _ _ _ _ (by rw [l1]; omega), g1 (a + (n + 1)), if_neg (show ¬ (a + 1 ≤ a + (n + 1) ∧ a + (n + 1) < a + 1 + n) by omega), hb (n + 1) (by omega), band_full _ (by omega), g1 j]
      by_cases e : j = a + (n + 1)
      · subst e
        rw [if_pos rfl, if_pos (by omega), show a + (n + 1) - a = n + 1 by omega]
      · rw [if_neg e]
        by_cases e2 : a + 1 ≤ j ∧ j < a + 1 + n
        · rw [if_pos e2, if_pos (by omega)]
        · rw [if_neg e2, if_neg (by omega)]
theorem lay_live {F : Fl} (h : Live F) (hl : F.bs.length = 256) (a : Nat) (sl : List Int) (ha : a + 16 ≤ 256) (hb : ∀ j, j < 16 → F.bs.getD (a + j) 0 = 255) (hs : Bytes sl) :
    ∃ F', F.lay a sl = (true, F') ∧ Live F' ∧ F'.bs.length = 256 ∧ ∀ j, F'.bs.getD j 0 = if a ≤ j ∧ j < a + 16 then sl.getD (j - a) 0 else F.bs.getD j 0 := by
  obtain ⟨F1, e1, h1, l1, g1⟩ := layTo_live h hl a sl ha hb hs 15 (Nat.le_refl _)
  obtain ⟨F2, e2, h2, b2⟩ := prog_live h1 a (sl.getD 0 0)
  refine ⟨F2, ?_, h2, by rw [b2, List.length_set, l1], fun j => ?_⟩
  · unfold Fl.lay
    rw [e1, andB_yes, e2]
  · have hx := hs.getD 0
    have h0 := hb 0 (by omega)
    rw [Nat.add_zero] at h0
    rw [b2, getD_set _ _ _ _ (by rw [l1]; omega), g1 a, if_neg (show ¬ (a + 1 ≤ a ∧ a < a + 1 + 15) by omega), h0, band_full _ (by omega), g1 j]
    by_cases e : j = a
    · subst e
      rw [if_pos rfl, if_pos (by omega), Nat.sub_self]
    · rw [if_neg e]
      by_cases e2 : a + 1 ≤ j ∧ j < a + 1 + 15
      · rw [if_pos e2, if_pos (by omega)]
      · rw [if_neg e2, if_neg (by omega)]
theorem eraTo_len (f : Int → Int) (a : Nat) (bs : List Int) (k : Nat) : (eraTo f a bs k).length = bs.length := by
  induction k with
  | zero => rfl
  | succ k ih => show ((eraTo f a bs k).set _ _).length = _; rw [List.length_set, ih]
theorem eraTo_get (f : Int → Int) (a : Nat) (bs : List Int) (k : Nat) (hk : a + k ≤ bs.length) (j : Nat) : (eraTo f a bs k).getD j 0 = if a ≤ j ∧ j < a + k then f (bs.getD j 0) else bs.getD j 0 := by
  induction k generalizing j with
  | zero => rw [if_neg (by omega)]; rfl
  | succ k ih =>
    show ((eraTo f a bs k).set (a + k) _).getD j 0 = _
    rw [getD_set _ _ _ _ (by rw [eraTo_len]; omega)]
    by_cases e : j = a + k
    · subst e
      rw [if_pos rfl, if_pos (by omega), ih (by omega), if_neg (by omega)]
    · rw [if_neg e, ih (by omega)]
      by_cases e2 : a ≤ j ∧ j < a + k
      · rw [if_pos e2, if_pos (by omega)]
      · rw [if_neg e2, if_neg (by omega)]
theorem erase_live {F : Fl} (h : Live F) (hl : F.bs.length = 256) (s : Nat) (hs : s < 2) :
    ∃ F', F.erase s = (true, F') ∧ Live F' ∧ F'.bs.length = 256 ∧ ∀ j, F'.bs.getD j 0 = if 128 * s ≤ j ∧ j < 128 * s + 128 then 255 else F.bs.getD j 0 := by
  have hb : (F.erase s).2.bs = eraTo (fun _ => 255) (128 * s) F.bs 128 := by
    unfold Fl.erase
    generalize eraTo (fun x => bor8 x F.res) (128 * s) F.bs 128 = A
    generalize eraTo (fun _ => 255) (128 * s) F.bs 128 = B
    rw [if_neg (by rw [h.dead]; simp), if_neg (by rw [h.left]; decide)]
    rfl
  refine ⟨_, Prod.ext (h.erase s).1 rfl, (h.erase s).2, by rw [hb, eraTo_len, hl], fun j => ?_⟩
  rw [hb, eraTo_get _ _ _ _ (by rw [hl]; omega)]
/- the slots -/
theorem slotB_map (bs : List Int) (hl : bs.length = 256) (s i : Nat) (hs : s < 2) (hi : i < 8) : slotB bs s i = (List.range 16).map fun j => bs.getD (128 * s + 16 * i + j) 0 := by
  apply List.ext_getElem
  · simp [slotB, hl]
    omega
  · intro j h1 h2
    simp only [List.length_map, List.length_range] at h2
    simp [slotB, List.getD_eq_getElem?_getD, show 128 * s + 16 * i + j < bs.length by omega]
def blank : List Int := List.replicate 16 255
theorem list_map16 (sl : List Int) (h : sl.length = 16) : (List.range 16).map (fun j => sl.getD j 0) = sl := by
  apply List.ext_getElem
  · simp [h]
  · intro j h1 h2
    simp only [List.length_map, List.length_range] at h1
    simp [List.getD_eq_getElem?_getD, show j < sl.length by omega]
theorem blank_map : (List.range 16).map (fun _ => (255 : Int)) = blank := by decide
theorem blank_get {bs : List Int} (hl : bs.length = 256) {s i : Nat} (hs : s < 2) (hi : i < 8) (h : slotB bs s i = blank) (j : Nat) (hj : j < 16) : bs.getD (128 * s + 16 * i + j) 0 = 255 := by
  rw [slotB_map bs hl s i hs hi] at h
  have h1 : ((List.range 16).map fun j => bs.getD (128 * s + 16 * i + j) 0)[j]? = blank[j]? := by rw [h]
  have h2 : blank[j]? = some 255 := by unfold blank; rw [List.getElem?_replicate, if_pos hj]
  rw [h2] at h1
  simpa [hj] using h1
theorem slot_laid {bs bs' : List Int} (hl : bs.length = 256) (hl' : bs'.length = 256) {s i : Nat} (hs : s < 2) (hi : i < 8) {sl : List Int} (hsl : sl.length = 16)
    (hg : ∀ j, bs'.getD j 0 = if 128 * s + 16 * i ≤ j ∧ j < 128 * s + 16 * i + 16 then sl.getD (j - (128 * s + 16 * i)) 0 else bs.getD j 0) (s' i' : Nat) (hs' : s' < 2) (hi' : i' < 8) : slotB bs' s' i' = if s' = s ∧ i' = i then sl else slotB bs s' i' := by
  rw [slotB_map bs' hl' s' i' hs' hi']
  by_cases e : s' = s ∧ i' = i
  · rw [if_pos e]
    obtain ⟨rfl, rfl⟩ := e
    conv => rhs; rw [← list_map16 sl hsl]
    apply List.map_congr_left
    intro j hj
    have := List.mem_range.1 hj
    rw [hg, if_pos (by omega), show 128 * s' + 16 * i' + j - (128 * s' + 16 * i') = j by omega]
  · rw [if_neg e, slotB_map bs hl s' i' hs' hi']
    apply List.map_congr_left
    intro j hj
    have := List.mem_range.1 hj
    rw [hg, if_neg (by omega)]
theorem slot_erased {bs bs' : List Int} (hl : bs.length = 256) (hl' : bs'.length = 256) {s : Nat}
    (hg : ∀ j, bs'.getD j 0 = if 128 * s ≤ j ∧ j < 128 * s + 128 then 255 else bs.getD j 0) (s' i' : Nat) (hs' : s' < 2) (hi' : i' < 8) : slotB bs' s' i' = if s' = s then blank else slotB bs s' i' := by
  rw [slotB_map bs' hl' s' i' hs' hi']
  by_cases e : s' = s
  · rw [if_pos e, ← blank_map]
    apply List.map_congr_left
    intro j hj
    have := List.mem_range.1 hj
    rw [hg, if_pos (by omega)]
  · rw [if_neg e, slotB_map bs hl s' i' hs' hi']
    apply List.map_congr_left
    intro j hj
    have := List.mem_range.1 hj
    rw [hg, if_neg (by omega)]
end Go.Proofs.YtnjlbgolnbdkaaaGreat
/- The journal while the power holds: what an append makes of the counts. Plain. -/
namespace Go.Proofs.YtnjlbgolnbdkaaaGreat
open Go.RowKit

def rnext (p part act r : Int) : Int := if (part == p && (act == 4 || act == 5) && decide (r < 255)) = true then r + 1 else r
structure Jn (c : Nat) (bs : List Int) (s k gen : Nat) : Prop where
  len : bs.length = 256
  s2 : s < 2
  k8 : 1 ≤ k ∧ k ≤ 8
  gens : 1 ≤ gen ∧ gen ≤ c
  head : ∃ cnt, (0 ≤ cnt ∧ cnt < 4294967296) ∧ slotB bs s 0 = slotOf 2 0 0 gen cnt
  recs : ∀ i, 1 ≤ i → i < k → ∃ p cd q a, slotB bs s i = slotOf 1 p cd q a
  rest : ∀ i, k ≤ i → i < 8 → slotB bs s i = blank
  other : headB bs (1 - s) = false ∨ (headB bs (1 - s) = true ∧ genB bs (1 - s) = (gen : Int) - 1)
def Jl (c : Nat) (bs : List Int) : Prop := (bs.length = 256 ∧ ∀ s i, s < 2 → i < 8 → slotB bs s i = blank) ∨ ∃ s k gen, Jn c bs s k gen
theorem blank_kind : sortKind blank = 0 := by decide
theorem kind_good {bs : List Int} {s i : Nat} {a b d e f : Int} (h : slotB bs s i = slotOf a b d e f) : kindAt bs s i = 3 := by unfold kindAt; rw [h]; exact slotOf_kind a b d e f
theorem rec_good {bs : List Int} {s i : Nat} {a b d e f : Int} (h : slotB bs s i = slotOf a b d e f) (j : Nat) : recOf bs s i j = match j with | 0 => a % 256 | 1 => b % 256 | 2 => d % 256 | 3 => e % 4294967296 | _ => f % 4294967296 := by unfold recOf; rw [h]; exact slotOf_rec a b d e f j
theorem kind_blank {bs : List Int} {s i : Nat} (h : slotB bs s i = blank) : kindAt bs s i = 0 := by unfold kindAt; rw [h]; exact blank_kind
theorem head_congr {bs bs' : List Int} {s : Nat} (h : slotB bs' s 0 = slotB bs s 0) : headB bs' s = headB bs s ∧ genB bs' s = genB bs s ∧ argB bs' s = argB bs s := by
  unfold headB genB argB kindAt recOf
  rw [h]
  exact ⟨rfl, rfl, rfl⟩
theorem head_blank {bs : List Int} {s : Nat} (h : slotB bs s 0 = blank) : headB bs s = false := by
  unfold headB
  rw [kind_blank h]
  rfl
theorem head_good {bs : List Int} {s : Nat} {gen cnt : Int} (h : slotB bs s 0 = slotOf 2 0 0 gen cnt) : headB bs s = true ∧ genB bs s = gen % 4294967296 ∧ argB bs s = cnt % 4294967296 := by
  unfold headB genB argB
  rw [kind_good h, rec_good h, rec_good h, rec_good h]
  exact ⟨rfl, rfl, rfl⟩
theorem fault_good {bs : List Int} {s i : Nat} {b d e f : Int} (h : slotB bs s i = slotOf 1 b d e f) : isFault bs s i = true := by
  unfold isFault
  rw [kind_good h, rec_good h]
  rfl
theorem fault_blank {bs : List Int} {s i : Nat} (h : slotB bs s i = blank) : isFault bs s i = false := by
  unfold isFault
  rw [kind_blank h]
  rfl
theorem faults_congr {bs bs' : List Int} {s : Nat} (j : Nat) (h : ∀ i, 1 ≤ i → i ≤ j → slotB bs' s i = slotB bs s i) : faultsTo bs' s j = faultsTo bs s j := by
  induction j with
  | zero => rfl
  | succ j ih =>
    have e : slotB bs' s (j + 1) = slotB bs s (j + 1) := h (j + 1) (by omega) (by omega)
    show faultsTo bs' s j ++ (if isFault bs' s (j + 1) then [recOf bs' s (j + 1)] else []) = _
    rw [ih (fun i h1 h2 => h i h1 (by omega))]
    unfold isFault kindAt recOf
    rw [e]
    rfl
theorem faults_rest {bs : List Int} {s k : Nat} (h : ∀ i, k ≤ i → i < 8 → slotB bs s i = blank) (j : Nat) (hj : k ≤ j + 1) (n : Nat) (hn : j + n ≤ 7) : faultsTo bs s (j + n) = faultsTo bs s j := by
  induction n with
  | zero => rfl
  | succ n ih =>
    show faultsTo bs s (j + n) ++ (if isFault bs s (j + n + 1) then [recOf bs s (j + n + 1)] else []) = _
    rw [ih (by omega), fault_blank (h (j + n + 1) (by omega) (by omega))]
    simp
theorem free_of {bs : List Int} {s k : Nat} (hk : 1 ≤ k ∧ k ≤ 8) (h1 : kindAt bs s (k - 1) = 3) (h2 : ∀ i, k ≤ i → i < 8 → slotB bs s i = blank) : freeOf bs s = k := by
  have key : ∀ n, k + n ≤ 8 → freeTo bs s (k + n) = k := by
    intro n
    induction n with
    | zero =>
      intro _
      obtain ⟨m, rfl⟩ : ∃ m, k = m + 1 := ⟨k - 1, by omega⟩
      show (if kindAt bs s m = 0 then freeTo bs s m else m + 1) = m + 1
      rw [Nat.add_sub_cancel] at h1
      rw [if_neg (by rw [h1]; decide)]
    | succ n ih =>
      intro hn
      show (if kindAt bs s (k + n) = 0 then freeTo bs s (k + n) else k + n + 1) = k
      rw [if_pos (kind_blank (h2 (k + n) (by omega) (by omega))), ih (by omega)]
  have := key (8 - k) (by omega)
  rw [show k + (8 - k) = 8 by omega] at this
  exact this
theorem Jn.facts {c : Nat} {bs : List Int} {s k gen : Nat} (h : Jn c bs s k gen) (hc : c < 2147483648) : headB bs s = true ∧ genB bs s = gen ∧ (sectorsOf bs).1 = s ∧ actOf bs = (s, 1 - s) ∧ freeOf bs s = k := by
  obtain ⟨cnt, hcnt, hh⟩ := h.head
  obtain ⟨h1, h2, h3⟩ := head_good hh
  have hg := h.gens
  have h2' : genB bs s = gen := by rw [h2]; omega
  have hf : freeOf bs s = k := free_of h.k8 (by
    by_cases e : k = 1
    · subst e
      exact kind_good hh
    · obtain ⟨p, cd, q, a, hr⟩ := h.recs (k - 1) (by have := h.k8; omega) (by have := h.k8; omega)
      exact kind_good hr) h.rest
  have g : ∀ x, headB bs x = true → genOf bs x = genB bs x := fun x hx => by
    unfold genOf hdrOf genB
    rw [if_pos hx]
  have ho := h.other
  have hs := h.s2
  refine ⟨h1, h2', ?_, ?_, hf⟩
  · unfold sectorsOf sectOf
    obtain rfl | rfl : s = 0 ∨ s = 1 := by omega
    · rcases ho with ho | ⟨ho, hg2⟩
      · simp only [Nat.sub_zero] at ho
        rw [h1, ho]
        simp
      · simp only [Nat.sub_zero] at ho hg2
        rw [h1, ho, h2', hg2]
        rw [if_pos (by simp)]
        rfl
    · rcases ho with ho | ⟨ho, hg2⟩
      · simp only [Nat.sub_self] at ho
        rw [h1, ho]
        simp
      · simp only [Nat.sub_self] at ho hg2
        rw [h1, ho, h2', hg2]
        rw [if_neg (by simp; omega), if_pos (by simp)]
        rfl
  · unfold actOf
    obtain rfl | rfl : s = 0 ∨ s = 1 := by omega
    · rcases ho with ho | ⟨ho, hg2⟩
      · simp only [Nat.sub_zero] at ho
        rw [h1, ho]
        rfl
      · simp only [Nat.sub_zero] at ho hg2
        rw [if_pos (by rw [g 0 h1, g 1 ho, h1, ho, h2', hg2]; simp; omega)]
    · rcases ho with ho | ⟨ho, hg2⟩
      · simp only [Nat.sub_self] at ho
        rw [ho]
        rfl
      · simp only [Nat.sub_self] at ho hg2
        rw [if_neg (by rw [g 0 ho, g 1 h1, h1, ho, h2', hg2]; simp; omega)]
/- how often, as the active sector says it -/
theorem rest_of {bs : List Int} {s : Nat} (h : (sectorsOf bs).1 = s) (p : Nat) : restartsOf bs p = (faultsTo bs s 7).foldl (rstep p) ((be4 (argB bs s % 4294967296).toNat).getD p 0) := by
  unfold restartsOf faultsOf
  rw [h, if_neg (by omega), if_neg (by omega), Int.toNat_natCast]
theorem rstep_rnext (p : Int) (n : Int) (r : Nat → Int) : rstep p n r = rnext p (r 1) (r 4) n := rfl
theorem be4_get (a b c d : Int) (ha : 0 ≤ a ∧ a ≤ 255) (hb : 0 ≤ b ∧ b ≤ 255) (hc : 0 ≤ c ∧ c ≤ 255) (hd : 0 ≤ d ∧ d ≤ 255) (n : Int) (hn : n = 16777216 * a + 65536 * b + 256 * c + d) : be4 (n % 4294967296).toNat = [a, b, c, d] := by
  unfold be4
  rw [show (((n % 4294967296).toNat / 16777216 % 256 : Nat) : Int) = a by omega, show (((n % 4294967296).toNat / 65536 % 256 : Nat) : Int) = b by omega, show (((n % 4294967296).toNat / 256 % 256 : Nat) : Int) = c by omega, show (((n % 4294967296).toNat % 256 : Nat) : Int) = d by omega]
theorem allRest_get (bs : List Int) (p : Nat) (hp : p < 4) : (be4 (allRest bs % 4294967296).toNat).getD p 0 = restartsOf bs p := by
  rw [be4_get _ _ _ _ (rest_rng bs 0) (rest_rng bs 1) (rest_rng bs 2) (rest_rng bs 3) (allRest bs) rfl]
  obtain rfl | rfl | rfl | rfl : p = 0 ∨ p = 1 ∨ p = 2 ∨ p = 3 := by omega
  · rfl
  · rfl
  · rfl
  · rfl
theorem allRest_rng (bs : List Int) : 0 ≤ allRest bs ∧ allRest bs < 4294967296 := by
  have h0 := rest_rng bs 0
  have h1 := rest_rng bs 1
  have h2 := rest_rng bs 2
  have h3 := rest_rng bs 3
  unfold allRest
  omega
/- a new sector -/
theorem sector_new {F : Fl} (hF : Live F) (hl : F.bs.length = 256) (c o gen : Nat) (cnt part code q act : Int) (ho : o < 2) (hg : 1 ≤ gen ∧ gen ≤ c) (hcnt : 0 ≤ cnt ∧ cnt < 4294967296) (hother : headB F.bs (1 - o) = false ∨ (headB F.bs (1 - o) = true ∧ genB F.bs (1 - o) = (gen : Int) - 1)) :
    ∃ F', (andB (F.erase o) fun F1 => andB (F1.lay (128 * o) (slotOf 2 0 0 gen cnt)) fun F2 => F2.lay (128 * o + 16) (slotOf 1 part code q act)) = (true, F') ∧ Live F' ∧ Jn c F'.bs o 2 gen ∧ argB F'.bs o = cnt ∧ slotB F'.bs o 1 = slotOf 1 part code q act := by
  obtain ⟨F1, e1, h1, l1, g1⟩ := erase_live hF hl o ho
  have s1 := slot_erased hl l1 g1
  obtain ⟨F2, e2, h2, l2, g2⟩ := lay_live h1 l1 (128 * o) (slotOf 2 0 0 gen cnt) (by omega) (fun j hj => by
    have := blank_get l1 (s := o) (i := 0) ho (by omega) (by rw [s1 o 0 ho (by omega), if_pos rfl]) j hj
    simpa using this) (slotOf_bytes _ _ _ _ _)
  have s2 := slot_laid (s := o) (i := 0) l1 l2 ho (by omega) (slotOf_length 2 0 0 gen cnt) (fun j => by have := g2 j; simpa using this)
  obtain ⟨F3, e3, h3, l3, g3⟩ := lay_live h2 l2 (128 * o + 16) (slotOf 1 part code q act) (by omega) (fun j hj => by
    have := blank_get l2 (s := o) (i := 1) ho (by omega) (by rw [s2 o 1 ho (by omega), if_neg (by omega), s1 o 1 ho (by omega), if_pos rfl]) j hj
    simpa using this) (slotOf_bytes _ _ _ _ _)
  have s3 := slot_laid (s := o) (i := 1) l2 l3 ho (by omega) (slotOf_length 1 part code q act) (fun j => by have := g3 j; simpa using this)
  have hd : slotB F3.bs o 0 = slotOf 2 0 0 gen cnt := by rw [s3 o 0 ho (by omega), if_neg (by omega), s2 o 0 ho (by omega), if_pos ⟨rfl, rfl⟩]
  have hoth : slotB F3.bs (1 - o) 0 = slotB F.bs (1 - o) 0 := by rw [s3 (1 - o) 0 (by omega) (by omega), if_neg (by omega), s2 (1 - o) 0 (by omega) (by omega), if_neg (by omega), s1 (1 - o) 0 (by omega) (by omega), if_neg (by omega)]
  have hone : slotB F3.bs o 1 = slotOf 1 part code q act := by rw [s3 o 1 ho (by omega), if_pos ⟨rfl, rfl⟩]
  obtain ⟨c1, c2, -⟩ := head_congr hoth
  refine ⟨F3, by rw [e1, andB_yes, e2, andB_yes, e3], h3, ⟨l3, ho, by omega, hg, ⟨cnt, hcnt, hd⟩, fun i a b => ?_, fun i a b => ?_, by rw [c1, c2]; exact hother⟩, ?_, hone⟩
  · obtain rfl : i = 1 := by omega
    exact ⟨part, code, q, act, hone⟩
  · rw [s3 o i ho b, if_neg (by omega), s2 o i ho b, if_neg (by omega), s1 o i ho b, if_pos rfl]
  · rw [(head_good hd).2.2]
    omega
theorem faults_one {bs : List Int} {c s gen : Nat} (h : Jn c bs s 2 gen) : faultsTo bs s 7 = [recOf bs s 1] := by
  have := faults_rest (k := 2) h.rest 1 (by omega) 6 (by omega)
  rw [this]
  obtain ⟨p, cd, q, a, hr⟩ := h.recs 1 (by omega) (by omega)
  show [] ++ (if isFault bs s 1 then [recOf bs s 1] else []) = _
  rw [fault_good hr]
  rfl
/- an append -/
theorem app_live {F : Fl} {c : Nat} (hF : Live F) (hJ : Jl c F.bs) (hc : c + 1 < 2147483648) (part : Nat) (code act : Int) (hp : part < 256) (ha : 0 ≤ act ∧ act < 256) :
    ∃ F', F.app part code act = (true, F') ∧ Live F' ∧ Jl (c + 1) F'.bs ∧ ∀ p, p < 4 → restartsOf F'.bs p = rnext p part act (restartsOf F.bs p) := by
  have hend : ∀ (bs : List Int) (s : Nat) (q : Int), slotB bs s 1 = slotOf 1 part code q act → recOf bs s 1 1 = part ∧ recOf bs s 1 4 = act := fun bs s q h => by
    rw [rec_good h, rec_good h]
    simp only
    omega
  unfold Fl.app
  rcases hJ with ⟨hl, hb⟩ | ⟨s, k, gen, hJ⟩
  · have b0 := head_blank (hb 0 0 (by omega) (by omega))
    have b1 := head_blank (hb 1 0 (by omega) (by omega))
    have ea : actOf F.bs = (1, 0) := by unfold actOf; rw [b0]; rfl
    have es : sectorsOf F.bs = (-1, -1) := by unfold sectorsOf sectOf; rw [b0, b1]; rfl
    have er : ∀ p, restartsOf F.bs p = 0 := fun p => by unfold restartsOf; rw [es]; rfl
    have eh : hdrOf F.bs 1 3 = 0 := by unfold hdrOf; rw [b1]; rfl
    rw [ea, if_neg (by rw [b1]; simp), eh]
    obtain ⟨F', e, h1, hj, harg, hsl⟩ := sector_new hF hl (c + 1) 0 1 (allRest F.bs) part code (greatOf (logOf F.bs) + 1) act (by omega) (by omega) (allRest_rng _) (.inl b1)
    refine ⟨F', e, h1, .inr ⟨0, 2, 1, hj⟩, fun p hp4 => ?_⟩
    obtain ⟨-, -, f3, -, -⟩ := hj.facts hc
    obtain ⟨r1, r4⟩ := hend _ _ _ hsl
    rw [rest_of f3 p, faults_one hj, harg, allRest_get F.bs p hp4]
    simp only [List.foldl_cons, List.foldl_nil, rstep_rnext, r1, r4]
  · obtain ⟨f1, f2, f3, f4, f5⟩ := hJ.facts (by omega)
    have hg := hJ.gens
    have hk := hJ.k8
    have hs2 := hJ.s2
    rw [f4]
    simp only
    rw [f5]
    by_cases h8 : k < 8
    · rw [if_pos ⟨f1, h8⟩]
      obtain ⟨F', e, h1, l1, g1⟩ := lay_live hF hJ.len (128 * s + 16 * k) (slotOf 1 part code (greatOf (logOf F.bs) + 1) act) (by omega) (blank_get hJ.len hs2 h8 (hJ.rest k (Nat.le_refl _) h8)) (slotOf_bytes _ _ _ _ _)
      have s1 := slot_laid hJ.len l1 hs2 h8 (slotOf_length _ _ _ _ _) g1
      generalize greatOf (logOf F.bs) + 1 = q at *
      have hnew : slotB F'.bs s k = slotOf 1 part code q act := by rw [s1 s k hs2 h8, if_pos ⟨rfl, rfl⟩]
      have hold : ∀ i, i < 8 → i ≠ k → slotB F'.bs s i = slotB F.bs s i := fun i hi hne => by rw [s1 s i hs2 hi, if_neg (by omega)]
      have h0 := hold 0 (by omega) (by omega)
      have hoth : slotB F'.bs (1 - s) 0 = slotB F.bs (1 - s) 0 := by rw [s1 (1 - s) 0 (by omega) (by omega), if_neg (by omega)]
      obtain ⟨c1, c2, -⟩ := head_congr hoth
      have hj : Jn (c + 1) F'.bs s (k + 1) gen := by
        refine ⟨l1, hs2, by omega, by omega, ?_, fun i a b => ?_, fun i a b => ?_, by rw [c1, c2]; exact hJ.other⟩
        · obtain ⟨cnt, hcnt, hh⟩ := hJ.head
          exact ⟨cnt, hcnt, by rw [h0]; exact hh⟩
        · by_cases e : i = k
          · subst e
            exact ⟨part, code, q, act, hnew⟩
          · rw [hold i (by omega) e]
            exact hJ.recs i a (by omega)
        · rw [hold i b (by omega)]
          exact hJ.rest i (by omega) b
      refine ⟨F', e, h1, .inr ⟨s, k + 1, gen, hj⟩, fun p hp4 => ?_⟩
      obtain ⟨-, -, f3', -, -⟩ := hj.facts hc
      have hr1 : recOf F'.bs s k 1 = part := by rw [rec_good hnew]; simp only; omega
      have hr4 : recOf F'.bs s k 4 = act := by rw [rec_good hnew]; simp only; omega
      rw [rest_of f3' p, rest_of f3 p, (head_congr h0).2.2]
      obtain ⟨m, rfl⟩ : ∃ m, k = m + 1 := ⟨k - 1, by omega⟩
      have e1 := faults_rest (k := m + 1 + 1) hj.rest (m + 1) (by omega) (6 - m) (by omega)
      have e2 := faults_rest (k := m + 1) hJ.rest m (by omega) (7 - m) (by omega)
      rw [show m + 1 + (6 - m) = 7 by omega] at e1
      rw [show m + (7 - m) = 7 by omega] at e2
      rw [e1, e2]
      show List.foldl _ _ (faultsTo F'.bs s m ++ (if isFault F'.bs s (m + 1) then [recOf F'.bs s (m + 1)] else [])) = _
      rw [fault_good hnew, faults_congr m (fun i a b => hold i (by omega) (by omega))]
      simp only [if_true, List.foldl_append, List.foldl_cons, List.foldl_nil, rstep_rnext, hr1, hr4]
    · rw [if_neg (fun h => h8 h.2)]
      have eh : hdrOf F.bs s 3 = gen := by unfold hdrOf; rw [if_pos f1]; exact f2
      rw [eh]
      obtain ⟨F', e, h1, hj, harg, hsl⟩ := sector_new hF hJ.len (c + 1) (1 - s) (gen + 1) (allRest F.bs) part code (greatOf (logOf F.bs) + 1) act (by omega) (by omega) (allRest_rng _) (.inr (by
        rw [show 1 - (1 - s) = s by omega]
        exact ⟨f1, by rw [f2]; omega⟩))
      refine ⟨F', e, h1, .inr ⟨1 - s, 2, gen + 1, hj⟩, fun p hp4 => ?_⟩
      obtain ⟨-, -, f3', -, -⟩ := hj.facts hc
      obtain ⟨r1, r4⟩ := hend _ _ _ hsl
      rw [rest_of f3' p, faults_one hj, harg, allRest_get F.bs p hp4]
      simp only [List.foldl_cons, List.foldl_nil, rstep_rnext, r1, r4]
end Go.Proofs.YtnjlbgolnbdkaaaGreat
/- What a partition does, by itself: a tick of one partition is no other's business. Plain. -/
namespace Go.Proofs.YtnjlbgolnbdkaaaGreat
open Go.RowKit

/- a partition, the tick, how often it was restarted -/
abbrev PX := RPart × Int × Int
def PiOf (i : Nat) (s : SF) : PX := (s.1.part i, s.1.now, restartsOf s.2.bs i)
def setPr (p : RPart) (n : Nat) (x : RProc) : RPart := { p with procs := p.procs.set n x }
def actPx (n : Nat) (a now : Int) (p : RPart) : RPart :=
  if a = 2 then setPr p n { p.procs.getD n default with stopped := true }
  else if a = 3 then setPr p n proc0
  else if a = 4 then restartP 2 now p
  else if a = 5 then restartP 1 now p
  else if a = 6 then { p with mode := 3 }
  else p
def actOfPx (pt : Pt) (code : Nat) (rc : Int) : Int := if (pt.acts.getD code 0 = 4 ∨ pt.acts.getD code 0 = 5) ∧ pt.limit ≤ rc then 6 else pt.acts.getD code 0
def fltPx (pt : Pt) (i n code : Nat) (x : PX) : PX := (actPx n (actOfPx pt code x.2.2) x.2.1 x.1, x.2.1, rnext i i (actOfPx pt code x.2.2) x.2.2)
def latePx (pt : Pt) (i n : Nat) (x : PX) : PX :=
  if x.1.mode = 3 ∨ (x.1.procs.getD n default).stopped = true ∨ (x.1.procs.getD n default).dl < 0 ∨ x.2.1 < (x.1.procs.getD n default).dl then x
  else fltPx pt i n 2 (setPr x.1 n { x.1.procs.getD n default with dl := -1 }, x.2)
def latesPx (pt : Pt) (i : Nat) : Nat → PX → PX
  | 0, x => x
  | n + 1, x => latePx pt i n (latesPx pt i n x)
def watchPx (pt : Pt) (i : Nat) (w : Int) (x : PX) : PX :=
  if w = 0 ∨ x.1.mode = 3 ∨ x.2.1 - x.1.watch < w then x else fltPx pt i 0 5 ({ x.1 with watch := x.2.1 }, x.2)
def insPx (pt : Pt) (n : Nat) (p : RPart) : Int × Int := (pt.procs.getD n default).code.getD (p.procs.getD n default).next.toNat (0, 0)
def folPx (pt : Pt) (n : Nat) (p : RPart) (nx : Int) : RProc := { p.procs.getD n default with next := nx, stopped := decide (((pt.procs.getD n default).code.length : Int) ≤ nx) }
def stepPx (pt : Pt) (n : Nat) (now : Int) (p : RPart) : Int × RPart :=
  let op := (insPx pt n p).1
  let a := (insPx pt n p).2
  let x : RProc := folPx pt n p (if op = 4 ∧ (p.procs.getD n default).acc ≠ 0 then a else (p.procs.getD n default).next + 1)
  if op = 1 then (-1, setPr p n { x with acc := IntKind.i64.wrap (x.acc + (if a > 127 then a - 256 else a)) })
  else if op = 2 then if a < p.words.length then (-1, { setPr p n x with words := p.words.set a.toNat x.acc }) else (0, setPr p n x)
  else if op = 3 then if a < p.words.length then (-1, setPr p n { x with acc := p.words.getD a.toNat 0 }) else (0, setPr p n x)
  else if op = 12 then if a < p.words.length then (if p.words.getD a.toNat 0 = 0 then (1, setPr p n x) else (-1, setPr p n { x with acc := quot64 x.acc (p.words.getD a.toNat 0) })) else (0, setPr p n x)
  else if op = 5 then (-1, setPr p n { x with til := now + a })
  else if op = 8 then (3, setPr p n x)
  else if op = 9 then (-1, { setPr p n x with watch := now })
  else if op = 10 then (-1, setPr p n { x with stopped := true })
  else if op = 11 then (-1, setPr p n { x with dl := if a = 0 then -1 else now + a })
  else (-1, setPr p n x)
def readyPx (n : Nat) (now : Int) (p : RPart) : Bool := decide (¬ (p.mode = 3 ∨ (p.procs.getD n default).stopped = true ∨ now < (p.procs.getD n default).til))
def bestPx (pt : Pt) (now : Int) (p : RPart) : Nat → Option Nat
  | 0 => none
  | k + 1 => if (readyPx k now p && (match bestPx pt now p k with | none => true | some b => decide (prioOf pt b < prioOf pt k))) = true then some k else bestPx pt now p k
def turnPx (pt : Pt) (i : Nat) (x : PX) : PX :=
  match bestPx pt x.2.1 x.1 pt.procs.length with
  | none => x
  | some n => if (stepPx pt n x.2.1 x.1).1 < 0 then ((stepPx pt n x.2.1 x.1).2, x.2) else fltPx pt i n (stepPx pt n x.2.1 x.1).1.toNat ((stepPx pt n x.2.1 x.1).2, x.2)
/- a program that speaks of itself alone -/
structure PtAlone (pt : Pt) : Prop where
  act : ∀ a ∈ pt.acts, 1 ≤ a ∧ a ≤ 6
  ops : ∀ q ∈ pt.procs, ∀ x ∈ q.code, x.1 ≠ 6 ∧ x.1 ≠ 7 ∧ x.1 ≠ 13
/- two partitions -/
def cfX (w : Int) (p q : Pt) : Cf := ⟨6, w, [p, q], winsOf 3 2, []⟩
def ptX (p q : Pt) (i : Nat) : Pt := if i = 0 then p else q
structure Iv (c : Nat) (w : Int) (p q : Pt) (s : SF) : Prop where
  cf : s.1.cf = cfX w p q
  len : s.1.parts.length = 2
  dead : s.1.dead = false
  live : Live s.2
  jl : Jl c s.2.bs
  pl : ∀ i, i < 2 → 1 ≤ (s.1.part i).procs.length ∧ (s.1.part i).procs.length ≤ 2
theorem Jl.mono {c c' : Nat} {bs : List Int} (h : Jl c bs) (hc : c ≤ c') : Jl c' bs := by
  rcases h with h | ⟨s, k, gen, h⟩
  · exact .inl h
  · exact .inr ⟨s, k, gen, ⟨h.len, h.s2, h.k8, ⟨h.gens.1, Nat.le_trans h.gens.2 hc⟩, h.head, h.recs, h.rest, h.other⟩⟩
theorem Iv.mono {c c' : Nat} {w : Int} {p q : Pt} {s : SF} (h : Iv c w p q s) (hc : c ≤ c') : Iv c' w p q s := ⟨h.cf, h.len, h.dead, h.live, h.jl.mono hc, h.pl⟩
theorem Iv.cpart {c : Nat} {w : Int} {p q : Pt} {s : SF} (h : Iv c w p q s) {i : Nat} (hi : i < 2) : s.1.cpart i = ptX p q i := by
  unfold RSt.cpart
  rw [h.cf]
  obtain rfl | rfl : i = 0 ∨ i = 1 := by omega
  · rfl
  · rfl
theorem part_setX (st : RSt) (i j : Nat) (x : RPart) (hi : i < st.parts.length) : (st.setPart i x).part j = if j = i then x else st.part j := by
  unfold RSt.part RSt.setPart
  simp only
  rw [List.getD_eq_getElem?_getD, List.getD_eq_getElem?_getD, List.getElem?_set]
  by_cases e : i = j
  · subst e
    simp [hi]
  · rw [if_neg e, if_neg (by omega)]
theorem Iv.set {c : Nat} {w : Int} {p q : Pt} {s : SF} (h : Iv c w p q s) (i : Nat) (x : RPart) (hi : i < 2) (hx : 1 ≤ x.procs.length ∧ x.procs.length ≤ 2) : Iv c w p q (s.1.setPart i x, s.2) := by
  refine ⟨h.cf, by show (s.1.parts.set i x).length = 2; rw [List.length_set]; exact h.len, h.dead, h.live, h.jl, fun j hj => ?_⟩
  rw [part_setX s.1 i j x (by rw [h.len]; exact hi)]
  split
  · exact hx
  · exact h.pl j hj
theorem Iv.pi_set {c : Nat} {w : Int} {p q : Pt} {s : SF} (h : Iv c w p q s) (i j : Nat) (x : RPart) (hi : i < 2) : PiOf j (s.1.setPart i x, s.2) = if j = i then (x, (PiOf i s).2) else PiOf j s := by
  unfold PiOf
  simp only
  rw [part_setX s.1 i j x (by rw [h.len]; exact hi)]
  by_cases e : j = i
  · subst e
    rw [if_pos rfl, if_pos rfl]
    rfl
  · rw [if_neg e, if_neg e]
    rfl
theorem actOf_eq {c : Nat} {w : Int} {p q : Pt} {s : SF} (h : Iv c w p q s) (i code : Nat) (hi : i < 2) : actionOf s.1 s.2.bs i code = actOfPx (ptX p q i) code (PiOf i s).2.2 := by
  unfold actionOf actOfPx PiOf
  rw [h.cpart hi]
theorem actOfPx_rng {pt : Pt} (h : PtAlone pt) (code : Nat) (rc : Int) : 0 ≤ actOfPx pt code rc ∧ actOfPx pt code rc ≤ 6 := by
  unfold actOfPx
  split
  · omega
  · by_cases hc : code < pt.acts.length
    · have := h.act (pt.acts.getD code 0) (by rw [List.getD_eq_getElem?_getD, List.getElem?_eq_getElem hc]; simp)
      omega
    · rw [List.getD_eq_getElem?_getD, List.getElem?_eq_none (by omega)]
      simp
theorem act_eqX (st : RSt) (i n : Nat) (a : Int) (ha : a ≠ 7) (hi : i < st.parts.length) : st.act i n a = st.setPart i (actPx n a st.now (st.part i)) := by
  have hself : st.setPart i (st.part i) = st := by
    unfold RSt.setPart RSt.part
    have : st.parts.set i (st.parts.getD i default) = st.parts := by
      apply List.ext_getElem
      · simp
      · intro j h1 h2
        rw [List.getElem_set]
        split
        · rename_i e
          subst e
          simp [List.getD_eq_getElem?_getD, hi]
        · rfl
    rw [this]
  unfold RSt.act actPx
  split
  · rfl
  · split
    · rfl
    · split
      · rfl
      · split
        · rfl
        · split
          · rfl
          · exact hself.symm
theorem actPx_len (n : Nat) (a now : Int) (p : RPart) : (actPx n a now p).procs.length = p.procs.length := by
  unfold actPx setPr restartP
  split
  · simp
  · split
    · simp
    · split
      · simp
      · split
        · simp
        · split
          · rfl
          · rfl
theorem rnext_other (i j : Nat) (h : j ≠ i) (a r : Int) : rnext j i a r = r := by
  unfold rnext
  rw [if_neg]
  simp
  omega
/- a fault -/
theorem fault_pi {c : Nat} {w : Int} {p q : Pt} {s : SF} (h : Iv c w p q s) (i n code : Nat) (hi : i < 2) (hpt : PtAlone (ptX p q i)) (hc : c + 1 < 2147483648) :
    ∃ s', faultS i n code s = (true, s') ∧ Iv (c + 1) w p q s' ∧ PiOf i s' = fltPx (ptX p q i) i n code (PiOf i s) ∧ ∀ j, j < 2 → j ≠ i → PiOf j s' = PiOf j s := by
  have ha := actOfPx_rng hpt code (PiOf i s).2.2
  have he := actOf_eq h i code hi
  obtain ⟨F', e, hL, hJ, hr⟩ := app_live h.live h.jl hc i code (actOfPx (ptX p q i) code (PiOf i s).2.2) (by omega) (by omega)
  have hlen : i < s.1.parts.length := by rw [h.len]; exact hi
  rw [faultS_live _ _ _ _ h.live, he, act_eqX s.1 i n _ (by omega) hlen, e]
  refine ⟨_, rfl, ⟨h.cf, by show (s.1.parts.set i _).length = 2; rw [List.length_set]; exact h.len, h.dead, hL, hJ, fun j hj => ?_⟩, ?_, fun j hj hne => ?_⟩
  · rw [part_setX s.1 i j _ hlen]
    split
    · rw [actPx_len]
      exact h.pl i hi
    · exact h.pl j hj
  · unfold PiOf fltPx
    simp only
    rw [part_setX s.1 i i _ hlen, if_pos rfl, hr i (by omega)]
    rfl
  · unfold PiOf
    simp only
    rw [part_setX s.1 i j _ hlen, if_neg hne, hr j (by omega), rnext_other i j hne]
    rfl
theorem late_pi {c : Nat} {w : Int} {p q : Pt} {s : SF} (h : Iv c w p q s) (i n : Nat) (hi : i < 2) (hpt : PtAlone (ptX p q i)) (hc : c + 1 < 2147483648) :
    ∃ s', lateS i n s = (true, s') ∧ Iv (c + 1) w p q s' ∧ PiOf i s' = latePx (ptX p q i) i n (PiOf i s) ∧ ∀ j, j < 2 → j ≠ i → PiOf j s' = PiOf j s := by
  unfold lateS
  by_cases e : (s.1.part i).mode = 3 ∨ (s.1.proc i n).stopped = true ∨ (s.1.proc i n).dl < 0 ∨ s.1.now < (s.1.proc i n).dl
  · have hP : latePx (ptX p q i) i n (PiOf i s) = PiOf i s := if_pos e
    rw [if_pos e, hP]
    exact ⟨s, rfl, h.mono (by omega), rfl, fun _ _ _ => rfl⟩
  · have hP : latePx (ptX p q i) i n (PiOf i s) = fltPx (ptX p q i) i n 2 (setPr (s.1.part i) n { s.1.proc i n with dl := -1 }, (PiOf i s).2) := if_neg e
    rw [if_neg e, hP]
    have hset := h.set i (setPr (s.1.part i) n { s.1.proc i n with dl := -1 }) hi (by show 1 ≤ ((s.1.part i).procs.set n _).length ∧ ((s.1.part i).procs.set n _).length ≤ 2; rw [List.length_set]; exact h.pl i hi)
    obtain ⟨s', e1, h1, h2, h3⟩ := fault_pi hset i n 2 hi hpt hc
    refine ⟨s', e1, h1, ?_, fun j hj hne => ?_⟩
    · rw [h2, h.pi_set i i _ hi, if_pos rfl]
    · rw [h3 j hj hne, h.pi_set i j _ hi, if_neg hne]
theorem lates_pi {c : Nat} {w : Int} {p q : Pt} {s : SF} (h : Iv c w p q s) (i : Nat) (hi : i < 2) (hpt : PtAlone (ptX p q i)) (hc : c + 2 < 2147483648) :
    ∃ s', latesS i s = (true, s') ∧ Iv (c + 2) w p q s' ∧ PiOf i s' = latesPx (ptX p q i) i (PiOf i s).1.procs.length (PiOf i s) ∧ ∀ j, j < 2 → j ≠ i → PiOf j s' = PiOf j s := by
  have key : ∀ n, n ≤ 2 → ∃ s', loopB (lateS i) n s = (true, s') ∧ Iv (c + n) w p q s' ∧ PiOf i s' = latesPx (ptX p q i) i n (PiOf i s) ∧ ∀ j, j < 2 → j ≠ i → PiOf j s' = PiOf j s := by
    intro n
    induction n with
    | zero => intro _; exact ⟨s, rfl, h, rfl, fun _ _ _ => rfl⟩
    | succ n ih =>
      intro hn
      obtain ⟨s1, e1, h1, h2, h3⟩ := ih (by omega)
      obtain ⟨s2, e2, k1, k2, k3⟩ := late_pi h1 i n hi hpt (by omega)
      refine ⟨s2, ?_, k1, ?_, fun j hj hne => (k3 j hj hne).trans (h3 j hj hne)⟩
      · show andB (loopB (lateS i) n s) (lateS i n) = _
        rw [e1, andB_yes, e2]
      · rw [k2, h2]
        rfl
  obtain ⟨s', e, h1, h2, h3⟩ := key (s.1.part i).procs.length (h.pl i hi).2
  exact ⟨s', e, h1.mono (by have := h.pl i hi; omega), h2, h3⟩
theorem watch_pi {c : Nat} {w : Int} {p q : Pt} {s : SF} (h : Iv c w p q s) (i : Nat) (hi : i < 2) (hpt : PtAlone (ptX p q i)) (hw : w ≠ 0) (hc : c + 1 < 2147483648) :
    ∃ s', watchS i s = (true, s') ∧ Iv (c + 1) w p q s' ∧ PiOf i s' = watchPx (ptX p q i) i w (PiOf i s) ∧ ∀ j, j < 2 → j ≠ i → PiOf j s' = PiOf j s := by
  have hwc : s.1.cf.watch = w := by rw [h.cf]; rfl
  unfold watchS
  rw [hwc]
  by_cases e : (s.1.part i).mode = 3 ∨ s.1.now - (s.1.part i).watch < w
  · have hP : watchPx (ptX p q i) i w (PiOf i s) = PiOf i s := if_pos (.inr e)
    rw [if_pos e, hP]
    exact ⟨s, rfl, h.mono (by omega), rfl, fun _ _ _ => rfl⟩
  · have hP : watchPx (ptX p q i) i w (PiOf i s) = fltPx (ptX p q i) i 0 5 ({ s.1.part i with watch := s.1.now }, (PiOf i s).2) := if_neg (fun k => k.elim hw e)
    rw [if_neg e, hP]
    have hset := h.set i { s.1.part i with watch := s.1.now } hi (h.pl i hi)
    obtain ⟨s', e1, h1, h2, h3⟩ := fault_pi hset i 0 5 hi hpt hc
    refine ⟨s', e1, h1, ?_, fun j hj hne => ?_⟩
    · rw [h2, h.pi_set i i _ hi, if_pos rfl]
    · rw [h3 j hj hne, h.pi_set i j _ hi, if_neg hne]
/- a turn -/
theorem ins_alone {pt : Pt} (h : PtAlone pt) (n : Nat) (p : RPart) : (insPx pt n p).1 ≠ 6 ∧ (insPx pt n p).1 ≠ 7 ∧ (insPx pt n p).1 ≠ 13 := by
  unfold insPx
  by_cases hn : n < pt.procs.length
  · have hq : pt.procs.getD n default ∈ pt.procs := by rw [List.getD_eq_getElem?_getD, List.getElem?_eq_getElem hn]; simp
    generalize pt.procs.getD n default = q at *
    generalize (p.procs.getD n default).next.toNat = k
    by_cases hk : k < q.code.length
    · exact h.ops q hq (q.code.getD k (0, 0)) (by rw [List.getD_eq_getElem?_getD, List.getElem?_eq_getElem hk]; simp)
    · rw [List.getD_eq_getElem?_getD, List.getElem?_eq_none (by omega)]
      simp
  · have hq : pt.procs.getD n default = default := by rw [List.getD_eq_getElem?_getD, List.getElem?_eq_none (by omega)]; rfl
    rw [hq]
    generalize (p.procs.getD n default).next.toNat = k
    have : (default : Pr).code = [] := rfl
    rw [this]
    simp
theorem set_setX (st : RSt) (i : Nat) (x y : RPart) : (st.setPart i x).setPart i y = st.setPart i y := by
  unfold RSt.setPart
  simp
theorem step_eqX (st : RSt) (bs : List Int) (i n : Nat) (pt : Pt) (hcp : st.cpart i = pt) (hi : i < st.parts.length) (hop : (insPx pt n (st.part i)).1 ≠ 6 ∧ (insPx pt n (st.part i)).1 ≠ 7 ∧ (insPx pt n (st.part i)).1 ≠ 13) :
    stepS bs i n st = ((stepPx pt n st.now (st.part i)).1, st.setPart i (stepPx pt n st.now (st.part i)).2) := by
  have hins : insOf st i n = insPx pt n (st.part i) := by unfold insOf insPx RSt.codeOf RSt.proc; rw [hcp]
  have hpr : st.proc i n = (st.part i).procs.getD n default := rfl
  have hfol : ∀ nx, st.follow i n nx = folPx pt n (st.part i) nx := fun nx => by unfold RSt.follow folPx RSt.codeOf RSt.proc; rw [hcp]
  have hset : ∀ x, st.setProc i n x = st.setPart i (setPr (st.part i) n x) := fun x => rfl
  have hget : ∀ x, (st.setPart i x).part i = x := fun x => by rw [part_setX st i i x hi, if_pos rfl]
  unfold stepS stepPx
  simp only [hins, hpr, hfol, hset, hget, set_setX]
  generalize (insPx pt n (st.part i)).1 = op at *
  generalize (insPx pt n (st.part i)).2 = a at *
  generalize folPx pt n (st.part i) (if op = 4 ∧ ((st.part i).procs.getD n default).acc ≠ 0 then a else ((st.part i).procs.getD n default).next + 1) = x at *
  by_cases h1 : op = 1
  · simp [h1]
  by_cases h2 : op = 2
  · subst h2
    simp only [show ¬ ((2 : Int) = 1) by decide, if_false, if_true]
    by_cases e : a < (st.part i).words.length
    · rw [if_pos e, if_pos e]
    · rw [if_neg e, if_neg e]
  by_cases h3 : op = 3
  · subst h3
    simp only [show ¬ ((3 : Int) = 1) by decide, show ¬ ((3 : Int) = 2) by decide, if_false, if_true]
    by_cases e : a < (st.part i).words.length
    · rw [if_pos e, if_pos e]
    · rw [if_neg e, if_neg e]
  by_cases h12 : op = 12
  · subst h12
    simp only [show ¬ ((12 : Int) = 1) by decide, show ¬ ((12 : Int) = 2) by decide, show ¬ ((12 : Int) = 3) by decide, if_false, if_true]
    by_cases e : a < (st.part i).words.length
    · rw [if_pos e, if_pos e]
      by_cases e2 : (st.part i).words.getD a.toNat 0 = 0
      · rw [if_pos e2, if_pos e2]
      · rw [if_neg e2, if_neg e2]
    · rw [if_neg e, if_neg e]
  by_cases h5 : op = 5
  · simp [h5]
  by_cases h8 : op = 8
  · simp [h8]
  by_cases h9 : op = 9
  · simp [h9]
  by_cases h10 : op = 10
  · simp [h10]
  by_cases h11 : op = 11
  · simp [h11]
  simp [h1, h2, h3, h12, h5, hop.1, hop.2.1, h8, h9, h10, h11, hop.2.2]
theorem stepPx_len (pt : Pt) (n : Nat) (now : Int) (p : RPart) : (stepPx pt n now p).2.procs.length = p.procs.length := by
  unfold stepPx setPr
  simp only
  generalize (insPx pt n p).1 = op
  generalize (insPx pt n p).2 = a
  generalize folPx pt n p (if op = 4 ∧ (p.procs.getD n default).acc ≠ 0 then a else (p.procs.getD n default).next + 1) = x
  simp only [apply_ite Prod.snd, apply_ite RPart.procs, apply_ite List.length, List.length_set, ite_self]
theorem best_eqX (st : RSt) (i : Nat) (pt : Pt) (hcp : st.cpart i = pt) (hal : PtAlone pt) : bestS st i = bestPx pt st.now (st.part i) pt.procs.length := by
  have hr : ∀ n, readyS st i n = readyPx n st.now (st.part i) := fun n => by
    have hins : insOf st i n = insPx pt n (st.part i) := by unfold insOf insPx RSt.codeOf RSt.proc; rw [hcp]
    unfold readyS readyPx
    rw [hins]
    have := (ins_alone hal n (st.part i)).2.1
    simp [this]
    rfl
  have key : ∀ k, bestTo st i k = bestPx pt st.now (st.part i) k := by
    intro k
    induction k with
    | zero => rfl
    | succ k ih =>
      unfold bestTo bestPx
      rw [hr k, ih, hcp]
      cases bestPx pt st.now (st.part i) k <;> rfl
  unfold bestS
  rw [hcp, key]
theorem turn_piX {c : Nat} {w : Int} {p q : Pt} {s : SF} (h : Iv c w p q s) (i : Nat) (hi : i < 2) (hpt : PtAlone (ptX p q i)) (hc : c + 1 < 2147483648) :
    ∃ s', turnS i s = (true, s') ∧ Iv (c + 1) w p q s' ∧ PiOf i s' = turnPx (ptX p q i) i (PiOf i s) ∧ ∀ j, j < 2 → j ≠ i → PiOf j s' = PiOf j s := by
  have hcp := h.cpart hi
  have hlen : i < s.1.parts.length := by rw [h.len]; exact hi
  have hb := best_eqX s.1 i _ hcp hpt
  unfold turnS turnPx
  rw [hb]
  have hx : (PiOf i s).2.1 = s.1.now ∧ (PiOf i s).1 = s.1.part i := ⟨rfl, rfl⟩
  rw [hx.1, hx.2]
  cases hbb : bestPx (ptX p q i) s.1.now (s.1.part i) (ptX p q i).procs.length with
  | none => exact ⟨s, rfl, h.mono (by omega), rfl, fun _ _ _ => rfl⟩
  | some n =>
    simp only
    rw [step_eqX s.1 s.2.bs i n _ hcp hlen (ins_alone hpt n _)]
    simp only
    have hset := h.set i (stepPx (ptX p q i) n s.1.now (s.1.part i)).2 hi (by rw [stepPx_len]; exact h.pl i hi)
    by_cases e : (stepPx (ptX p q i) n s.1.now (s.1.part i)).1 < 0
    · rw [if_pos e, if_pos e]
      refine ⟨_, rfl, hset.mono (by omega), ?_, fun j hj hne => ?_⟩
      · rw [h.pi_set i i _ hi, if_pos rfl]
      · rw [h.pi_set i j _ hi, if_neg hne]
    · rw [if_neg e, if_neg e]
      obtain ⟨s', e1, h1, h2, h3⟩ := fault_pi hset i n (stepPx (ptX p q i) n s.1.now (s.1.part i)).1.toNat hi hpt hc
      refine ⟨s', e1, h1, ?_, fun j hj hne => ?_⟩
      · rw [h2, h.pi_set i i _ hi, if_pos rfl]
      · rw [h3 j hj hne, h.pi_set i j _ hi, if_neg hne]
/- a tick -/
def tickPx (pt : Pt) (i : Nat) (w : Int) (x : PX) : PX :=
  let x1 := latesPx pt i x.1.procs.length x
  let x2 := watchPx pt i w x1
  let x3 := if x2.2.1 % 6 / 3 = i then turnPx pt i x2 else x2
  (x3.1, x3.2.1 + 1, x3.2.2)
theorem fltPx_now (pt : Pt) (i n code : Nat) (x : PX) : (fltPx pt i n code x).2.1 = x.2.1 := rfl
theorem latePx_now (pt : Pt) (i n : Nat) (x : PX) : (latePx pt i n x).2.1 = x.2.1 := by
  unfold latePx
  split
  · rfl
  · rfl
theorem latesPx_now (pt : Pt) (i n : Nat) (x : PX) : (latesPx pt i n x).2.1 = x.2.1 := by
  induction n with
  | zero => rfl
  | succ n ih => exact (latePx_now pt i n _).trans ih
theorem watchPx_now (pt : Pt) (i : Nat) (w : Int) (x : PX) : (watchPx pt i w x).2.1 = x.2.1 := by
  unfold watchPx
  split
  · rfl
  · rfl
theorem watchPx_off (pt : Pt) (i : Nat) (x : PX) : watchPx pt i 0 x = x := if_pos (.inl rfl)
theorem bothX {P : Nat → Prop} (h0 : P 0) (h1 : P 1) : ∀ i, i < 2 → P i := fun i hi => by
  obtain rfl | rfl : i = 0 ∨ i = 1 := by omega
  · exact h0
  · exact h1
theorem tick_piX {c : Nat} {w : Int} {p q : Pt} {s : SF} (h : Iv c w p q s) (hp : PtAlone p) (hq : PtAlone q) (hc : c + 7 < 2147483648) (hnow : 0 ≤ s.1.now) :
    ∃ s', tickS s = (true, s') ∧ Iv (c + 7) w p q s' ∧ s'.1.now = s.1.now + 1 ∧ ∀ i, i < 2 → PiOf i s' = tickPx (ptX p q i) i w (PiOf i s) := by
  have hpt : ∀ i, i < 2 → PtAlone (ptX p q i) := bothX hp hq
  obtain ⟨a1, e1, h1, k1, o1⟩ := lates_pi h 0 (by omega) (hpt 0 (by omega)) (by omega)
  obtain ⟨a2, e2, h2, k2, o2⟩ := lates_pi h1 1 (by omega) (hpt 1 (by omega)) (by omega)
  have hd : deadS s = (true, a2) := by
    unfold deadS
    rw [h.len]
    show andB (andB (true, s) (latesS 0)) (latesS 1) = _
    rw [andB_yes, e1, andB_yes, e2]
  have hL : ∀ i, i < 2 → PiOf i a2 = latesPx (ptX p q i) i (PiOf i s).1.procs.length (PiOf i s) := by
    refine bothX ?_ ?_
    · rw [o2 0 (by omega) (by omega), k1]
    · rw [k2, o1 1 (by omega) (by omega)]
  obtain ⟨a3, e3, h3, k3⟩ : ∃ a3, watchesS a2 = (true, a3) ∧ Iv (c + 6) w p q a3 ∧ ∀ i, i < 2 → PiOf i a3 = watchPx (ptX p q i) i w (PiOf i a2) := by
    by_cases hw : w = 0
    · subst hw
      refine ⟨a2, watchesS_off a2 (by rw [h2.cf]; rfl), h2.mono (by omega), fun i _ => (watchPx_off _ _ _).symm⟩
    · obtain ⟨b1, f1, m1, r1, t1⟩ := watch_pi h2 0 (by omega) (hpt 0 (by omega)) hw (by omega)
      obtain ⟨b2, f2, m2, r2, t2⟩ := watch_pi m1 1 (by omega) (hpt 1 (by omega)) hw (by omega)
      refine ⟨b2, ?_, m2, bothX ?_ ?_⟩
      · unfold watchesS
        rw [if_neg (by rw [h2.cf]; exact hw), h2.len]
        show andB (andB (true, a2) (watchS 0)) (watchS 1) = _
        rw [andB_yes, f1, andB_yes, f2]
      · rw [t2 0 (by omega) (by omega), r1]
      · rw [r2, t1 1 (by omega) (by omega)]
  have hn3 : ∀ i, i < 2 → (PiOf i a3).2.1 = s.1.now := fun i hi => by rw [k3 i hi, watchPx_now, hL i hi, latesPx_now]; rfl
  have hnow3 : a3.1.now = s.1.now := hn3 0 (by omega)
  obtain ⟨N, hN⟩ := Int.eq_ofNat_of_zero_le hnow
  have hw3 := winS_of a3 2 3 N (by rw [h3.cf]; rfl) (by rw [h3.cf]; rfl) (by rw [hnow3, hN]) (by omega) (by omega)
  have hqq : N % (2 * 3) / 3 < 2 := by omega
  obtain ⟨a4, e4, h4, k4, o4⟩ := turn_piX h3 (N % (2 * 3) / 3) hqq (hpt _ hqq) (by omega)
  rw [e4] at hw3
  refine ⟨later a4, tickS_of hd e3 hw3, ⟨h4.cf, h4.len, h4.dead, h4.live, h4.jl, h4.pl⟩, ?_, fun i hi => ?_⟩
  · have hq4 : ∀ i, i < 2 → (PiOf i a4).2.1 = a4.1.now := fun i _ => rfl
    show a4.1.now + 1 = _
    obtain ⟨j, hj, hne⟩ : ∃ j, j < 2 ∧ j ≠ N % (2 * 3) / 3 := ⟨1 - N % (2 * 3) / 3, by omega, by omega⟩
    rw [← hq4 j hj, o4 j hj hne, hn3 j hj]
  · have hx : PiOf i (later a4) = ((PiOf i a4).1, (PiOf i a4).2.1 + 1, (PiOf i a4).2.2) := rfl
    rw [hx]
    unfold tickPx
    simp only
    rw [← hL i hi, ← k3 i hi, hn3 i hi]
    have hcond : (s.1.now % 6 / 3 = (i : Int)) ↔ i = N % (2 * 3) / 3 := by rw [hN]; omega
    by_cases e : i = N % (2 * 3) / 3
    · rw [if_pos (hcond.2 e), e, k4]
    · rw [if_neg (fun k => e (hcond.1 k)), o4 i hi e]
def ticksPx (pt : Pt) (i : Nat) (w : Int) : Nat → PX → PX
  | 0, x => x
  | n + 1, x => tickPx pt i w (ticksPx pt i w n x)
theorem ticks_piX {c : Nat} {w : Int} {p q : Pt} {s : SF} (h : Iv c w p q s) (hp : PtAlone p) (hq : PtAlone q) (n : Nat) (hc : c + 7 * n < 2147483648) (hnow : 0 ≤ s.1.now) :
    ∃ s', ticksTo n s = (true, s') ∧ Iv (c + 7 * n) w p q s' ∧ s'.1.now = s.1.now + n ∧ ∀ i, i < 2 → PiOf i s' = ticksPx (ptX p q i) i w n (PiOf i s) := by
  induction n with
  | zero => exact ⟨s, rfl, h, by simp, fun i _ => rfl⟩
  | succ n ih =>
    obtain ⟨a, e1, h1, n1, k1⟩ := ih (by omega)
    obtain ⟨b, e2, h2, n2, k2⟩ := tick_piX h1 hp hq (by omega) (by omega)
    refine ⟨b, by rw [ticksTo_next, e1, andB_yes, e2], h2, by rw [n2, n1]; omega, fun i hi => ?_⟩
    rw [k2 i hi, k1 i hi]
    rfl
/- a fault from outside -/
def injPx (pt : Pt) (i n code : Nat) (x : PX) : PX := if x.1.mode = 3 then x else fltPx pt i n code x
theorem inject_pi {c : Nat} {w : Int} {p q : Pt} {s : SF} (h : Iv c w p q s) (hp : PtAlone p) (hq : PtAlone q) (i n code : Nat) (hi : i < 2) (hn : n < (s.1.part i).procs.length) (hcode : code ≤ 4) (hc : c + 1 < 2147483648) :
    ∃ s', injectCall i n code s = (0, s') ∧ Iv (c + 1) w p q s' ∧ s'.1.now = s.1.now ∧ PiOf i s' = injPx (ptX p q i) i n code (PiOf i s) ∧ ∀ j, j < 2 → j ≠ i → PiOf j s' = PiOf j s := by
  have hpt : PtAlone (ptX p q i) := bothX (P := fun i => PtAlone (ptX p q i)) hp hq i hi
  unfold injectCall
  rw [if_neg (by rw [h.len, Int.toNat_natCast]; omega), if_neg (by rw [h.dead]; simp), Int.toNat_natCast, Int.toNat_natCast, Int.toNat_natCast]
  by_cases hm : (s.1.part i).mode = 3
  · have hP : injPx (ptX p q i) i n code (PiOf i s) = PiOf i s := if_pos hm
    rw [if_pos hm, hP]
    exact ⟨s, rfl, h.mono (by omega), rfl, rfl, fun _ _ _ => rfl⟩
  · have hP : injPx (ptX p q i) i n code (PiOf i s) = fltPx (ptX p q i) i n code (PiOf i s) := if_neg hm
    rw [if_neg hm, hP]
    obtain ⟨s', e, h1, h2, h3⟩ := fault_pi h i n code hi hpt hc
    rw [e]
    have hs : withDead (true, s') = s' := by
      unfold withDead
      obtain ⟨⟨a, b, c, d, e⟩, f⟩ := s'
      have := h1.dead
      simp only at this
      subst this
      rfl
    rw [hs]
    refine ⟨s', rfl, h1, ?_, h2, h3⟩
    have : (PiOf i s').2.1 = (PiOf i s).2.1 := by rw [h2]; rfl
    exact this
end Go.Proofs.YtnjlbgolnbdkaaaGreat
/- Apart: the configurations, the boots, the blows. Plain. -/
namespace Go.Proofs.YtnjlbgolnbdkaaaGreat
open Go.RowKit

/- what raw numbers are read as -/
def prK (l : List Int) : Pr := if l = [] then ⟨0, [(0, 0)]⟩ else ⟨pickOf (l.getD 0 0) 10, (l.take (min l.length 20)).map fun x => (opK x, argK (min l.length 20) x)⟩
def ptK (limit : Int) (acts one two : List Int) : Pt := ⟨false, 4, limit, actsK acts 6, if two = [] then [prK one] else [prK one, prK two]⟩
theorem enc_code (l : List Int) : encPr (prK l) = codeK l := by
  unfold encPr prK codeK
  by_cases h : l = []
  · rw [if_pos h, if_pos h]
    rfl
  · rw [if_neg h, if_neg h]
    simp only [List.length_map, List.length_take]
    rw [show min (min l.length 20) l.length = min l.length 20 by omega, List.flatMap_map]
    rfl
theorem enc_part (limit : Int) (acts one two : List Int) : encPt (ptK limit acts one two) = partK limit acts one two := by
  unfold encPt ptK partK
  by_cases h : two = []
  · rw [if_pos h, if_pos h]
    simp [enc_code]
  · rw [if_neg h, if_neg h]
    simp [enc_code]
theorem prK_fit (l : List Int) : PrFit (prK l) := by
  unfold prK
  by_cases h : l = []
  · rw [if_pos h]
    exact ⟨by decide, by decide, by decide⟩
  · rw [if_neg h]
    have hl : 0 < l.length := List.length_pos_iff.2 h
    have h1 := pickOf_nonneg (l.getD 0 0) 10 (by omega)
    have h2 := pickOf_lt (l.getD 0 0) 10 (by omega)
    have hln : ((l.take (min l.length 20)).map fun x => (opK x, argK (min l.length 20) x)).length = min l.length 20 := by
      rw [List.length_map, List.length_take]
      omega
    refine ⟨by simp only; omega, by simp only; rw [hln]; omega, fun x hx => ?_⟩
    simp only at hx ⊢
    rw [hln]
    obtain ⟨z, -, rfl⟩ := List.mem_map.1 hx
    have h3 := opK_rng z
    have h4 := argK_rng (min l.length 20) z (by omega) (by omega)
    simp only
    refine ⟨by omega, h4.1, ?_⟩
    split
    · rename_i e
      unfold argK
      rw [if_pos e]
      have := Int.emod_lt_of_pos (pickOf z 1099511627776 / 12) (b := ((min l.length 20 : Nat) : Int)) (by omega)
      omega
    · omega
theorem opK_alone (x : Int) : opK x ≠ 6 ∧ opK x ≠ 7 ∧ opK x ≠ 13 := by
  have h1 := pickOf_nonneg x 1099511627776 (by omega)
  have h2 : (pickOf x 1099511627776 % 12).toNat < 12 := by omega
  unfold opK
  generalize (pickOf x 1099511627776 % 12).toNat = q at *
  have h3 : ∀ q : Fin 12, opsK.getD q.1 0 ≠ 6 ∧ opsK.getD q.1 0 ≠ 7 ∧ opsK.getD q.1 0 ≠ 13 := by decide
  exact h3 ⟨q, h2⟩
theorem prK_alone (l : List Int) : ∀ x ∈ (prK l).code, x.1 ≠ 6 ∧ x.1 ≠ 7 ∧ x.1 ≠ 13 := by
  unfold prK
  by_cases h : l = []
  · rw [if_pos h]
    decide
  · rw [if_neg h]
    intro x hx
    obtain ⟨z, -, rfl⟩ := List.mem_map.1 hx
    exact opK_alone z
theorem ptK_procs (limit : Int) (acts one two : List Int) : ∀ q ∈ (ptK limit acts one two).procs, q = prK one ∨ q = prK two := by
  unfold ptK
  simp only
  split
  · intro q hq
    simp at hq
    exact .inl hq
  · intro q hq
    simpa using hq
theorem ptK_many (limit : Int) (acts one two : List Int) : 1 ≤ (ptK limit acts one two).procs.length ∧ (ptK limit acts one two).procs.length ≤ 2 := by
  unfold ptK
  simp only
  split <;> simp
theorem ptK_fit (limit : Int) (acts one two : List Int) (hl : 0 ≤ limit ∧ limit ≤ 9) : PtFit (ptK limit acts one two) := by
  refine ⟨by show (1 : Int) ≤ 4 ∧ (4 : Int) ≤ 16; omega, hl, actsK_len acts 6, fun a ha => ?_, ?_, ptK_many limit acts one two, fun q hq => ?_⟩
  · have ha' : a ∈ actsK acts 6 := ha
    simp only [actsK, List.mem_map] at ha'
    obtain ⟨i, -, rfl⟩ := ha'
    have := actK_rng acts i
    omega
  · show (actsK acts 6).getD 5 0 ≠ 2 ∧ (actsK acts 6).getD 5 0 ≠ 3
    have e : (actsK acts 6).getD 5 0 = actK acts 5 := rfl
    rw [e]
    unfold actK
    split
    · omega
    · rename_i h
      constructor
      · intro e2; exact h ⟨rfl, .inl e2⟩
      · intro e2; exact h ⟨rfl, .inr e2⟩
  · rcases ptK_procs limit acts one two q hq with rfl | rfl
    · exact prK_fit one
    · exact prK_fit two
theorem ptK_alone (limit : Int) (acts one two : List Int) : PtAlone (ptK limit acts one two) := by
  refine ⟨fun a ha => ?_, fun q hq => ?_⟩
  · have ha' : a ∈ actsK acts 6 := ha
    simp only [actsK, List.mem_map] at ha'
    obtain ⟨i, -, rfl⟩ := ha'
    exact actK_rng acts i
  · rcases ptK_procs limit acts one two q hq with rfl | rfl
    · exact prK_alone one
    · exact prK_alone two
theorem parse_X (w : Int) (p q : Pt) (hw : 0 ≤ w ∧ w ≤ 200) (hp : PtFit p) (hq : PtFit q) : parseOf (configK w [encPt p, encPt q] 3) = (cfX w p q, 0, 0) := by
  have := parse_config w [p, q] 3 hw (by omega) (by simp) (by simp) (fun x hx => by
    simp only [List.mem_cons, List.not_mem_nil, or_false] at hx
    rcases hx with rfl | rfl
    · exact hp
    · exact hq)
  exact this
/- the start -/
theorem log_N3 : logOf flN.bs = [] := by
  have h : (logOf flN.bs).length = 0 := by decide +kernel
  exact List.length_eq_zero_iff.1 h
theorem jl_N : Jl 0 flN.bs := by
  refine .inl ⟨by decide +kernel, fun s i hs hi => ?_⟩
  have h : ∀ s : Fin 2, ∀ i : Fin 8, slotB flN.bs s.1 i.1 = blank := by decide +kernel
  exact h ⟨s, hs⟩ ⟨i, hi⟩
def startPx (p : Pt) : PX := (⟨1, List.replicate p.words.toNat 0, List.replicate p.procs.length proc0, 0⟩, 0, 0)
theorem rest_N (i : Nat) : restartsOf flN.bs i = 0 := by
  have h : (sectorsOf flN.bs).1 = -1 := by decide +kernel
  unfold restartsOf
  rw [h]
  rfl
theorem boot_X (w : Int) (p q : Pt) (hp : 1 ≤ p.procs.length ∧ p.procs.length ≤ 2) (hq : 1 ≤ q.procs.length ∧ q.procs.length ≤ 2) : Iv 0 w p q (bootSt (cfX w p q) flN.bs, flN) ∧ ∀ i, i < 2 → PiOf i (bootSt (cfX w p q) flN.bs, flN) = startPx (ptX p q i) := by
  have hb : bootSt (cfX w p q) flN.bs = ⟨cfX w p q, [(startPx p).1, (startPx q).1], [], 0, false⟩ := by
    unfold bootSt
    rw [log_N3]
    simp [cfX, partsTo, part0, modeOf, startPx]
  rw [hb]
  refine ⟨⟨rfl, rfl, rfl, ⟨rfl, rfl⟩, jl_N, bothX ?_ ?_⟩, bothX ?_ ?_⟩
  · show 1 ≤ (List.replicate p.procs.length proc0).length ∧ (List.replicate p.procs.length proc0).length ≤ 2
    rw [List.length_replicate]
    exact hp
  · show 1 ≤ (List.replicate q.procs.length proc0).length ∧ (List.replicate q.procs.length proc0).length ≤ 2
    rw [List.length_replicate]
    exact hq
  · show ((startPx p).1, (0 : Int), restartsOf flN.bs 0) = _
    rw [rest_N]
    rfl
  · show ((startPx q).1, (0 : Int), restartsOf flN.bs 1) = _
    rw [rest_N]
    rfl
/- the blows: what befalls the first partition -/
def blowPx (p : Pt) (w : Int) (code n : Nat) (x : PX) : PX := ticksPx p 0 w n (injPx p 0 0 code x)
end Go.Proofs.YtnjlbgolnbdkaaaGreat
