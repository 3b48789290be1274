/- Texts of the proof of Apart, one behind the other. -/
import Derived.Test.YtnjlbgolnbdkaaaGreatM26
namespace Go.Proofs.YtnjlbgolnbdkaaaGreat
open Go.RowKit

theorem getD_set (l : List Int) (i j : Nat) (v : Int) (hi : i < l.length) : (l.set i v).getD j 0 = if j = i then v else l.getD j 0 := by
  rw [List.getD_eq_getElem?_getD, List.getD_eq_getElem?_getD, List.getElem?_set]
  by_cases h : i = j
  · subst h
    simp [hi]
  · rw [if_neg h, if_neg (by omega)]
theorem band_full (v : Int) (h : 0 ≤ v ∧ v ≤ 255) : band8 255 v = v := by
  have h1 : ∀ q : Fin 256, band8 255 ((q.1 : Nat) : Int) = ((q.1 : Nat) : Int) := by decide +kernel
  obtain ⟨n, rfl⟩ := Int.eq_ofNat_of_zero_le h.1
  exact h1 ⟨n, by omega⟩
theorem prog_live {F : Fl} (h : Live F) (a : Nat) (v : Int) : ∃ F', F.prog a v = (true, F') ∧ Live F' ∧ F'.bs = F.bs.set a (band8 (F.bs.getD a 0) v) := by
  refine ⟨_, Prod.ext (h.prog a v).1 rfl, (h.prog a v).2, ?_⟩
  unfold Fl.prog
  rw [if_neg (by rw [h.dead]; simp), if_neg (by rw [h.left]; decide)]
  rfl
theorem layTo_live {F : Fl} (h : Live F) (hl : F.bs.length = 256) (a : Nat) (sl : List Int) (ha : a + 16 ≤ 256) (hb : ∀ j, j < 16 → F.bs.getD (a + j) 0 = 255) (hs : Bytes sl) (n : Nat) (hn : n ≤ 15) :
    ∃ F', loopB (fun k F => F.prog (a + (k + 1)) (sl.getD (k + 1) 0)) n F = (true, F') ∧ Live F' ∧ F'.bs.length = 256 ∧ ∀ j, F'.bs.getD j 0 = if a + 1 ≤ j ∧ j < a + 1 + n then sl.getD (j - a) 0 else F.bs.getD j 0 := by
  induction n with
  | zero => exact ⟨F, rfl, h, hl, fun j => by rw [if_neg (by omega)]⟩
  | succ n ih =>
    obtain ⟨F1, e1, h1, l1, g1⟩ := ih (by omega)
    obtain ⟨F2, e2, h2, b2⟩ := prog_live h1 (a + (n + 1)) (sl.getD (n + 1) 0)
    refine ⟨F2, ?_, h2, by rw [b2, List.length_set, l1], fun j => ?_⟩
    · show andB (loopB _ n F) _ = _
      rw [e1, andB_yes]
      exact e2
    · have hx := hs.getD (n + 1)
      rw [b2, getD_set _ _ _ _ (by rw [l1]; omega), g1 (a + (n + 1)), if_neg (show ¬ (a + 1 ≤ a + (n + 1) ∧ a + (n + 1) < a + 1 + n) by omega), hb (n + 1) (by omega), band_full _ (by omega), g1 j]
      by_cases e : j = a + (n + 1)
      · subst e
        rw [if_pos rfl, if_pos (by omega), show a + (n + 1) - a = n + 1 by omega]
      · rw [if_neg e]
        by_cases e2 : a + 1 ≤ j ∧ j < a + 1 + n
        · rw [if_pos e2, if_pos (by omega)]
        · rw [if_neg e2, if_neg (by omega)]
theorem lay_live {F : Fl} (h : Live F) (hl : F.bs.length = 256) (a : Nat) (sl : List Int) (ha : a + 16 ≤ 256) (hb : ∀ j, j < 16 → F.bs.getD (a + j) 0 = 255) (hs : Bytes sl) :
    ∃ F', F.lay a sl = (true, F') ∧ Live F' ∧ F'.bs.length = 256 ∧ ∀ j, F'.bs.getD j 0 = if a ≤ j ∧ j < a + 16 then sl.getD (j - a) 0 else F.bs.getD j 0 := by
  obtain ⟨F1, e1, h1, l1, g1⟩ := layTo_live h hl a sl ha hb hs 15 (Nat.le_refl _)
  obtain ⟨F2, e2, h2, b2⟩ := prog_live h1 a (sl.getD 0 0)
  refine ⟨F2, ?_, h2, by rw [b2, List.length_set, l1], fun j => ?_⟩
  · unfold Fl.lay
    rw [e1, andB_yes, e2]
  · have hx := hs.getD 0
    have h0 := hb 0 (by omega)
    rw [Nat.add_zero] at h0
    rw [b2, getD_set _ _ _ _ (by rw [l1]; omega), g1 a, if_neg (show ¬ (a + 1 ≤ a ∧ a < a + 1 + 15) by omega), h0, band_full _ (by omega), g1 j]
    by_cases e : j = a
    · subst e
      rw [if_pos rfl, if_pos (by omega), Nat.sub_self]
    · rw [if_neg e]
      by_cases e2 : a + 1 ≤ j ∧ j < a + 1 + 15
      · rw [if_pos e2, if_pos (by omega)]
      · rw [if_neg e2, if_neg (by omega)]
theorem eraTo_len (f : Int → Int) (a : Nat) (bs : List Int) (k : Nat) : (eraTo f a bs k).length = bs.length := by
  induction k with
  | zero => rfl
  | succ k ih => show ((eraTo f a bs k).set _ _).length = _; rw [List.length_set, ih]
theorem eraTo_get (f : Int → Int) (a : Nat) (bs : List Int) (k : Nat) (hk : a + k ≤ bs.length) (j : Nat) : (eraTo f a bs k).getD j 0 = if a ≤ j ∧ j < a + k then f (bs.getD j 0) else bs.getD j 0 := by
  induction k generalizing j with
  | zero => rw [if_neg (by omega)]; rfl
  | succ k ih =>
    show ((eraTo f a bs k).set (a + k) _).getD j 0 = _
    rw [getD_set _ _ _ _ (by rw [eraTo_len]; omega)]
    by_cases e : j = a + k
    · subst e
      rw [if_pos rfl, if_pos (by omega), ih (by omega), if_neg (by omega)]
    · rw [if_neg e, ih (by omega)]
      by_cases e2 : a ≤ j ∧ j < a + k
      · rw [if_pos e2, if_pos (by omega)]
      · rw [if_neg e2, if_neg (by omega)]
theorem slotB_map (bs : List Int) (hl : bs.length = 256) (s i : Nat) (hs : s < 2) (hi : i < 8) : slotB bs s i = (List.range 16).map fun j => bs.getD (128 * s + 16 * i + j) 0 := by
  apply List.ext_getElem
  · simp [slotB, hl]
    omega
  · intro j h1 h2
    simp only [List.length_map, List.length_range] at h2
    simp [slotB, List.getD_eq_getElem?_getD, show 128 * s + 16 * i + j < bs.length by omega]
def blank : List Int := List.replicate 16 255
theorem list_map16 (sl : List Int) (h : sl.length = 16) : (List.range 16).map (fun j => sl.getD j 0) = sl := by
  apply List.ext_getElem
  · simp [h]
  · intro j h1 h2
    simp only [List.length_map, List.length_range] at h1
    simp [List.getD_eq_getElem?_getD, show j < sl.length by omega]
theorem blank_map : (List.range 16).map (fun _ => (255 : Int)) = blank := by decide
theorem blank_get {bs : List Int} (hl : bs.length = 256) {s i : Nat} (hs : s < 2) (hi : i < 8) (h : slotB bs s i = blank) (j : Nat) (hj : j < 16) : bs.getD (128 * s + 16 * i + j) 0 = 255 := by
  rw [slotB_map bs hl s i hs hi] at h
  have h1 : ((List.range 16).map fun j => bs.getD (128 * s + 16 * i + j) 0)[j]? = blank[j]? := by rw [h]
  have h2 : blank[j]? = some 255 := by unfold blank; rw [List.getElem?_replicate, if_pos hj]
  rw [h2] at h1
  simpa [hj] using h1
theorem slot_laid {bs bs' : List Int} (hl : bs.length = 256) (hl' : bs'.length = 256) {s i : Nat} (hs : s < 2) (hi : i < 8) {sl : List Int} (hsl : sl.length = 16)
    (hg : ∀ j, bs'.getD j 0 = if 128 * s + 16 * i ≤ j ∧ j < 128 * s + 16 * i + 16 then sl.getD (j - (128 * s + 16 * i)) 0 else bs.getD j 0) (s' i' : Nat) (hs' : s' < 2) (hi' : i' < 8) : slotB bs' s' i' = if s' = s ∧ i' = i then sl else slotB bs s' i' := by
  rw [slotB_map bs' hl' s' i' hs' hi']
  by_cases e : s' = s ∧ i' = i
  · rw [if_pos e]
    obtain ⟨rfl, rfl⟩ := e
    conv => rhs; rw [← list_map16 sl hsl]
    apply List.map_congr_left
    intro j hj
    have := List.mem_range.1 hj
    rw [hg, if_pos (by omega), show 128 * s' + 16 * i' + j - (128 * s' + 16 * i') = j by omega]
  · rw [if_neg e, slotB_map bs hl s' i' hs' hi']
    apply List.map_congr_left
    intro j hj
    have := List.mem_range.1 hj
    rw [hg, if_neg (by omega)]
theorem slot_erased {bs bs' : List Int} (hl : bs.length = 256) (hl' : bs'.length = 256) {s : Nat}
    (hg : ∀ j, bs'.getD j 0 = if 128 * s ≤ j ∧ j < 128 * s + 128 then 255 else bs.getD j 0) (s' i' : Nat) (hs' : s' < 2) (hi' : i' < 8) : slotB bs' s' i' = if s' = s then blank else slotB bs s' i' := by
  rw [slotB_map bs' hl' s' i' hs' hi']
  by_cases e : s' = s
  · rw [if_pos e, ← blank_map]
    apply List.map_congr_left
    intro j hj
    have := List.mem_range.1 hj
    rw [hg, if_pos (by omega)]
  · rw [if_neg e, slotB_map bs hl s' i' hs' hi']
    apply List.map_congr_left
    intro j hj
    have := List.mem_range.1 hj
    rw [hg, if_neg (by omega)]
end Go.Proofs.YtnjlbgolnbdkaaaGreat
namespace Go.Proofs.YtnjlbgolnbdkaaaGreat
open Go.RowKit

def rnext (p part act r : Int) : Int := if (part == p && (act == 4 || act == 5) && decide (r < 255)) = true then r + 1 else r
structure Jn (c : Nat) (bs : List Int) (s k gen : Nat) : Prop where
  len : bs.length = 256
  s2 : s < 2
  k8 : 1 ≤ k ∧ k ≤ 8
  gens : 1 ≤ gen ∧ gen ≤ c
  head : ∃ cnt, (0 ≤ cnt ∧ cnt < 4294967296) ∧ slotB bs s 0 = slotOf 2 0 0 gen cnt
  recs : ∀ i, 1 ≤ i → i < k → ∃ p cd q a, slotB bs s i = slotOf 1 p cd q a
  rest : ∀ i, k ≤ i → i < 8 → slotB bs s i = blank
  other : headB bs (1 - s) = false ∨ (headB bs (1 - s) = true ∧ genB bs (1 - s) = (gen : Int) - 1)
def Jl (c : Nat) (bs : List Int) : Prop := (bs.length = 256 ∧ ∀ s i, s < 2 → i < 8 → slotB bs s i = blank) ∨ ∃ s k gen, Jn c bs s k gen
theorem blank_kind : sortKind blank = 0 := by decide
theorem kind_good {bs : List Int} {s i : Nat} {a b d e f : Int} (h : slotB bs s i = slotOf a b d e f) : kindAt bs s i = 3 := by unfold kindAt; rw [h]; exact slotOf_kind a b d e f
theorem rec_good {bs : List Int} {s i : Nat} {a b d e f : Int} (h : slotB bs s i = slotOf a b d e f) (j : Nat) : recOf bs s i j = match j with | 0 => a % 256 | 1 => b % 256 | 2 => d % 256 | 3 => e % 4294967296 | _ => f % 4294967296 := by unfold recOf; rw [h]; exact slotOf_rec a b d e f j
theorem kind_blank {bs : List Int} {s i : Nat} (h : slotB bs s i = blank) : kindAt bs s i = 0 := by unfold kindAt; rw [h]; exact blank_kind
theorem head_congr {bs bs' : List Int} {s : Nat} (h : slotB bs' s 0 = slotB bs s 0) : headB bs' s = headB bs s ∧ genB bs' s = genB bs s ∧ argB bs' s = argB bs s := by
  unfold headB genB argB kindAt recOf
  rw [h]
  exact ⟨rfl, rfl, rfl⟩
theorem head_blank {bs : List Int} {s : Nat} (h : slotB bs s 0 = blank) : headB bs s = false := by
  unfold headB
  rw [kind_blank h]
  rfl
theorem head_good {bs : List Int} {s : Nat} {gen cnt : Int} (h : slotB bs s 0 = slotOf 2 0 0 gen cnt) : headB bs s = true ∧ genB bs s = gen % 4294967296 ∧ argB bs s = cnt % 4294967296 := by
  unfold headB genB argB
  rw [kind_good h, rec_good h, rec_good h, rec_good h]
  exact ⟨rfl, rfl, rfl⟩
theorem fault_good {bs : List Int} {s i : Nat} {b d e f : Int} (h : slotB bs s i = slotOf 1 b d e f) : isFault bs s i = true := by
  unfold isFault
  rw [kind_good h, rec_good h]
  rfl
theorem fault_blank {bs : List Int} {s i : Nat} (h : slotB bs s i = blank) : isFault bs s i = false := by
  unfold isFault
  rw [kind_blank h]
  rfl
theorem faults_congr {bs bs' : List Int} {s : Nat} (j : Nat) (h : ∀ i, 1 ≤ i → i ≤ j → slotB bs' s i = slotB bs s i) : faultsTo bs' s j = faultsTo bs s j := by
  induction j with
  | zero => rfl
  | succ j ih =>
    have e : slotB bs' s (j + 1) = slotB bs s (j + 1) := h (j + 1) (by omega) (by omega)
    show faultsTo bs' s j ++ (if isFault bs' s (j + 1) then [recOf bs' s (j + 1)] else []) = _
    rw [ih (fun i h1 h2 => h i h1 (by omega))]
    unfold isFault kindAt recOf
    rw [e]
    rfl
theorem faults_rest {bs : List Int} {s k : Nat} (h : ∀ i, k ≤ i → i < 8 → slotB bs s i = blank) (j : Nat) (hj : k ≤ j + 1) (n : Nat) (hn : j + n ≤ 7) : faultsTo bs s (j + n) = faultsTo bs s j := by
  induction n with
  | zero => rfl
  | succ n ih =>
    show faultsTo bs s (j + n) ++ (if isFault bs s (j + n + 1) then [recOf bs s (j + n + 1)] else []) = _
    rw [ih (by omega), fault_blank (h (j + n + 1) (by omega) (by omega))]
    simp
theorem free_of {bs : List Int} {s k : Nat} (hk : 1 ≤ k ∧ k ≤ 8) (h1 : kindAt bs s (k - 1) = 3) (h2 : ∀ i, k ≤ i → i < 8 → slotB bs s i = blank) : freeOf bs s = k := by
  have key : ∀ n, k + n ≤ 8 → freeTo bs s (k + n) = k := by
    intro n
    induction n with
    | zero =>
      intro _
      obtain ⟨m, rfl⟩ : ∃ m, k = m + 1 := ⟨k - 1, by omega⟩
      show (if kindAt bs s m = 0 then freeTo bs s m else m + 1) = m + 1
      rw [Nat.add_sub_cancel] at h1
      rw [if_neg (by rw [h1]; decide)]
    | succ n ih =>
      intro hn
      show (if kindAt bs s (k + n) = 0 then freeTo bs s (k + n) else k + n + 1) = k
      rw [if_pos (kind_blank (h2 (k + n) (by omega) (by omega))), ih (by omega)]
  have := key (8 - k) (by omega)
  rw [show k + (8 - k) = 8 by omega] at this
  exact this
theorem Jn.facts {c : Nat} {bs : List Int} {s k gen : Nat} (h : Jn c bs s k gen) (hc : c < 2147483648) : headB bs s = true ∧ genB bs s = gen ∧ (sectorsOf bs).1 = s ∧ actOf bs = (s, 1 - s) ∧ freeOf bs s = k := by
  obtain ⟨cnt, hcnt, hh⟩ := h.head
  obtain ⟨h1, h2, h3⟩ := head_good hh
  have hg := h.gens
  have h2' : genB bs s = gen := by rw [h2]; omega
  have hf : freeOf bs s = k := free_of h.k8 (by
    by_cases e : k = 1
    · subst e
      exact kind_good hh
    · obtain ⟨p, cd, q, a, hr⟩ := h.recs (k - 1) (by have := h.k8; omega) (by have := h.k8; omega)
      exact kind_good hr) h.rest
  have g : ∀ x, headB bs x = true → genOf bs x = genB bs x := fun x hx => by
    unfold genOf hdrOf genB
    rw [if_pos hx]
  have ho := h.other
  have hs := h.s2
  refine ⟨h1, h2', ?_, ?_, hf⟩
  · unfold sectorsOf sectOf
    obtain rfl | rfl : s = 0 ∨ s = 1 := by omega
    · rcases ho with ho | ⟨ho, hg2⟩
      · simp only [Nat.sub_zero] at ho
        rw [h1, ho]
        simp
      · simp only [Nat.sub_zero] at ho hg2
        rw [h1, ho, h2', hg2]
        rw [if_pos (by simp)]
        rfl
    · rcases ho with ho | ⟨ho, hg2⟩
      · simp only [Nat.sub_self] at ho
        rw [h1, ho]
        simp
      · simp only [Nat.sub_self] at ho hg2
        rw [h1, ho, h2', hg2]
        rw [if_neg (by simp; omega), if_pos (by simp)]
        rfl
  · unfold actOf
    obtain rfl | rfl : s = 0 ∨ s = 1 := by omega
    · rcases ho with ho | ⟨ho, hg2⟩
      · simp only [Nat.sub_zero] at ho
        rw [h1, ho]
        rfl
      · simp only [Nat.sub_zero] at ho hg2
        rw [if_pos (by rw [g 0 h1, g 1 ho, h1, ho, h2', hg2]; simp; omega)]
    · rcases ho with ho | ⟨ho, hg2⟩
      · simp only [Nat.sub_self] at ho
        rw [ho]
        rfl
      · simp only [Nat.sub_self] at ho hg2
        rw [if_neg (by rw [g 0 ho, g 1 h1, h1, ho, h2', hg2]; simp; omega)]
theorem rest_of {bs : List Int} {s : Nat} (h : (sectorsOf bs).1 = s) (p : Nat) : restartsOf bs p = (faultsTo bs s 7).foldl (rstep p) ((be4 (argB bs s % 4294967296).toNat).getD p 0) := by
  unfold restartsOf faultsOf
  rw [h, if_neg (by omega), if_neg (by omega), Int.toNat_natCast]
theorem rstep_rnext (p : Int) (n : Int) (r : Nat → Int) : rstep p n r = rnext p (r 1) (r 4) n := rfl
theorem be4_get (a b c d : Int) (ha : 0 ≤ a ∧ a ≤ 255) (hb : 0 ≤ b ∧ b ≤ 255) (hc : 0 ≤ c ∧ c ≤ 255) (hd : 0 ≤ d ∧ d ≤ 255) (n : Int) (hn : n = 16777216 * a + 65536 * b + 256 * c + d) : be4 (n % 4294967296).toNat = [a, b, c, d] := by
  unfold be4
  rw [show (((n % 4294967296).toNat / 16777216 % 256 : Nat) : Int) = a by omega, show (((n % 4294967296).toNat / 65536 % 256 : Nat) : Int) = b by omega, show (((n % 4294967296).toNat / 256 % 256 : Nat) : Int) = c by omega, show (((n % 4294967296).toNat % 256 : Nat) : Int) = d by omega]
theorem allRest_get (bs : List Int) (p : Nat) (hp : p < 4) : (be4 (allRest bs % 4294967296).toNat).getD p 0 = restartsOf bs p := by
  rw [be4_get _ _ _ _ (rest_rng bs 0) (rest_rng bs 1) (rest_rng bs 2) (rest_rng bs 3) (allRest bs) rfl]
  obtain rfl | rfl | rfl | rfl : p = 0 ∨ p = 1 ∨ p = 2 ∨ p = 3 := by omega
  · rfl
  · rfl
  · rfl
  · rfl
theorem allRest_rng (bs : List Int) : 0 ≤ allRest bs ∧ allRest bs < 4294967296 := by
  have h0 := rest_rng bs 0
  have h1 := rest_rng bs 1
  have h2 := rest_rng bs 2
  have h3 := rest_rng bs 3
  unfold allRest
  omega
end Go.Proofs.YtnjlbgolnbdkaaaGreat
namespace Go.Proofs.YtnjlbgolnbdkaaaGreat
open Go.RowKit

def cfX (w : Int) (p q : Pt) : Cf := ⟨6, w, [p, q], winsOf 3 2, []⟩
def ptX (p q : Pt) (i : Nat) : Pt := if i = 0 then p else q
structure Iv (c : Nat) (w : Int) (p q : Pt) (s : SF) : Prop where
  cf : s.1.cf = cfX w p q
  len : s.1.parts.length = 2
  dead : s.1.dead = false
  live : Live s.2
  jl : Jl c s.2.bs
  pl : ∀ i, i < 2 → 1 ≤ (s.1.part i).procs.length ∧ (s.1.part i).procs.length ≤ 2
theorem Jl.mono {c c' : Nat} {bs : List Int} (h : Jl c bs) (hc : c ≤ c') : Jl c' bs := by
  rcases h with h | ⟨s, k, gen, h⟩
  · exact .inl h
  · exact .inr ⟨s, k, gen, ⟨h.len, h.s2, h.k8, ⟨h.gens.1, Nat.le_trans h.gens.2 hc⟩, h.head, h.recs, h.rest, h.other⟩⟩
theorem Iv.mono {c c' : Nat} {w : Int} {p q : Pt} {s : SF} (h : Iv c w p q s) (hc : c ≤ c') : Iv c' w p q s := ⟨h.cf, h.len, h.dead, h.live, h.jl.mono hc, h.pl⟩
theorem Iv.cpart {c : Nat} {w : Int} {p q : Pt} {s : SF} (h : Iv c w p q s) {i : Nat} (hi : i < 2) : s.1.cpart i = ptX p q i := by
  unfold RSt.cpart
  rw [h.cf]
  obtain rfl | rfl : i = 0 ∨ i = 1 := by omega
  · rfl
  · rfl
theorem part_setX (st : RSt) (i j : Nat) (x : RPart) (hi : i < st.parts.length) : (st.setPart i x).part j = if j = i then x else st.part j := by
  unfold RSt.part RSt.setPart
  simp only
  rw [List.getD_eq_getElem?_getD, List.getD_eq_getElem?_getD, List.getElem?_set]
  by_cases e : i = j
  · subst e
    simp [hi]
  · rw [if_neg e, if_neg (by omega)]
theorem Iv.set {c : Nat} {w : Int} {p q : Pt} {s : SF} (h : Iv c w p q s) (i : Nat) (x : RPart) (hi : i < 2) (hx : 1 ≤ x.procs.length ∧ x.procs.length ≤ 2) : Iv c w p q (s.1.setPart i x, s.2) := by
  refine ⟨h.cf, by show (s.1.parts.set i x).length = 2; rw [List.length_set]; exact h.len, h.dead, h.live, h.jl, fun j hj => ?_⟩
  rw [part_setX s.1 i j x (by rw [h.len]; exact hi)]
  split
  · exact hx
  · exact h.pl j hj
end Go.Proofs.YtnjlbgolnbdkaaaGreat
namespace Go.Proofs.YtnjlbgolnbdkaaaGreat
open Go.RowKit

def prK (l : List Int) : Pr := if l = [] then ⟨0, [(0, 0)]⟩ else ⟨pickOf (l.getD 0 0) 10, (l.take (min l.length 20)).map fun x => (opK x, argK (min l.length 20) x)⟩
def ptK (limit : Int) (acts one two : List Int) : Pt := ⟨false, 4, limit, actsK acts 6, if two = [] then [prK one] else [prK one, prK two]⟩
theorem enc_code (l : List Int) : encPr (prK l) = codeK l := by
  unfold encPr prK codeK
  by_cases h : l = []
  · rw [if_pos h, if_pos h]
    rfl
  · rw [if_neg h, if_neg h]
    simp only [List.length_map, List.length_take]
    rw [show min (min l.length 20) l.length = min l.length 20 by omega, List.flatMap_map]
    rfl
theorem enc_part (limit : Int) (acts one two : List Int) : encPt (ptK limit acts one two) = partK limit acts one two := by
  unfold encPt ptK partK
  by_cases h : two = []
  · rw [if_pos h, if_pos h]
    simp [enc_code]
  · rw [if_neg h, if_neg h]
    simp [enc_code]
theorem prK_fit (l : List Int) : PrFit (prK l) := by
  unfold prK
  by_cases h : l = []
  · rw [if_pos h]
    exact ⟨by decide, by decide, by decide⟩
  · rw [if_neg h]
    have hl : 0 < l.length := List.length_pos_iff.2 h
    have h1 := pickOf_nonneg (l.getD 0 0) 10 (by omega)
    have h2 := pickOf_lt (l.getD 0 0) 10 (by omega)
    have hln : ((l.take (min l.length 20)).map fun x => (opK x, argK (min l.length 20) x)).length = min l.length 20 := by
      rw [List.length_map, List.length_take]
      omega
    refine ⟨by simp only; omega, by simp only; rw [hln]; omega, fun x hx => ?_⟩
    simp only at hx ⊢
    rw [hln]
    obtain ⟨z, -, rfl⟩ := List.mem_map.1 hx
    have h3 := opK_rng z
    have h4 := argK_rng (min l.length 20) z (by omega) (by omega)
    simp only
    refine ⟨by omega, h4.1, ?_⟩
    split
    · rename_i e
      unfold argK
      rw [if_pos e]
      have := Int.emod_lt_of_pos (pickOf z 1099511627776 / 12) (b := ((min l.length 20 : Nat) : Int)) (by omega)
      omega
    · omega
theorem ptK_procs (limit : Int) (acts one two : List Int) : ∀ q ∈ (ptK limit acts one two).procs, q = prK one ∨ q = prK two := by
  unfold ptK
  simp only
  split
  · intro q hq
    simp at hq
    exact .inl hq
  · intro q hq
    simpa using hq
theorem ptK_many (limit : Int) (acts one two : List Int) : 1 ≤ (ptK limit acts one two).procs.length ∧ (ptK limit acts one two).procs.length ≤ 2 := by
  unfold ptK
  simp only
  split <;> simp
theorem ptK_fit (limit : Int) (acts one two : List Int) (hl : 0 ≤ limit ∧ limit ≤ 9) : PtFit (ptK limit acts one two) := by
  refine ⟨by show (1 : Int) ≤ 4 ∧ (4 : Int) ≤ 16; omega, hl, actsK_len acts 6, fun a ha => ?_, ?_, ptK_many limit acts one two, fun q hq => ?_⟩
  · have ha' : a ∈ actsK acts 6 := ha
    simp only [actsK, List.mem_map] at ha'
    obtain ⟨i, -, rfl⟩ := ha'
    have := actK_rng acts i
    omega
  · show (actsK acts 6).getD 5 0 ≠ 2 ∧ (actsK acts 6).getD 5 0 ≠ 3
    have e : (actsK acts 6).getD 5 0 = actK acts 5 := rfl
    rw [e]
    unfold actK
    split
    · omega
    · rename_i h
      constructor
      · intro e2; exact h ⟨rfl, .inl e2⟩
      · intro e2; exact h ⟨rfl, .inr e2⟩
  · rcases ptK_procs limit acts one two q hq with rfl | rfl
    · exact prK_fit one
    · exact prK_fit two
theorem log_N3 : logOf flN.bs = [] := by
  have h : (logOf flN.bs).length = 0 := by decide +kernel
  exact List.length_eq_zero_iff.1 h
theorem jl_N : Jl 0 flN.bs := by
  refine .inl ⟨by decide +kernel, fun s i hs hi => ?_⟩
  have h : ∀ s : Fin 2, ∀ i : Fin 8, slotB flN.bs s.1 i.1 = blank := by decide +kernel
  exact h ⟨s, hs⟩ ⟨i, hi⟩
theorem rest_N (i : Nat) : restartsOf flN.bs i = 0 := by
  have h : (sectorsOf flN.bs).1 = -1 := by decide +kernel
  unfold restartsOf
  rw [h]
  rfl
end Go.Proofs.YtnjlbgolnbdkaaaGreat
