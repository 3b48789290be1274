/- A slot that is laid, a sector that is erased, a sector that is begun: with the power as it may be. Plain. -/
import Derived.Test.YtnjlbgolnbdkaaaGreatCf
namespace Go.Proofs.YtnjlbgolnbdkaaaGreat
open Go.RowKit

theorem lay_any {F : Fl} (hok : FlOk F) (hd : F.dead = false) {s i : Nat} (hs : s < 2) (hi : i < 8) (hb : slotB F.bs s i = blank) {sl : List Int} (hsl : sl.length = 16) (h0 : sl.getD 0 0 = 0) (hby : Bytes sl) :
    ∃ b F', F.lay (128 * s + 16 * i) sl = (b, F') ∧ FlOk F' ∧ F'.dead = !b ∧ (∀ s' i', s' < 2 → i' < 8 → ¬ (s' = s ∧ i' = i) → slotB F'.bs s' i' = slotB F.bs s' i') ∧ (slotB F'.bs s i = sl ∨ (b = false ∧ kindAt F'.bs s i ≠ 3)) := by
  have hl := hok.len
  have hok' := hok.lay (128 * s + 16 * i) sl
  have hbl := blank_get hl hs hi hb
  have whole : ∀ F' : Fl, F.lay (128 * s + 16 * i) sl = (true, F') → F'.dead = false → F'.bs.length = 256 → (∀ j, F'.bs.getD j 0 = if 128 * s + 16 * i ≤ j ∧ j < 128 * s + 16 * i + 16 then sl.getD (j - (128 * s + 16 * i)) 0 else F.bs.getD j 0) → ∃ b F', F.lay (128 * s + 16 * i) sl = (b, F') ∧ FlOk F' ∧ F'.dead = !b ∧ (∀ s' i', s' < 2 → i' < 8 → ¬ (s' = s ∧ i' = i) → slotB F'.bs s' i' = slotB F.bs s' i') ∧ (slotB F'.bs s i = sl ∨ (b = false ∧ kindAt F'.bs s i ≠ 3)) := by
    intro F' e d l g
    have sl1 := slot_laid hl l hs hi hsl g
    rw [e] at hok'
    refine ⟨true, F', e, hok', d, fun s' i' a b c => by rw [sl1 s' i' a b, if_neg c], .inl (by rw [sl1 s i hs hi, if_pos ⟨rfl, rfl⟩])⟩
  have hlf := hok.left
  by_cases h1 : F.left = -1
  · obtain ⟨F', e, h, l, g⟩ := lay_live ⟨h1, hd⟩ hl (128 * s + 16 * i) sl (by omega) hbl hby
    exact whole F' e h.dead l g
  · obtain ⟨L, hL⟩ : ∃ L : Nat, F.left = L := ⟨F.left.toNat, by omega⟩
    by_cases h16 : 16 ≤ L
    · obtain ⟨F', e, h, -, l, g⟩ := lay_has ⟨hL, hd⟩ hl (128 * s + 16 * i) sl (by omega) hbl hby h16
      exact whole F' e h.dead l g
    · obtain ⟨F', e, d, l, o, f⟩ := lay_cut ⟨hL, hd⟩ hl (128 * s + 16 * i) sl (by omega) hbl hby (by omega)
      obtain ⟨t1, t2⟩ := slot_torn hl l hs hi hsl h0 hok.res o f
      rw [e] at hok'
      exact ⟨false, F', e, hok', d, t1, t2.symm.imp_right fun h => ⟨rfl, h⟩⟩
theorem wipe_any {F : Fl} (hok : FlOk F) (hd : F.dead = false) {s : Nat} (hs : s < 2) :
    ∃ b F', F.erase s = (b, F') ∧ FlOk F' ∧ F'.dead = !b ∧ (∀ i, i < 8 → slotB F'.bs (1 - s) i = slotB F.bs (1 - s) i) ∧ ((b = true ∧ ∀ i, i < 8 → slotB F'.bs s i = blank) ∨ (b = false ∧ ∀ i, i < 8 → slotB F'.bs s i = slotB F.bs s i) ∨ (b = false ∧ ∀ i, i < 8 → kindAt F'.bs s i ≠ 3)) := by
  have hl := hok.len
  have hok' := hok.erase s
  by_cases h1 : F.left = 0
  · obtain ⟨F', e, d, l, g⟩ := erase_cut hd h1 hl s hs
    obtain ⟨t1, t2⟩ := erase_leaves hl l hok.bytes hs hok.res g
    rw [e] at hok'
    exact ⟨false, F', e, hok', d, fun i hi => t1 (1 - s) i (by omega) hi (by omega), .inr (t2.imp (fun h => ⟨rfl, h⟩) fun h => ⟨rfl, h⟩)⟩
  · have hA1 := eraTo_len (fun _ => 255) (128 * s) F.bs 128
    have hA2 := eraTo_get (fun _ => 255) (128 * s) F.bs 128 (by rw [hl]; omega)
    have he : ∃ F', F.erase s = (true, F') ∧ F'.dead = false ∧ F'.bs.length = 256 ∧ ∀ j, F'.bs.getD j 0 = if 128 * s ≤ j ∧ j < 128 * s + 128 then 255 else F.bs.getD j 0 := by
      unfold Fl.erase
      generalize eraTo (fun x => bor8 x F.res) (128 * s) F.bs 128 = A at *
      generalize eraTo (fun _ => 255) (128 * s) F.bs 128 = B at *
      rw [if_neg (by rw [hd]; simp), if_neg h1]
      exact ⟨_, rfl, hd, hA1.trans hl, hA2⟩
    obtain ⟨F', e, d, l, g⟩ := he
    have s1 := slot_erased hl l g
    rw [e] at hok'
    exact ⟨true, F', e, hok', d, fun i hi => by rw [s1 (1 - s) i (by omega) hi, if_neg (by omega)], .inl ⟨rfl, fun i hi => by rw [s1 s i hs hi, if_pos rfl]⟩⟩
def Turned (b : Bool) (bs bs' : List Int) (o : Nat) (hdr new : List Int) : Prop :=
  (b = false ∧ ∀ i, i < 8 → slotB bs' o i = slotB bs o i) ∨ (b = false ∧ ∀ i, i < 8 → kindAt bs' o i ≠ 3) ∨
    (slotB bs' o 0 = hdr ∧ (∀ i, 2 ≤ i → i < 8 → slotB bs' o i = blank) ∧ (slotB bs' o 1 = new ∨ (b = false ∧ kindAt bs' o 1 ≠ 3)))
theorem sector_any {F : Fl} (hok : FlOk F) (hd : F.dead = false) {o : Nat} (ho : o < 2) (gen cnt part code q act : Int) :
    ∃ b F', (andB (F.erase o) fun F1 => andB (F1.lay (128 * o) (slotOf 2 0 0 gen cnt)) fun F2 => F2.lay (128 * o + 16) (slotOf 1 part code q act)) = (b, F') ∧ FlOk F' ∧ F'.dead = !b ∧ (∀ i, i < 8 → slotB F'.bs (1 - o) i = slotB F.bs (1 - o) i) ∧
      Turned b F.bs F'.bs o (slotOf 2 0 0 gen cnt) (slotOf 1 part code q act) := by
  obtain ⟨b1, F1, e1, k1, d1, a1, c1⟩ := wipe_any hok hd ho
  rw [e1]
  cases b1 with
  | false =>
    refine ⟨false, F1, rfl, k1, d1, a1, ?_⟩
    rcases c1 with ⟨h, -⟩ | ⟨-, h⟩ | ⟨-, h⟩
    · cases h
    · exact .inl ⟨rfl, h⟩
    · exact .inr (.inl ⟨rfl, h⟩)
  | true =>
    have s1 : ∀ i, i < 8 → slotB F1.bs o i = blank := by
      rcases c1 with ⟨-, h⟩ | ⟨h, -⟩ | ⟨h, -⟩
      · exact h
      · cases h
      · cases h
    rw [andB_yes]
    obtain ⟨b2, F2, e2, k2, d2, a2, c2⟩ := lay_any k1 d1 ho (show 0 < 8 by omega) (s1 0 (by omega)) (slotOf_length 2 0 0 gen cnt) (slotOf_first 2 0 0 gen cnt) (slotOf_bytes 2 0 0 gen cnt)
    rw [Nat.mul_zero, Nat.add_zero] at e2
    rw [e2]
    have oth2 : ∀ i, i < 8 → slotB F2.bs (1 - o) i = slotB F.bs (1 - o) i := fun i hi => by rw [a2 (1 - o) i (by omega) hi (by omega), a1 i hi]
    have rest2 : ∀ i, 1 ≤ i → i < 8 → slotB F2.bs o i = blank := fun i h1 h2 => by rw [a2 o i ho h2 (by omega), s1 i h2]
    cases b2 with
    | false =>
      refine ⟨false, F2, rfl, k2, d2, oth2, ?_⟩
      rcases c2 with c2 | ⟨-, c2⟩
      · refine .inr (.inr ⟨c2, fun i h1 h2 => rest2 i (by omega) h2, .inr ⟨rfl, ?_⟩⟩)
        rw [kind_blank (rest2 1 (by omega) (by omega))]
        decide
      · refine .inr (.inl ⟨rfl, fun i hi => ?_⟩)
        by_cases e : i = 0
        · subst e
          exact c2
        · rw [kind_blank (rest2 i (by omega) hi)]
          decide
    | true =>
      rw [andB_yes]
      have hh : slotB F2.bs o 0 = slotOf 2 0 0 gen cnt := by
        rcases c2 with c2 | ⟨h, -⟩
        · exact c2
        · cases h
      obtain ⟨b3, F3, e3, k3, d3, a3, c3⟩ := lay_any k2 d2 ho (show 1 < 8 by omega) (rest2 1 (by omega) (by omega)) (slotOf_length 1 part code q act) (slotOf_first 1 part code q act) (slotOf_bytes 1 part code q act)
      rw [Nat.mul_one] at e3
      rw [e3]
      refine ⟨b3, F3, rfl, k3, d3, fun i hi => by rw [a3 (1 - o) i (by omega) hi (by omega), oth2 i hi], .inr (.inr ⟨?_, fun i h1 h2 => ?_, c3⟩)⟩
      · rw [a3 o 0 ho (by omega) (by omega), hh]
      · rw [a3 o i ho h2 (by omega), rest2 i (by omega) h2]
end Go.Proofs.YtnjlbgolnbdkaaaGreat
