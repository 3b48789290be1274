/- Counted: the blows, the start, what a round does. -/
import Derived.Test.YtnjlbgolnbdkaaaGreatCm
namespace Go.Proofs.YtnjlbgolnbdkaaaGreat
open Go.RowKit

structure Blws (w : World) (v : Value) (l : List Bw) : Prop where
  len : l.length ≤ 9223372036854775807
  rng : ∀ x ∈ l, (-9223372036854775808 ≤ x.1 ∧ x.1 ≤ 9223372036854775807) ∧ (-9223372036854775808 ≤ x.2.1 ∧ x.2.1 ≤ 9223372036854775807) ∧ -9223372036854775808 ≤ x.2.2 ∧ x.2.2 ≤ 9223372036854775807
  lies : ∃ ao c, v = .slice ao l.length c ∧ (0 < l.length → ∃ b off, ao = some ⟨b, off, none⟩ ∧ b < w.heap.size ∧ ∀ i, i < l.length → w.cell? ⟨b, off + i * 3, none⟩ = some (.int .i64 (l.getD i default).1) ∧ w.cell? ⟨b, off + i * 3 + 1, none⟩ = some (.int .i64 (l.getD i default).2.1) ∧ w.cell? ⟨b, off + i * 3 + 2, none⟩ = some (.int .i64 (l.getD i default).2.2))
theorem Blws.nil (w : World) (ao : Option Addr) (c : Nat) : Blws w (.slice ao 0 c) [] := ⟨by simp, by simp, ao, c, rfl, by simp⟩
theorem Blws.get {w : World} {v : Value} {l : List Bw} (h : Blws w v l) (k : Nat) (hk : k < l.length) : (-9223372036854775808 ≤ (l.getD k default).1 ∧ (l.getD k default).1 ≤ 9223372036854775807) ∧ (-9223372036854775808 ≤ (l.getD k default).2.1 ∧ (l.getD k default).2.1 ≤ 9223372036854775807) ∧ -9223372036854775808 ≤ (l.getD k default).2.2 ∧ (l.getD k default).2.2 ≤ 9223372036854775807 := by
  refine h.rng _ ?_
  rw [List.getD_eq_getElem?_getD, List.getElem?_eq_getElem hk]
  simp
def Fin2 (n ta : Int) (k : Nat) (r e : Int) (s : SF) : Prop := (e = 0 ∧ Up (ptC n ta) ptO s ∧ Cw n k r s.2.bs) ∨ (e = 6 ∧ Cw n k r s.2.bs)
theorem Fin2.cw {n ta : Int} {k : Nat} {r e : Int} {s : SF} (h : Fin2 n ta k r e s) : Cw n k r s.2.bs := by
  rcases h with h | h
  · exact h.2.2
  · exact h.2
theorem Cw.mono {n : Int} {k k' : Nat} {r : Int} {bs : List Int} (h : Cw n k r bs) (hk : k ≤ k') : Cw n k' r bs := ⟨h.1.mono hk, h.2⟩
theorem count_one {n r ta : Int} {k : Nat} {s : SF} (h : Up (ptC n ta) ptO s) (hw : Cw n k r s.2.bs) (ht : ta = 3 ∨ ta = 4) (hn : n ≤ 9) (hk : k + 1 < 2147483648) (code : Nat) (hc : code ≤ 4) :
    ∃ e s', injectCall 0 0 code s = (e, s') ∧ s'.1.parts.length = 2 ∧ (e = 0 ∨ e = 6) ∧ Fin2 n ta (k + 1) (if e = 0 ∧ (s.1.part 0).mode ≠ 3 ∧ (s'.1.part 0).mode = 5 - ta then r + 1 else r) e s' := by
  obtain ⟨s', ⟨e, hu, hc⟩ | ⟨e, hc, hl⟩⟩ := count_first h hw ht hn hk code hc
  · refine ⟨0, s', e, hu.len, .inl rfl, .inl ⟨rfl, hu, ?_⟩⟩
    simpa using hc
  · refine ⟨6, s', e, hl, .inr rfl, .inr ⟨rfl, ?_⟩⟩
    simpa using hc
theorem count_two {n r ta : Int} {k : Nat} {s : SF} (h : Up (ptC n ta) ptO s) (hw : Cw n k r s.2.bs) (hk : k + 1 < 2147483648) :
    ∃ e s', injectCall 1 0 0 s = (e, s') ∧ s'.1.parts.length = 2 ∧ Fin2 n ta (k + 1) r e s' := by
  obtain ⟨s', ⟨e, hu, hc⟩ | ⟨e, hc, hl⟩⟩ := count_second h hw hk
  · exact ⟨0, s', e, hu.len, .inl ⟨rfl, hu, hc⟩⟩
  · exact ⟨6, s', e, hl, .inr ⟨rfl, hc⟩⟩
theorem count_tick {n ta : Int} {k : Nat} {r : Int} {F : Fl} {base : Nat} {w : World} {kb : Nat} {L : MLay} {g : Nat} (h : Kp base w kb L g (bootSt (cfD (ptC n ta) ptO) F.bs, F)) (hd : F.dead = false) (hw : Cw n k r F.bs) :
    ∃ s', tickCall 3 (bootSt (cfD (ptC n ta) ptO) F.bs, F) = ((3, 0), s') ∧ Up (ptC n ta) ptO s' ∧ Cw n k r s'.2.bs := by
  obtain ⟨s', e, hq, h2⟩ := ticks_still (boot_still (ptC n ta) ptO F) (ptC_still n ta) ptO_still 3
  have ht := tickCall_all (bootSt (cfD (ptC n ta) ptO) F.bs, F) s' 3 (by omega) rfl e hq.dead
  have htk := tickCall_tk 3 (bootSt (cfD (ptC n ta) ptO) F.bs, F) h.run (by show (0 : Int) + 1000 ≤ 1000000000000; omega)
  have ht' : tickCall 3 (bootSt (cfD (ptC n ta) ptO) F.bs, F) = ((3, 0), s') := ht
  rw [ht'] at htk
  have h2' : s'.2 = F := h2
  refine ⟨s', ht', ⟨hq.cf, hq.dead, by rw [h2']; exact hd, by rw [h2']; exact h.kn.mo.flok, htk.run⟩, by rw [h2']; exact hw⟩
theorem cw_start (n : Int) (hn : 0 ≤ n) : Cw n 0 0 flN.bs := by
  refine ⟨.inl ⟨by decide +kernel, ?_, ?_⟩, ?_, ?_⟩
  · have h := (jl_N)
    rcases h with ⟨_, h⟩ | ⟨s, k, gen, h⟩
    · exact head_blank (h 0 0 (by omega) (by omega))
    · have := h.gens
      omega
  · have h := (jl_N)
    rcases h with ⟨_, h⟩ | ⟨s, k, gen, h⟩
    · exact head_blank (h 1 0 (by omega) (by omega))
    · have := h.gens
      omega
  · rw [rest_N 0]
    exact Int.le_refl _
  · rw [rest_N 0]
    exact hn
end Go.Proofs.YtnjlbgolnbdkaaaGreat
