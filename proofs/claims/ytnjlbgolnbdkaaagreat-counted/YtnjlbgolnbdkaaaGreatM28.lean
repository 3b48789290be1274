/- Texts of the proof of Apart, one behind the other. -/
import Derived.Test.YtnjlbgolnbdkaaaGreatM27
namespace Go.Proofs.YtnjlbgolnbdkaaaGreat
open Go.RowKit

abbrev Bw := Int × Int × Int
structure Blows (w : World) (v : Value) (l : List Bw) : Prop where
  len : l.length ≤ 9223372036854775807
  rng : ∀ x ∈ l, (-9223372036854775808 ≤ x.2.1 ∧ x.2.1 ≤ 9223372036854775807) ∧ -9223372036854775808 ≤ x.2.2 ∧ x.2.2 ≤ 9223372036854775807
  lies : ∃ ao c, v = .slice ao l.length c ∧ (0 < l.length → ∃ b off, ao = some ⟨b, off, none⟩ ∧ b < w.heap.size ∧ ∀ i, i < l.length → w.cell? ⟨b, off + i * 3 + 1, none⟩ = some (.int .i64 (l.getD i default).2.1) ∧ w.cell? ⟨b, off + i * 3 + 2, none⟩ = some (.int .i64 (l.getD i default).2.2))
theorem Blows.nil (w : World) (ao : Option Addr) (c : Nat) : Blows w (.slice ao 0 c) [] := ⟨by simp, by simp, ao, c, rfl, by simp⟩
theorem Blows.below {w w' : World} {v : Value} {l : List Bw} {base : Nat} (h : Blows w v l) (hb : Below base w w') (hB : w.heap.size ≤ base) : Blows w' v l := by
  obtain ⟨h1, h2, ao, c, hv, h3⟩ := h
  refine ⟨h1, h2, ao, c, hv, fun h0 => ?_⟩
  obtain ⟨b, off, ha, hl, hc⟩ := h3 h0
  have hx : ∀ o, w'.cell? ⟨b, o, none⟩ = w.cell? ⟨b, o, none⟩ := fun o => hb.cell (p := ⟨b, o, none⟩) (Nat.lt_of_lt_of_le hl hB)
  exact ⟨b, off, ha, Nat.lt_of_lt_of_le hl hb.size, fun i hi => ⟨(hx _).trans (hc i hi).1, (hx _).trans (hc i hi).2⟩⟩
theorem pick_nat (a : Int) (n : Nat) (hn : 0 < n) : pickOf a n = (((pickOf a n).toNat : Nat) : Int) ∧ (pickOf a n).toNat < n := by
  have h1 := pickOf_nonneg a n (by omega)
  have h2 := pickOf_lt a n (by omega)
  omega
theorem Blows.get {w : World} {v : Value} {l : List Bw} (h : Blows w v l) (k : Nat) (hk : k < l.length) : (-9223372036854775808 ≤ (l.getD k default).2.1 ∧ (l.getD k default).2.1 ≤ 9223372036854775807) ∧ -9223372036854775808 ≤ (l.getD k default).2.2 ∧ (l.getD k default).2.2 ≤ 9223372036854775807 := by
  refine h.rng _ ?_
  rw [List.getD_eq_getElem?_getD, List.getElem?_eq_getElem hk]
  simp
theorem kboot2 (base base' : Nat) (v : Value) (zs : List Int) (g : Nat) (F : Fl) (w : World) (hz : Bys base' w v zs) (h0 : 0 < zs.length) (hn : zs.length ≤ 100000) (hF : FlAt w g F) (hok : FlOk F) (hg : base ≤ g) (hb : base ≤ w.heap.size) (hp : (parseOf zs).2.2 = 0) :
    Calls Tryz.prog 11 #[v, .pointer (some ⟨g, 0, none⟩)] w fun e w' => ∃ kb L, e = .returned (.tuple #[.pointer (some ⟨kb, 0, none⟩), .int .i64 0]) ∧ Kp base w' kb L g (bootSt (parseOf zs).1 F.bs, F) ∧ Below w.heap.size w w' := by
  obtain ⟨gz, c, rfl, hh⟩ := hz.held h0
  refine (pboot_any (some ⟨gz, 0, none⟩) zs.length c zs g F.bs F.left F.res F.dead F.done w hh (by omega) hF).mono ?_
  rintro e w1 ⟨h1 | ⟨_, kb, L, rfl, hk, hlo⟩, hb1⟩
  · exact absurd hp h1.1
  · refine ⟨kb, L, rfl, ⟨⟨hk.box, ⟨hk.mach, hk.lay, hk.ok, FlashAt.below hF hb1, hok⟩⟩, ⟨kboot_run _ _ hk.ok, hk.ok⟩, Nat.le_trans hb hb1.size, ?_⟩, hb1⟩
    intro b hd
    have hlo2 : ∀ x, MBlk L (bootSt (parseOf zs).1 F.bs) x → base ≤ x := fun x hx => Nat.le_trans hb (hlo x (.inr hx))
    rcases hd with rfl | rfl | ⟨i, hi, rfl | rfl⟩ | ⟨j, hj, rfl⟩ | rfl
    · exact hlo2 _ (.inl rfl)
    · exact hlo2 _ (.inr (.inl rfl))
    · exact hlo2 _ (.inr (.inr (.inr (.inr (.inl ⟨i, hi, .inl rfl⟩)))))
    · exact hlo2 _ (.inr (.inr (.inr (.inr (.inl ⟨i, hi, .inr (.inl rfl)⟩)))))
    · exact hlo2 _ (.inr (.inr (.inr (.inr (.inr (.inl ⟨j, hj, rfl⟩))))))
    · exact hg
end Go.Proofs.YtnjlbgolnbdkaaaGreat
namespace Go.Proofs.YtnjlbgolnbdkaaaGreat
open Go.RowKit

end Go.Proofs.YtnjlbgolnbdkaaaGreat
