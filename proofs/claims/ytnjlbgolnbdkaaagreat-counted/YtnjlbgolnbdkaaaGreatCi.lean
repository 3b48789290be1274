/- An append, with the power as it may be: what becomes of the counts. Plain. -/
import Derived.Test.YtnjlbgolnbdkaaaGreatCh
namespace Go.Proofs.YtnjlbgolnbdkaaaGreat
open Go.RowKit

theorem app_any {F : Fl} {c : Nat} (hok : FlOk F) (hd : F.dead = false) (hJ : Jh c F.bs) (hc : c + 1 < 2147483648) (part : Nat) (code act : Int) (hp : part < 256) (ha : 0 ≤ act ∧ act < 256) :
    ∃ b F', F.app part code act = (b, F') ∧ FlOk F' ∧ F'.dead = !b ∧ Jh (c + 1) F'.bs ∧ ((∀ p, p < 4 → restartsOf F'.bs p = rnext p part act (restartsOf F.bs p)) ∨ (b = false ∧ ∀ p, p < 4 → restartsOf F'.bs p = restartsOf F.bs p)) := by
  have hend : ∀ (bs : List Int) (s i : Nat) (q : Int), slotB bs s i = slotOf 1 part code q act → recOf bs s i 1 = part ∧ recOf bs s i 4 = act := fun bs s i q h => by
    rw [rec_good h, rec_good h]
    simp only
    omega
  rcases hJ with ⟨hl, b0, b1⟩ | ⟨s, k, gen, hJ⟩
  · have es : sectorsOf F.bs = (-1, -1) := by unfold sectorsOf sectOf; rw [b0, b1]; rfl
    obtain ⟨b, F', e, k1, d1, a1, c1⟩ := app_out0 hok hd b0 b1 part code act
    have hb1 : headB F'.bs 1 = false := by rw [(head_congr (a1 0 (by omega))).1, b1]
    refine ⟨b, F', e, k1, d1, ?_⟩
    have none : headB F'.bs 0 = false → b = false → Jh (c + 1) F'.bs ∧ ((∀ p, p < 4 → restartsOf F'.bs p = rnext p part act (restartsOf F.bs p)) ∨ (b = false ∧ ∀ p, p < 4 → restartsOf F'.bs p = restartsOf F.bs p)) := by
      intro h0 hbf
      have es' : sectorsOf F'.bs = (-1, -1) := by unfold sectorsOf sectOf; rw [h0, hb1]; rfl
      refine ⟨.inl ⟨k1.len, h0, hb1⟩, .inr ⟨hbf, fun p _ => ?_⟩⟩
      unfold restartsOf
      rw [es, es']
      rfl
    rcases c1 with ⟨hbf, h⟩ | ⟨hbf, h⟩ | ⟨hh, hr, hn⟩
    · exact none (by rw [(head_congr (h 0 (by omega))).1, b0]) hbf
    · exact none (head_none (h 0 (by omega))) hbf
    · obtain ⟨harg, hB⟩ := sector_on (c := c + 1) k1.len (show 0 < 2 by omega) (by omega) (allRest_rng F.bs) hh hr rfl hn (.inl hb1)
      rcases hB with ⟨hs1, hj, hf⟩ | ⟨hbf, ⟨k', hj⟩, hf⟩
      · obtain ⟨-, -, f3, -, -⟩ := hj.facts hc
        obtain ⟨r1, r4⟩ := hend _ _ _ _ hs1
        refine ⟨.inr ⟨0, 2, 1, hj⟩, .inl fun p hp4 => ?_⟩
        rw [rest_of f3 p, hf, harg, allRest_get F.bs p hp4]
        simp only [List.foldl_cons, List.foldl_nil, rstep_rnext, r1, r4]
      · obtain ⟨-, -, f3, -, -⟩ := hj.facts hc
        refine ⟨.inr ⟨0, k', 1, hj⟩, .inr ⟨hbf, fun p hp4 => ?_⟩⟩
        rw [rest_of f3 p, hf, harg, allRest_get F.bs p hp4]
        rfl
  · obtain ⟨f1, f2, f3, f4, f5⟩ := hJ.facts (by omega)
    have hg := hJ.gens
    have hs2 := hJ.s2
    obtain ⟨b, F', e, k1, d1, c1⟩ := app_out hok hd hJ (by omega) part code act
    refine ⟨b, F', e, k1, d1, ?_⟩
    rcases c1 with ⟨h8, ho, hn⟩ | ⟨h8, ho, c1⟩
    · rcases hn with hn | ⟨hbf, hn⟩
      · obtain ⟨hj, harg, hf⟩ := hJ.put h8 k1.len ho hn
        obtain ⟨-, -, f3', -, -⟩ := hj.facts hc
        obtain ⟨r1, r4⟩ := hend _ _ _ _ hn
        refine ⟨.inr ⟨s, k + 1, gen, hj⟩, .inl fun p hp4 => ?_⟩
        rw [rest_of f3' p, rest_of f3 p, hf, harg]
        simp only [List.foldl_append, List.foldl_cons, List.foldl_nil, rstep_rnext, r1, r4]
      · obtain ⟨⟨k', hj⟩, hr⟩ := hJ.torn (by omega) h8 k1.len ho hn
        exact ⟨.inr ⟨s, k', gen, hj.mono (by omega)⟩, .inr ⟨hbf, fun p _ => hr p⟩⟩
    · rcases c1 with ⟨hbf, h⟩ | ⟨hbf, h⟩ | ⟨hh, hr, hn⟩
      · obtain ⟨hj, hr⟩ := hJ.aside (by omega) k1.len ho (by
          obtain ⟨c1, c2, -⟩ := head_congr (h 0 (by omega))
          rw [c1, c2]
          exact hJ.other)
        exact ⟨.inr ⟨s, k, gen, hj.mono (by omega)⟩, .inr ⟨hbf, fun p _ => hr p⟩⟩
      · obtain ⟨hj, hr⟩ := hJ.aside (by omega) k1.len ho (.inl (head_none (h 0 (by omega))))
        exact ⟨.inr ⟨s, k, gen, hj.mono (by omega)⟩, .inr ⟨hbf, fun p _ => hr p⟩⟩
      · obtain ⟨g1, g2, -⟩ := head_congr (ho 0 (by omega))
        obtain ⟨harg, hB⟩ := sector_on (c := c + 1) k1.len (show 1 - s < 2 by omega) (by omega) (allRest_rng F.bs) hh hr rfl hn (.inr (by
          rw [show 1 - (1 - s) = s by omega, g1, g2]
          exact ⟨f1, by rw [f2]; omega⟩))
        rcases hB with ⟨hs1, hj, hf⟩ | ⟨hbf, ⟨k', hj⟩, hf⟩
        · obtain ⟨-, -, f3', -, -⟩ := hj.facts hc
          obtain ⟨r1, r4⟩ := hend _ _ _ _ hs1
          refine ⟨.inr ⟨1 - s, 2, gen + 1, hj⟩, .inl fun p hp4 => ?_⟩
          rw [rest_of f3' p, hf, harg, allRest_get F.bs p hp4]
          simp only [List.foldl_cons, List.foldl_nil, rstep_rnext, r1, r4]
        · obtain ⟨-, -, f3', -, -⟩ := hj.facts hc
          refine ⟨.inr ⟨1 - s, k', gen + 1, hj⟩, .inr ⟨hbf, fun p hp4 => ?_⟩⟩
          rw [rest_of f3' p, hf, harg, allRest_get F.bs p hp4]
          rfl
end Go.Proofs.YtnjlbgolnbdkaaaGreat
