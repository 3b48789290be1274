/- Texts of the proof of Boots, one behind the other. -/
import Derived.Test.YtnjlbgolnbdkaaaGreatJ42
/- The statement Boots: the walk. -/
namespace Go.Proofs.YtnjlbgolnbdkaaaGreat
open Go.RowKit

set_option maxRecDepth 100000 in
set_option maxHeartbeats 8000000 in
theorem boots_walk (ao : Option Addr) (n cap : Nat) (zs : List Int) (bo : Option Addr) (m mcap : Nat) (ys : List Int) (w : World) (hz : Held w ao n cap zs) (hn : n ≤ 140737488351232) (hy : Held w bo m mcap ys) (hm : m ≤ 140737488351232) :
    Calls Tryz.prog 3 #[.slice ao n cap, .slice bo m mcap] w fun e w' => e = .returned (.bool true) ∧ Below w.heap.size w w' := by
  have HZ := hide hz
  have HY := hide hy
  clear hz hy
  have HRA := hide (raiser_any w)
  go_enter Tryz.func3, Tryz.ntmps3
  go_wp2_with fail
  refine HRA.out.mono ?_
  rintro e w1 ⟨x, rfl, hx, hb1⟩
  have HX := hide hx
  have HB1 := hide hb1
  have HN1 := hide (newFlash_any none 0 0 [] w1 ⟨rfl, by omega, by omega, fun z hz => by simp at hz, fun _ => rfl, fun ad e => by simp at e, fun ad e => by simp at e⟩ (by omega))
  clear hx hb1 HRA
  go_wp2_with fail
  refine HN1.out.mono ?_
  rintro e w2 ⟨g, rfl, hg, hF, hb2⟩
  have HP2 := hide (pboot_any (some ⟨x, 0, none⟩) 27 27 raiserBs g _ _ _ _ _ w2 (HX.out.touch (Touch.ofBelow (S := fun _ => False) hb2) (fun _ _ _ h => h)) (by omega) hF)
  have HB2 : Hid (Below w.heap.size w w2) := HB1.out.trans (hb2.mono HB1.out.size)
  clear hg hF hb2 HN1
  go_wp2_with fail
  refine HP2.out.mono ?_
  rintro e w3 ⟨⟨h, _⟩ | ⟨_, kb, M, rfl, _, _⟩, hb3⟩
  · exact absurd raiser_good h
  have hB3 : Below w.heap.size w w3 := HB2.out.trans (hb3.mono HB2.out.size)
  have HR3 := hide (lrun_any ao n cap zs bo m mcap ys w3 (HZ.out.touch (Touch.ofBelow (S := fun _ => False) hB3) (fun _ _ _ h => h)) hn (HY.out.touch (Touch.ofBelow (S := fun _ => False) hB3) (fun _ _ _ h => h)) hm)
  have HB3 := hide hB3
  clear hB3 hb3 HP2
  go_wp2_with fail
  refine HR3.out.mono ?_
  rintro e w4 ⟨rfl, hb4⟩
  have HB4 : Hid (Below w.heap.size w w4) := HB3.out.trans (hb4.mono HB3.out.size)
  clear hb4
  go_wp2
  go_ret
  exact ⟨rfl, HB4.out⟩
end Go.Proofs.YtnjlbgolnbdkaaaGreat
