/- Proved: the law All of package bulwarklaw answers true for every two lists of bytes and every script, and its arguments read behind the call as before, where the arguments hold together at most 1048576 values (the second form, AllUptoSaid). -/
import Derived.Test.YtnjlbgolnbdkaaaGreatRows
import Derived.Test.YtnjlbgolnbdkaaaGreatP50
import Derived.WalkKit
import Derived.ProofKit
import Derived.OpenShut
import Derived.ChangeOld
import Derived.SizedLaws
import Derived.Below
import Derived.JoinedCond
namespace Go.Proofs.YtnjlbgolnbdkaaaGreat.Allty
open Go.ChangeShapes Go.WideShapes Go.ChangeAt Go.RowKit

theorem own : ownKnob Tryz.prog.godebug = none := by kernel_rfl
theorem pB : laidOutB Tryz.prog = true := by kernel_rfl
theorem Hd : Tryz.prog.cellsOf 5 = 1 := by kernel_rfl

/- what the bound gives -/
theorem yL {H : Type} (d : DataW H) : 1 ≤ Rows.uptoBulk d := by
  cases d with
  | lit l => cases l <;> simp [Rows.uptoBulk]
  | _ => simp [Rows.uptoBulk]
theorem mX {H : Type} : ∀ l : List (DataW H), l.length ≤ Rows.uptoBulkAll l
  | [] => by simp [Rows.uptoBulkAll]
  | x :: r => by
    have h1 := yL x
    have h2 := mX r
    simp only [Rows.uptoBulkAll, List.length_cons]
    omega
theorem mT {H : Type} {d : DataW H} {elems spare : List (DataW H)} (e : d = .slice elems spare) : elems.length + spare.length + 1 ≤ Rows.uptoBulk d := by
  subst e
  have h1 := mX elems
  have h2 := mX spare
  simp only [Rows.uptoBulk]
  omega
/- a list of bytes that came in -/
theorem oP {H : Type} {enc : TypeId × Value → H} {W : World} {a0 : Option Addr} {len cap : Nat} {d : DataW H} {p : List MemPlace} (h : DataW.Trod enc Tryz.prog W 0 (fun _ => true) true 22 (.slice a0 len cap) d p)
    (hs : Rows.uptoBulk d ≤ 1048576) : ∃ zs, gV W a0 len cap zs ∧ len ≤ 140737488351232 := by
  obtain ⟨fuel, hf⟩ := h
  rcases open_ints Tryz.underlying22 Tryz.underlying5 Hd hf with ⟨hcs, _⟩ | ⟨x, l, c, zs, hcs, _, hl, hm, hz, hx, hcell, hwz⟩
  · simp [Value.cells] at hcs
    obtain ⟨rfl, rfl, rfl⟩ := hcs
    exact ⟨[], ⟨rfl, by omega, by omega, fun z hz => by simp at hz, fun _ => rfl, fun ad e => by simp at e, fun ad e => by simp at e⟩, by omega⟩
  · simp [Value.cells] at hcs
    obtain ⟨rfl, rfl, rfl⟩ := hcs
    have hz' : zs.length = cap := by simpa using hz
    have hd : d = .slice (lits .u8 (zs.take len)) (lits .u8 (zs.drop len)) := by
      have := congrArg Prod.fst hx
      exact this
    have hr := mT hd
    simp only [lits, List.length_map, List.length_take, List.length_drop] at hr
    refine ⟨zs.take len, ⟨by simp; omega, hl, by unfold maxLen at hm; omega, ?_, fun e => by simp at e, ?_, ?_⟩, by omega⟩
    · intro z hz
      have := bounds_u8 (hwz z (List.mem_of_mem_take hz))
      omega
    · intro ad e j u hu
      obtain rfl : x = ad := by simpa using e
      have hj : j < (bZ (zs.take len)).length := (List.getElem?_eq_some_iff.1 hu).1
      rw [bX, List.length_take] at hj
      rw [hcell j (by omega)]
      rw [← hu]
      simp [bZ, show j < len from by omega, List.getD_eq_getElem?_getD, List.getElem?_eq_getElem (show j < zs.length from by omega)]
    · intro ad e hn
      obtain rfl : x = ad := by simpa using e
      have := hcell 0 (by omega)
      rcases Nat.lt_or_ge x.block W.heap.size with h1 | h1
      · exact h1
      · simp [World.cell?, Addr.add, Array.getElem?_eq_none h1] at this

set_option maxRecDepth 100000 in
theorem yN (H : Type) (enc : TypeId × Value → H) (W : World) (base : Nat) (args : Array Value) (ds gs : List (DataW H)) (before : List MemPlace)
    (hval0 : ∀ (j : Nat) t v, Tryz.f8.params[j]? = some t → args[j]? = some v → Value.okWide Tryz.prog W .any base t v)
    (hW : DataW.Whole enc Tryz.prog Tryz.f8.params.toList Rows.allSpec.vars false W args.toList ds gs before) (hk : Rows.uptoSmall H (ds ++ gs) = true) :
    Calls Tryz.prog 8 args W fun e W' => ∃ v, e = .returned v ∧ Rows.allSpec.post enc Tryz.prog Tryz.f8 false true false false W args v W' := by
  have hW' := hW
  have hval := hval0
  obtain ⟨p, q, hA0, hV, rfl, hfz, hnd⟩ := hW
  have hA : DataW.TrodAll enc Tryz.prog W 0 (fun _ => true) true Tryz.f8.params.toList args.toList ds p := hA0
  rw [Tryz.params8] at hA hval
  obtain ⟨v0, vs0, d0, ds0, p0, q0, hargs, rfl, rfl, h0, r0⟩ := trodAll_cons hA
  obtain ⟨v1, vs1, d1, ds1, p1, q1, rfl, rfl, rfl, h1, r1⟩ := trodAll_cons r0
  obtain ⟨v2, vs2, d2, ds2, p2, q2, rfl, rfl, rfl, h2, r2⟩ := trodAll_cons r1
  obtain ⟨rfl, rfl, rfl⟩ := trodAll_nil r2
  obtain rfl : args = #[v0, v1, v2] := by cases args; simp_all
  obtain ⟨rfl, rfl⟩ := trodVars_none hV
  have hb : Rows.uptoBulk d0 + (Rows.uptoBulk d1 + (Rows.uptoBulk d2 + 0)) ≤ 1048576 := by
    have h : Rows.uptoBulkAll ([d0, d1, d2] ++ []) ≤ 1048576 := of_decide_eq_true hk
    simpa only [List.append_nil, Rows.uptoBulkAll] using h
  have k0 := h0
  have k1 := h1
  have k2 := h2
  have lt0 : ∀ x ∈ p0, x.block < W.heap.size := by obtain ⟨m, hm⟩ := k0; exact DataW.trod_lt m _ _ _ hm
  have lt1 : ∀ x ∈ p1, x.block < W.heap.size := by obtain ⟨m, hm⟩ := k1; exact DataW.trod_lt m _ _ _ hm
  have lt2 : ∀ x ∈ p2, x.block < W.heap.size := by obtain ⟨m, hm⟩ := k2; exact DataW.trod_lt m _ _ _ hm
  obtain ⟨a0, len0, cap0, rfl⟩ := okWide_slice Tryz.underlying22 (hval 0 22 v0 rfl rfl)
  obtain ⟨a1, len1, cap1, rfl⟩ := okWide_slice Tryz.underlying22 (hval 1 22 v1 rfl rfl)
  obtain ⟨a2, len2, cap2, rfl⟩ := okWide_slice Dl (hval 2 32 v2 rfl rfl)
  obtain ⟨z0, hz0, hn0⟩ := oP h0 (by omega)
  obtain ⟨z1, hz1, hn1⟩ := oP h1 (by omega)
  have hsc := uU h2 (fun elems spare e => by have := mT e; omega)
  clear hA0 hval0
  refine (Lg a0 len0 cap0 z0 a1 len1 cap1 z1 a2 len2 cap2 W hz0 hn0 hz1 hn1 hsc).mono fun e W' ⟨he, bel⟩ => ?_
  subst he
  exact ⟨_, rfl, _, _, _, [], _, [], hW', trodAll_mk1 (shut_bool Tryz.underlying4 _), (trodAll_cons_mk (Below.trod pB (by kernel_rfl) (of_decide_eq_true (by kernel_rfl)) k0 bel lt0) (trodAll_cons_mk (Below.trod pB (by kernel_rfl) (of_decide_eq_true (by kernel_rfl)) k1 bel lt1) (trodAll_cons_mk (Below.trod pB (by kernel_rfl) (of_decide_eq_true (by kernel_rfl)) k2 bel lt2) trodAll_mk0))), rfl, bel.frame _, fun h => by cases h⟩

set_option maxRecDepth 100000 in
theorem Iy (os : Os) (started : os.Started) (H : Type) (enc : TypeId × Value → H) (F : Stop.Interp) :
    ReturnsInHanded {} Tryz.checked os 8 .any ((Rows.OpenSpec.upto Rows.allSpec).pre6 enc Tryz.prog Tryz.f8 Rows.allUptoRow.domain false) (((Rows.OpenSpec.upto Rows.allSpec).at F).post enc Tryz.prog Tryz.f8 false true false false) := by
  refine returnsInHanded_of_cond (C := Tryz.checked) (s := Rows.OpenSpec.upto Rows.allSpec) (k := Rows.uptoSmall) rfl own started (by kernel_rfl) Tryz.func8
    (OpenSpec.witness (enc := enc) (C := Tryz.checked) (s := Rows.OpenSpec.upto Rows.allSpec) (k := Rows.uptoSmall) rfl false ⟨#[], #[.slice none 0 0, .slice none 0 0, .slice none 0 0], []⟩ 8 (by kernel_rfl) (by kernel_rfl) (by kernel_rfl)
      (x := ([.nil, .nil, .nil], [], [])) (by kernel_rfl) rfl (by kernel_rfl)) ?_
  intro W base args ds gs before hval hW _ hk _
  exact yN H enc W base args ds gs before hval hW hk

theorem over : Rows.allUptoRow.holds Tryz.pinned (Rows.OpenSpec.upto Rows.allSpec) :=
  OpenClaim.holds_of_cond 8 Tryz.f8 rfl rfl rfl rfl rfl rfl rfl ⟨rfl, rfl, rfl, rfl, rfl⟩ rfl rfl rfl rfl rfl (by kernel_rfl) Tryz.func8 (by kernel_rfl)
    (of_decide_eq_true (by kernel_rfl)) (by unfold Func.isWrapper; first | (rw [if_pos (by decide +kernel)]; kernel_rfl) | (rw [if_neg (by decide +kernel)]; exact ⟨rfl, rfl⟩))
    (fun os started H enc _ F => Iy os started H enc F)
end Go.Proofs.YtnjlbgolnbdkaaaGreat.Allty
namespace Go.Proofs.YtnjlbgolnbdkaaaGreat
theorem all_upto : Rows.AllUptoSaid := Allty.over
#print axioms all_upto
end Go.Proofs.YtnjlbgolnbdkaaaGreat
