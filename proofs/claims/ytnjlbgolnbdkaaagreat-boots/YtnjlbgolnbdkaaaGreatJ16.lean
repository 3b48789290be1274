/- Texts of the proof of Boots, one behind the other. -/
import Derived.Test.YtnjlbgolnbdkaaaGreatJ15
import Derived.RangeFuncBox
import Derived.RangeFuncLeaves
import Derived.RangeFuncFrom
import Derived.Shelf.Abstract
import Derived.WalkKit
import Derived.OwnWalkIn
import Derived.TacticsInMore
import Derived.LoopNIn
import Derived.LoopIn
import Derived.Test.YtnjlbgolnbdkaaaGreatJ08
import Derived.Test.YtnjlbgolnbdkaaaGreatJ09
/- The program's lists of a fixed length: going through the entries of a sector. -/
namespace Go.Proofs.YtnjlbgolnbdkaaaGreat
open Go.RowKit Go.Shelf

attribute [local go_sem] Oper.semAt_some

/- the first k of N places -/
def upto (N k : Nat) : List (Fin N) := (List.finRange N).take k
theorem upto_succ (N k : Nat) (h : k < N) : upto N (k + 1) = upto N k ++ [⟨k, h⟩] := by
  unfold upto
  rw [List.take_add_one, List.getElem?_eq_getElem (by simp; exact h)]
  simp
theorem upto_length (N k : Nat) (h : k ≤ N) : (upto N k).length = k := by simp [upto]; omega

set_option maxRecDepth 100000 in
set_option maxHeartbeats 2000000 in
theorem entAllOne_in (F : Fence) (n : Nat) (h199 : F.fn 199) (hro : F.round = none) (hn : 1 ≤ n) (l B x : Nat) (J Jx : List (Fin 8) → World → Prop)
    (hY : ∀ pre (i : Fin 8) W, J pre W → pre.length < 8 → YieldAt F (n - 1) Tryz.prog l #[.int .i64 (i.1 : Int), .pointer (some ⟨x, i.1 * 6, none⟩)] W fun e W' =>
      (e = .returned (.bool true) ∧ J (pre ++ [i]) W' ∧ W'.heap[B]? = W.heap[B]?) ∨ (e = .returned (.bool false) ∧ Jx (pre ++ [i]) W'))
    (W : World) (hB : W.heap[B]? = some (.cells #[.slice (some ⟨x, 0, none⟩) 8 8] 181 (0, 0))) (h0 : J [] W) :
    CallsIn F n Tryz.prog 199 #[.func (.yield l) #[] #[], .pointer (some ⟨B, 0, none⟩)] W fun e W' => (∃ v, e = .returned v) ∧
      ((∃ ys, ys = upto 8 8 ∧ J ys W') ∨ (∃ pre, (∃ k, k ≤ 8 ∧ pre = upto 8 k) ∧ Jx pre W')) := by
  have c0 : W.cell? ⟨B, 0, none⟩ = some (.slice (some ⟨x, 0, none⟩) 8 8) := by rw [cell_of_row _ _ _ _ _ _ hB]; rfl
  refine callsIn_of_wp Tryz.func199 rfl h199 ?_ hro
  simp only [Tryz.ntmps199, List.size_toArray, List.length_cons, List.length_nil, Nat.reduceAdd, Nat.reduceSub, Array.replicate_succ, Array.replicate_zero, List.push_toArray, List.append_toArray, List.nil_append, List.cons_append]
  gi_wp2
  gi_loopw [7] (fun i wr => ∃ k : Nat, k ≤ 8 ∧ i = .int .i64 k ∧ J (upto 8 k) wr ∧ wr.heap[B]? = some (.cells #[.slice (some ⟨x, 0, none⟩) 8 8] 181 (0, 0))) (fun i _ => 8 - (intOf i).toNat)
  case atStart => exact ⟨0, by omega, rfl, h0, hB⟩
  case round =>
    obtain ⟨k, hk, rfl, hJs, hB1⟩ := hrel
    by_cases hlt : k < 8
    · obtain ⟨fn, tmps, assign, body, hy, hR⟩ := hY _ ⟨k, hlt⟩ wr hJs (by rw [upto_length 8 k (by omega)]; exact hlt)
      dsimp only at hy
      have c1 : wr.cell? ⟨B, 0, none⟩ = some (.slice (some ⟨x, 0, none⟩) 8 8) := by rw [cell_of_row _ _ _ _ _ _ hB1]; rfl
      gi_wp2
      refine hR.mono ?_
      rintro e W3 (⟨rfl, hJ3, hk3⟩ | ⟨rfl, hJx3⟩)
      · gi_wp2
        go_roundw
        case rel => exact ⟨k + 1, by omega, by simp, by rw [upto_succ 8 k hlt]; exact hJ3, hk3.trans hB1⟩
        case measure => simp [intOf]; omega
      · gi_wp2
        refine bodyPost_ret (results_none rfl _ _ _) rfl ?_
        exact ⟨⟨_, rfl⟩, .inr ⟨_, ⟨k + 1, by omega, (upto_succ 8 k hlt).symm⟩, hJx3⟩⟩
    · obtain rfl : k = 8 := by omega
      gi_wp2
      go_end0
      exact ⟨⟨_, rfl⟩, .inl ⟨_, rfl, hJs⟩⟩
theorem entAll_stops (F : Fence) (n : Nat) (h199 : F.fn 199) (hro : F.round = none) (hn : 1 ≤ n) (B x : Nat) (w : World) (hBl : B < w.heap.size) (hB : w.heap[B]? = some (.cells #[.slice (some ⟨x, 0, none⟩) 8 8] 181 (0, 0))) :
    SeqStopsK F n Tryz.prog 199 #[.pointer (some ⟨B, 0, none⟩)] (fun i : Fin 8 => #[.int .i64 (i.1 : Int), .pointer (some ⟨x, i.1 * 6, none⟩)]) (fun W W' => W'.heap[B]? = W.heap[B]?) (fun ys => ys = upto 8 8) (fun pre => ∃ k, k ≤ 8 ∧ pre = upto 8 k) 8 w :=
  fun l J Jx W hW _ _ hY h0 => entAllOne_in F n h199 hro hn l B x J Jx hY W ((hW.block B hBl).trans hB) h0
set_option maxHeartbeats 1000000 in
theorem entAll_any (x : Nat) (w : World) : Calls Tryz.prog 172 #[.agg #[.slice (some ⟨x, 0, none⟩) 8 8]] w fun e w' => e = .returned (.func (.func 199) #[] #[.pointer (some ⟨w.heap.size, 0, none⟩)]) ∧ w' = w.alloc (.cells #[.slice (some ⟨x, 0, none⟩) 8 8] 181) := by
  go_enter Tryz.func172, Tryz.ntmps172
  go_wp2
  go_ret
  exact ⟨rfl, rfl⟩
end Go.Proofs.YtnjlbgolnbdkaaaGreat
/- The document's reading of the journal: faults, Log. -/
namespace Go.Proofs.YtnjlbgolnbdkaaaGreat
open Go.RowKit

def recCells (r : Nat → Int) : List Value := [.int .i64 (r 0), .int .i64 (r 1), .int .i64 (r 2), .int .i64 (r 3), .int .i64 (r 4)]
def recsCells (l : List (Nat → Int)) : List Value := l.flatMap recCells
theorem recsCells_append (a b : List (Nat → Int)) : recsCells (a ++ b) = recsCells a ++ recsCells b := by simp [recsCells]
theorem recsCells_length (l : List (Nat → Int)) : (recsCells l).length = l.length * 5 := by
  induction l with
  | nil => rfl
  | cons a l ih => show (recCells a ++ recsCells l).length = _; rw [List.length_append, ih]; show 5 + _ = _; simp; omega
theorem recsCells_one (l : List (Nat → Int)) : ∀ u ∈ recsCells l, u.oneCell' = true := by
  apply ints_one
  intro u hu
  obtain ⟨r, _, hr⟩ := List.mem_flatMap.1 hu
  simp [recCells] at hr
  rcases hr with rfl | rfl | rfl | rfl | rfl <;> exact ⟨_, _, rfl⟩
def RecsV (base : Nat) (v : Value) (l : List (Nat → Int)) (w : World) : Prop := w.ownsRow base 52 5 v l.length (recsCells l)

def isFault (bs : List Int) (s i : Nat) : Bool := kindAt bs s i == 3 && recOf bs s i 0 == 1
def faultsTo (bs : List Int) (s : Nat) : Nat → List (Nat → Int)
  | 0 => []
  | k + 1 => faultsTo bs s k ++ if isFault bs s (k + 1) then [recOf bs s (k + 1)] else []
theorem faultsTo_le (bs : List Int) (s k : Nat) : (faultsTo bs s k).length ≤ k := by
  induction k with
  | zero => exact Nat.le_refl _
  | succ k ih => show (faultsTo bs s k ++ _).length ≤ _; rw [List.length_append]; split <;> simp <;> omega
def faultsOf (bs : List Int) (s : Int) : List (Nat → Int) := if s < 0 then [] else faultsTo bs s.toNat 7
def logOf (bs : List Int) : List (Nat → Int) := faultsOf bs (sectorsOf bs).2 ++ faultsOf bs (sectorsOf bs).1
theorem faultsOf_le (bs : List Int) (s : Int) : (faultsOf bs s).length ≤ 7 := by
  unfold faultsOf
  split
  · simp
  · exact faultsTo_le _ _ _
theorem sectorsOf_rng (bs : List Int) : (-1 ≤ (sectorsOf bs).1 ∧ (sectorsOf bs).1 < 2) ∧ (-1 ≤ (sectorsOf bs).2 ∧ (sectorsOf bs).2 < 2) := by
  unfold sectorsOf sectOf
  repeat' split
  all_goals simp

set_option maxRecDepth 100000 in
set_option maxHeartbeats 2000000 in
theorem rfaults_any (x cap : Nat) (bs : List Int) (s : Int) (w : World) (hs : -1 ≤ s ∧ s < 2) (h : RArg x cap bs w) :
    Calls Tryz.prog 138 #[.slice (some ⟨x, 0, none⟩) 256 cap, .int .i64 s] w fun e w' => ∃ v, e = .returned v ∧ (RecsV w.heap.size v (faultsOf bs s) w' ∧ (faultsOf bs s = [] → v = .slice none 0 0)) ∧ Below w.heap.size w w' := by
  obtain ⟨i0, hi, hz0, hz1, hz2⟩ := info_parts Tryz.info52
  have HH := hide h
  by_cases h0 : s < 0
  · have d0 : decide (0 ≤ s) = false := by simp; omega
    clear h
    go_enter Tryz.func138, Tryz.ntmps138
    go_wp2
    go_loop [5, 6] (fun v i => v = .slice none 0 0 ∧ i = .int .i64 1) (fun _ _ => 0)
    case atStart => exact ⟨rfl, rfl⟩
    case round =>
      obtain ⟨rfl, rfl⟩ := hrel
      go_wp2
      go_ret
      refine ⟨_, rfl, ⟨?_, fun _ => rfl⟩, Below.refl _ _⟩
      unfold faultsOf
      rw [if_pos h0]
      exact World.ownsRow_nil _ _ _ _
  · obtain ⟨t, rfl⟩ : ∃ t : Nat, s = (t : Int) := ⟨s.toNat, by omega⟩
    have ht : t < 2 := by omega
    have HS : Hid (faultsOf bs (t : Int) = faultsTo bs t 7) := by
      show _ = _
      unfold faultsOf
      rw [if_neg h0]
      rfl
    clear h h0 hs
    go_enter Tryz.func138, Tryz.ntmps138
    go_wp2
    go_loopw [5, 6] (fun v i wr => ∃ (k : Nat), k ≤ 7 ∧ i = .int .i64 ((k : Int) + 1) ∧ (RecsV w.heap.size v (faultsTo bs t k) wr ∧ (faultsTo bs t k = [] → v = .slice none 0 0)) ∧ Below w.heap.size w wr) (fun _ i _ => 8 - (intOf i).toNat)
    case atStart => exact ⟨0, by omega, rfl, ⟨World.ownsRow_nil _ _ _ _, fun _ => rfl⟩, Below.refl _ _⟩
    case round =>
      obtain ⟨k, hk, rfl, ⟨hV, hnil⟩, hb⟩ := hrel
      have HNIL := hide hnil
      clear hnil
      by_cases hlt : k < 7
      · have HC := hide (rslotAt_any x cap bs t (k + 1) wr ht (by omega) HH.out.len HH.out.bytes (HH.out.below hb).row HH.out.c1 HH.out.c2)
        have HV := hide hV
        have HB := hide hb
        have hws := hb.size
        obtain ⟨ad, c, rfl⟩ := own_slice hV
        have hle := faultsTo_le bs t k
        have HN : Hid (faultsTo bs t (k + 1) = faultsTo bs t k ++ if (kindAt bs t (k + 1) == 3 && recOf bs t (k + 1) 0 == 1) = true then [recOf bs t (k + 1)] else []) := rfl
        clear hV hb
        rw [show ((k + 1 : Nat) : Int) = (k : Int) + 1 from by omega] at HC
        go_wp2_with fail
        refine HC.out.mono ?_
        rintro e w2 ⟨rfl, hb2⟩
        have hs2 := hb2.size
        have HV2 : Hid (RecsV w.heap.size (.slice ad (faultsTo bs t k).length c) (faultsTo bs t k) (w2.alloc (.cells (recCells (recOf bs t (k + 1))).toArray 52))) := (own_keep HV.out (fun b e => hb2.block b (World.ownsRow.lt HV.out b e).2)).alloc _
        have HB2 : Hid (Below w.heap.size w (w2.alloc (.cells (recCells (recOf bs t (k + 1))).toArray 52))) := (HB.out.trans (hb2.mono hws)).alloc (by omega) _
        have HRC : Hid (recCells (recOf bs t (k + 1)) = [.int .i64 (recOf bs t (k + 1) 0), .int .i64 (recOf bs t (k + 1) 1), .int .i64 (recOf bs t (k + 1) 2), .int .i64 (recOf bs t (k + 1) 3), .int .i64 (recOf bs t (k + 1) 4)]) := rfl
        clear hb2 HC HV HB
        simp only [aggOf]
        rw [HRC.out] at HV2 HB2
        obtain ⟨R, hR⟩ : ∃ R, R = recOf bs t (k + 1) := ⟨_, rfl⟩
        rw [← hR] at HV2 HB2 HRC HN ⊢
        clear hR
        generalize kindAt bs t (k + 1) = kk at HN ⊢
        generalize hr0 : R 0 = r0 at HV2 HB2 HRC HN ⊢
        generalize R 1 = r1 at HV2 HB2 HRC HN ⊢
        generalize R 2 = r2 at HV2 HB2 HRC HN ⊢
        generalize R 3 = r3 at HV2 HB2 HRC HN ⊢
        generalize R 4 = r4 at HV2 HB2 HRC HN ⊢
        clear hr0
        generalize hl : (faultsTo bs t k).length = len at HV2 hle ⊢
        have HL := hide hl
        clear hl
        by_cases hf : (kk == 3 && r0 == 1) = true
        · have hk3 : (kk == 3) = true := by simp at hf; simp [hf.1]
          have hr1 : (r0 == 1) = true := by simp at hf; simp [hf.2]
          have HF := hide hf
          clear hf
          go_wp2_with (at_builtin; go_must (refine wpList_append_lies _ rfl (.tmp 31) (.tmp 33) 49 rfl w.heap.size 52 i0 _ 5 40 Tryz.underlying49 hi hz0 hz1 hz2 rfl (by decide) (.slice ad len c) len (recsCells (faultsTo bs t k)) rfl (by have := HV2.out; unfold RecsV at this; rw [HL.out] at this; exact this.alloc _) ⟨w2.heap.size + 1, 0, none⟩ 1 1 [.int .i64 r0, .int .i64 r1, .int .i64 r2, .int .i64 r3, .int .i64 r4] (by rfl) rfl (by have := news_at (w2.alloc (.cells #[.int .i64 r0, .int .i64 r1, .int .i64 r2, .int .i64 r3, .int .i64 r4] 52)) #[.int .i64 r0, .int .i64 r1, .int .i64 r2, .int .i64 r3, .int .i64 r4] 52; simpa using this) (ints_one _ (by simp)) (by omega) (by unfold maxLen; omega) (by omega) (by simp; omega) _ rfl ?_))
          intro g cap5 w5 hown5 hgrow5 _ _
          have hg5 := grown_alloc hgrow5
          have H5 : Hid (RecsV w.heap.size (.slice (some ⟨g, 0, none⟩) (len + 1) cap5) (faultsTo bs t (k + 1)) w5 ∧ Below w.heap.size w w5) := by
            refine ⟨?_, HB2.out.grown hg5 (by simp; omega) (fun b e => (World.ownsRow.lt HV2.out b e).1)⟩
            rw [HN.out, if_pos HF.out]
            unfold RecsV
            rw [recsCells_append, List.length_append, HL.out]
            show w5.ownsRow _ _ _ _ _ (_ ++ (recCells R ++ []))
            rw [List.append_nil, HRC.out]
            exact hown5
          clear hown5 hgrow5 hg5 HV2 HB2
          go_wp2
          go_roundw
          case rel => exact ⟨k + 1, by omega, by go_num, ⟨H5.out.1, fun hh => by rw [HN.out, if_pos HF.out] at hh; simp at hh⟩, H5.out.2⟩
          case measure => simp [intOf]; omega
        · have HF := hide hf
          have H5 : Hid (RecsV w.heap.size (.slice ad len c) (faultsTo bs t (k + 1)) (w2.alloc (.cells #[.int .i64 r0, .int .i64 r1, .int .i64 r2, .int .i64 r3, .int .i64 r4] 52)) ∧ Below w.heap.size w (w2.alloc (.cells #[.int .i64 r0, .int .i64 r1, .int .i64 r2, .int .i64 r3, .int .i64 r4] 52))) := by
            refine ⟨?_, HB2.out⟩
            rw [HN.out, if_neg HF.out, List.append_nil]
            exact HV2.out
          clear hf
          by_cases hk3 : kk = 3
          · have e3 : (kk == 3) = true := by simp [hk3]
            have er : (r0 == 1) = false := by have := HF.out; simp [hk3] at this; simp [this]
            go_wp2
            go_roundw
            case rel => exact ⟨k + 1, by omega, by go_num, ⟨H5.out.1, fun hh => by rw [HN.out, if_neg HF.out, List.append_nil] at hh; rw [← HL.out]; exact HNIL.out hh⟩, H5.out.2⟩
            case measure => simp [intOf]; omega
          · have e3 : (kk == 3) = false := by simp [hk3]
            go_wp2
            go_roundw
            case rel => exact ⟨k + 1, by omega, by go_num, ⟨H5.out.1, fun hh => by rw [HN.out, if_neg HF.out, List.append_nil] at hh; rw [← HL.out]; exact HNIL.out hh⟩, H5.out.2⟩
            case measure => simp [intOf]; omega
      · obtain rfl : k = 7 := by omega
        have HF := hide (And.intro (And.intro hV HNIL.out) hb)
        clear hV hb
        go_wp2
        go_ret
        exact ⟨_, rfl, by rw [HS.out]; exact HF.out.1, HF.out.2⟩
end Go.Proofs.YtnjlbgolnbdkaaaGreat
