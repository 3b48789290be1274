/- Texts of the proofs of Watched and Clocked, one behind the other. -/
import Derived.Test.YtnjlbgolnbdkaaaGreatM02
import Derived.Deep.RegionLaw
import Derived.Deep.CutRange
/- Texts of the proof of Boots, one behind the other. -/
namespace Go.Proofs.YtnjlbgolnbdkaaaGreat
open Go.RowKit

def headB (bs : List Int) (s : Nat) : Bool := kindAt bs s 0 == 3 && recOf bs s 0 0 == 2
def genB (bs : List Int) (s : Nat) : Int := recOf bs s 0 3
def argB (bs : List Int) (s : Nat) : Int := recOf bs s 0 4
theorem rec_num (bs : List Int) (s i k : Nat) (hb : Bytes bs) : 0 ≤ recOf bs s i k ∧ recOf bs s i k < 4294967296 := by
  unfold recOf sortRec
  split
  · have hz : Bytes (slotB bs s i) := (hb.drop _).take _
    have hg := fun j => hz.getD j
    match k with
    | 0 => have := hg 1; simp only [recAt]; omega
    | 1 => have := hg 2; simp only [recAt]; omega
    | 2 => have := hg 3; simp only [recAt]; omega
    | 3 => have := numFrom_lt (((slotB bs s i).drop 4).take 4) 0 (by omega); simp only [recAt]; omega
    | k + 4 => have := numFrom_lt (((slotB bs s i).drop 8).take 4) 0 (by omega); simp only [recAt]; omega
  · omega

structure RArg (x cap : Nat) (bs : List Int) (w : World) : Prop where
  len : bs.length = 256
  bytes : Bytes bs
  row : Row w x 0 bs
  c1 : 256 ≤ cap
  c2 : cap ≤ 9223372036854775807
theorem RArg.below {x cap : Nat} {bs : List Int} {w w' : World} (h : RArg x cap bs w) (hb : Below w.heap.size w w') : RArg x cap bs w' := ⟨h.len, h.bytes, h.row.below hb (row_lt h.row (by rw [h.len]; omega)), h.c1, h.c2⟩
def sectOf (x y : Bool) (m n : Int) : Int × Int :=
  if x && y && m == n + 1 then (0, 1) else if x && y && n == m + 1 then (1, 0) else if x && (!y || decide (n ≤ m)) then (0, -1) else if y then (1, -1) else (-1, -1)
theorem sect_a (m n : Int) (h1 : m = n + 1) : sectOf true true m n = (0, 1) := by
  unfold sectOf
  rw [if_pos (by simp [h1])]
theorem sect_b (m n : Int) (h1 : ¬ m = n + 1) (h2 : n = m + 1) : sectOf true true m n = (1, 0) := by
  unfold sectOf
  rw [if_neg (by simp [h1]), if_pos (by simp [h2])]
theorem sect_c (m n : Int) (h1 : ¬ m = n + 1) (h2 : ¬ n = m + 1) (h3 : n ≤ m) : sectOf true true m n = (0, -1) := by
  unfold sectOf
  rw [if_neg (by simp [h1]), if_neg (by simp [h2]), if_pos (by simp [h3])]
theorem sect_d (m n : Int) (h1 : ¬ m = n + 1) (h2 : ¬ n = m + 1) (h3 : ¬ n ≤ m) : sectOf true true m n = (1, -1) := by
  unfold sectOf
  rw [if_neg (by simp [h1]), if_neg (by simp [h2]), if_neg (by simp; omega)]
  rfl
def sectorsOf (bs : List Int) : Int × Int := sectOf (headB bs 0) (headB bs 1) (genB bs 0) (genB bs 1)

end Go.Proofs.YtnjlbgolnbdkaaaGreat
namespace Go.Proofs.YtnjlbgolnbdkaaaGreat
open Go.RowKit

set_option maxHeartbeats 1000000 in
theorem read_any (g : Nat) (bs : List Int) (left res : Int) (dead : Bool) (done : Int) (i : Nat) (w : World) (hi : i < 256) (h : FlashAt w g bs left res dead done) :
    Calls Tryz.prog 198 #[.pointer (some ⟨g, 0, none⟩), .int .i64 i] w fun e w' => e = .returned (.int .u8 (bs.getD i 0)) ∧ w' = w := by
  have c := h.byte i hi
  clear h
  go_enter Tryz.func198, Tryz.ntmps198
  go_wp2
  go_ret
  exact ⟨rfl, rfl⟩
set_option maxHeartbeats 1000000 in
theorem slotAt_any (s i : Nat) (w : World) (hs : s < 2) (hi : i < 8) :
    Calls Tryz.prog 192 #[.int .i64 s, .int .i64 i] w fun e w' => e = .returned (.int .i64 ((128 * s + 16 * i : Nat) : Int)) ∧ w' = w := by
  go_enter Tryz.func192, Tryz.ntmps192
  go_wp2
  go_ret
  exact ⟨by simp; omega, rfl⟩
theorem slotB_take (bs : List Int) (s i k : Nat) (hl : bs.length = 256) (hs : s < 2) (hi : i < 8) (hk : k < 16) : (slotB bs s i).take (k + 1) = (slotB bs s i).take k ++ [bs.getD (128 * s + 16 * i + k) 0] := by
  have hlen := slotB_length bs s i hl hs hi
  rw [List.take_add_one, List.getElem?_eq_getElem (by omega)]
  congr 1
  simp only [slotB, List.getElem_take, List.getElem_drop, List.getD_eq_getElem?_getD]
  rw [List.getElem?_eq_getElem (by omega)]
  rfl

set_option maxRecDepth 100000 in
set_option maxHeartbeats 2000000 in
theorem jbytes_any (g : Nat) (bs : List Int) (left res : Int) (dead : Bool) (done : Int) (s i : Nat) (w : World) (hs : s < 2) (hi : i < 8) (h : FlashAt w g bs left res dead done) :
    Calls Tryz.prog 169 #[.agg #[.pointer (some ⟨g, 0, none⟩)], .int .i64 s, .int .i64 i] w fun e w' => ∃ x cap, e = .returned (.slice (some ⟨x, 0, none⟩) 16 cap) ∧ w'.ownsRow w.heap.size 5 1 (.slice (some ⟨x, 0, none⟩) 16 cap) 16 (vals (slotB bs s i)) ∧ Below w.heap.size w w' := by
  obtain ⟨i0, hii, hz0, hz1, hz2⟩ := info_parts Tryz.info5
  have HF := hide h
  have HLEN := hide (slotB_length bs s i h.len hs hi)
  have HTK := hide (fun k hk => slotB_take bs s i k h.len hs hi hk)
  clear h
  go_enter Tryz.func169, Tryz.ntmps169
  go_wp2
  go_loopw [7, 9] (fun v t wr => ∃ k : Nat, k ≤ 16 ∧ t = .int .i64 k ∧ wr.ownsRow w.heap.size 5 1 v k (vals ((slotB bs s i).take k)) ∧ wr.heap[w.heap.size]? = some (.cells #[.pointer (some ⟨g, 0, none⟩)] 107 (0, 0)) ∧ Below w.heap.size w wr) (fun _ t _ => 16 - (intOf t).toNat)
  case atStart => exact ⟨0, by omega, rfl, World.ownsRow_nil _ _ _ _, heap_alloc_new w _, (Below.refl _ _).alloc (Nat.le_refl _) _⟩
  case round =>
    obtain ⟨k, hk, rfl, hV, hbx, hB⟩ := hrel
    by_cases hlt : k < 16
    · obtain ⟨ad, c, hv⟩ := own_slice hV
      subst hv
      have hws := hB.size
      have hbs := lt_of_block hbx
      have bx0 : wr.cell? ⟨w.heap.size, 0, none⟩ = some (.pointer (some ⟨g, 0, none⟩)) := by rw [cell_of_row _ _ _ _ _ _ hbx]; rfl
      have HRD : Hid (∀ W : World, W.heap = wr.heap → Calls Tryz.prog 198 #[.pointer (some ⟨g, 0, none⟩), .int .i64 ((128 * s + 16 * i + k : Nat) : Int)] W fun e w' => e = .returned (.int .u8 (bs.getD (128 * s + 16 * i + k) 0)) ∧ w' = W) := fun W hW => read_any g bs left res dead done (128 * s + 16 * i + k) W (by omega) ((HF.out.below hB).keep (by rw [hW]))
      have HSA := hide (fun W => slotAt_any s i W hs hi)
      have HV := hide hV
      have HB := hide hB
      have HBX := hide hbx
      have HST := hide (HTK.out k hlt)
      clear hV hB hbx
      have e1 : ((128 * s + 16 * i : Nat) : Int) + (k : Int) = ((128 * s + 16 * i + k : Nat) : Int) := by omega
      have e2 : IntKind.i64.wrap ((128 * s + 16 * i + k : Nat) : Int) = ((128 * s + 16 * i + k : Nat) : Int) := by rw [IntKind.wrap_i64]; omega
      generalize bs.getD (128 * s + 16 * i + k) 0 = z at HRD HST
      generalize 128 * s + 16 * i + k = o2 at HRD e1 e2
      generalize 128 * s + 16 * i = o1 at HSA e1
      go_wp2_with fail
      go_region_law (first | (go_simp; with_reducible (show Calls Tryz.prog 192 _ _ _); refine (HSA.out _).mono ?_; rintro e w9 ⟨rfl, rfl⟩) | (go_simp; with_reducible (show Calls Tryz.prog 198 _ _ _); refine (HRD.out (World.drew wr) rfl).mono ?_; rintro e w9 ⟨rfl, rfl⟩) | (refine step_append_lies _ rfl (.tmp 12) (.tmp 21) 22 rfl w.heap.size 5 i0 (.int .u8 0) 1 1 Tryz.underlying22 hii hz0 hz1 hz2 rfl (by decide) (.slice ad k c) k (vals ((slotB bs s i).take k)) (by rfl) (by exact HV.out.alloc _) ⟨wr.heap.size, 0, none⟩ 1 1 [.int .u8 z] (by rfl) rfl (by exact news_at wr #[.int .u8 z] 5) (vals_one [z]) (by omega) (by unfold maxLen; omega) (by omega) (by simp; omega) (wr.heap.size + 1) (by simp) ?_; intro g5 c5 w5 ho5 hg5 _ _))
      all_goals (
        have hg' : wr.grownBy w5 (Value.slice ad k c).ownBlock := grown_alloc (o := .cells #[.int .u8 z] 5) ⟨hg5.os, hg5.tape, hg5.output, hg5.size, hg5.block⟩
        have H5 : Hid (w5.ownsRow w.heap.size 5 1 (.slice (some ⟨g5, 0, none⟩) (k + 1) c5) (k + 1) (vals ((slotB bs s i).take (k + 1))) ∧ w5.heap[w.heap.size]? = some (.cells #[.pointer (some ⟨g, 0, none⟩)] 107 (0, 0)) ∧ Below w.heap.size w w5) := by
          refine ⟨?_, ?_, HB.out.grown hg' (by omega) (fun b e => (World.ownsRow.lt HV.out b e).1)⟩
          · rw [HST.out, vals_append]; exact ho5
          · refine (hg'.block _ hbs (fun e => ?_)).trans HBX.out
            obtain ⟨cur, hcur⟩ := own_of HV.out e.symm
            rw [HBX.out] at hcur
            simp at hcur
        clear ho5 hg5 hg'
        go_wp2
        go_roundw
        case rel => exact ⟨k + 1, by omega, by go_num, H5.out.1, H5.out.2.1, H5.out.2.2⟩
        case measure => simp [intOf]; omega)
    · obtain rfl : k = 16 := by omega
      have HE : Hid (wr.ownsRow w.heap.size 5 1 u7 16 (vals (slotB bs s i)) ∧ Below w.heap.size w wr) := by
        rw [List.take_of_length_le (by rw [HLEN.out]; omega)] at hV
        exact ⟨hV, hB⟩
      obtain ⟨x, cp, hx⟩ : ∃ x cp, u7 = .slice (some ⟨x, 0, none⟩) 16 cp := by obtain ⟨gg, cc, h1, _⟩ := hV.form (by omega); exact ⟨gg, cc, h1⟩
      subst hx
      clear hV hB hbx
      go_wp2
      go_ret
      exact ⟨x, cp, rfl, HE.out⟩
end Go.Proofs.YtnjlbgolnbdkaaaGreat
namespace Go.Proofs.YtnjlbgolnbdkaaaGreat
open Go.RowKit

def reps (n : Nat) (x : List Value) : List Value := (List.replicate n ()).flatMap fun _ => x
theorem reps_succ (n : Nat) (x : List Value) : reps (n + 1) x = reps n x ++ x := by
  unfold reps
  rw [List.replicate_succ', List.flatMap_append]
  simp
theorem reps_length (n : Nat) (x : List Value) : (reps n x).length = n * x.length := by
  induction n with
  | zero => simp [reps]
  | succ n ih => rw [reps_succ, List.length_append, ih, Nat.add_mul, Nat.one_mul]
theorem reps_add (a b : Nat) (x : List Value) : reps (a + b) x = reps a x ++ reps b x := by
  unfold reps
  rw [← List.flatMap_append, List.replicate_append_replicate]
theorem reps_at (n : Nat) (x : List Value) (i c : Nat) (hi : i < n) (hc : c < x.length) : (reps n x)[i * x.length + c]? = x[c]? := by
  obtain ⟨d, rfl⟩ := Nat.exists_eq_add_of_le (show i + 1 ≤ n from hi)
  rw [reps_add, reps_succ, List.getElem?_append_left (by rw [List.length_append, reps_length]; omega), List.getElem?_append_right (by rw [reps_length]; omega), reps_length]
  congr 1
  omega

def eB : Nat → TypeId | 0 => 22 | 1 => 40 | 2 => 49 | 3 => 41 | 4 => 67 | 5 => 122 | 6 => 162 | 7 => 68 | _ => 69
def eM : Nat → TypeId | 0 => 5 | _ => 3
def mvK : Nat → Int → Value | 0 => Value.int .u8 | _ => Value.int .i64
def ety : Nat → TypeId | 0 => 5 | 1 => 3 | 2 => 52 | 3 => 47 | 4 => 124 | 5 => 190 | 6 => 210 | 7 => 131 | _ => 142
def esz : Nat → Nat | 0 => 1 | 1 => 1 | 2 => 5 | 3 => 3 | 4 => 10 | 5 => 2 | 6 => 2 | 7 => 3 | _ => 3
def elm (f : Nat) (m : Int) : List Value :=
  match f with
  | 0 => [.int .u8 m]
  | 1 => [.int .i64 m]
  | 2 => [.int .i64 m, .int .i64 0, .int .i64 0, .int .i64 0, .int .i64 0]
  | 3 => [.int .i64 0, .int .i64 m, .bool false]
  | 4 => [.bool false, .int .i64 m, .int .i64 0, .int .i64 0, .int .i64 0, .int .i64 0, .int .i64 0, .int .i64 0, .int .i64 0, .slice none 0 0]
  | 5 => [.int .i64 m, .slice none 0 0]
  | 6 => [.int .i64 m, .int .i64 0]
  | 7 => [.int .i64 m, .int .i64 0, .int .i64 0]
  | _ => [.int .i64 m, .int .i64 0, .int .i64 0]
theorem elm_length (f : Nat) (m : Int) : (elm f m).length = esz f := by
  rcases f with _ | _ | _ | _ | _ | _ | _ | _ | f <;> rfl
def KC (f : Nat) (w : World) (k : Kept) : Prop := ∃ n, n ≤ 1000000 ∧ w.ownsRow 0 (ety f) (esz f) k.v n (reps n (elm f k.mark))
theorem kc_local (f : Nat) : Local (KC f) := fun _ _ _ hs ⟨n, hn, h⟩ => ⟨n, hn, own_keep h hs⟩

def Fams (L : Nat → Nat) (vs : Nat → Value) (A M : Nat → List Kept) (w : World) : Prop :=
  ∀ f, f < 9 → Fam (eB f) (eM f) (mvK f) (KC f) (3 * f) L 0 (vs (3 + 2 * f)) (vs (4 + 2 * f)) (A f) (M f) w
structure Hnd (p : Nat → Value) (L : Nat → Nat) (hb : Nat) (n : Int) (vs : Nat → Value) (A M : Nat → List Kept) (w : World) : Prop where
  blk : w.heap[hb]? = some (.cells (handCells p (.slice none 0 0) (.slice none 0 0) n vs) 94 (0, 0))
  lab : L hb = 0
  fam : Fams L vs A M w
def upd1 (vs : Nat → Value) (i : Nat) (v : Value) : Nat → Value := fun j => if j = i then v else vs j
def updL (A : Nat → List Kept) (f : Nat) (l : List Kept) : Nat → List Kept := fun j => if j = f then l else A j
theorem updL_at (A : Nat → List Kept) (f : Nat) (l : List Kept) : updL A f l f = l := by simp [updL]
theorem updL_off (A : Nat → List Kept) {f g : Nat} (l : List Kept) (h : g ≠ f) : updL A f l g = A g := by simp [updL, h]

theorem hand_set (p : Nat → Value) (vI vW : Value) (n : Int) (vs : Nat → Value) (i : Nat) (v : Value) (h3 : 3 ≤ i) (h20 : i ≤ 20) : (handCells p vI vW n vs).setIfInBounds (i + 5) v = handCells p vI vW n (upd1 vs i v) := by
  rcases (show i = 3 ∨ i = 4 ∨ i = 5 ∨ i = 6 ∨ i = 7 ∨ i = 8 ∨ i = 9 ∨ i = 10 ∨ i = 11 ∨ i = 12 ∨ i = 13 ∨ i = 14 ∨ i = 15 ∨ i = 16 ∨ i = 17 ∨ i = 18 ∨ i = 19 ∨ i = 20 from by omega) with rfl | rfl | rfl | rfl | rfl | rfl | rfl | rfl | rfl | rfl | rfl | rfl | rfl | rfl | rfl | rfl | rfl | rfl <;> rfl
theorem hand_get (p : Nat → Value) (vI vW : Value) (n : Int) (vs : Nat → Value) (i : Nat) (h3 : 3 ≤ i) (h20 : i ≤ 20) : (handCells p vI vW n vs)[i + 5]? = some (vs i) := by
  rcases (show i = 3 ∨ i = 4 ∨ i = 5 ∨ i = 6 ∨ i = 7 ∨ i = 8 ∨ i = 9 ∨ i = 10 ∨ i = 11 ∨ i = 12 ∨ i = 13 ∨ i = 14 ∨ i = 15 ∨ i = 16 ∨ i = 17 ∨ i = 18 ∨ i = 19 ∨ i = 20 from by omega) with rfl | rfl | rfl | rfl | rfl | rfl | rfl | rfl | rfl | rfl | rfl | rfl | rfl | rfl | rfl | rfl | rfl | rfl <;> rfl

theorem Fam.relabel2 {eB eM : TypeId} {mv : Int → Value} {C : World → Kept → Prop} {a : Nat} {L L' : Nat → Nat} {base : Nat} {vB vM : Value} {A M : List Kept} {w : World} (h : Fam eB eM mv C a L base vB vM A M w) (hL : ∀ k, k < w.heap.size → a + 1 ≤ L k → L k ≤ a + 3 → L' k = L k) : Fam eB eM mv C a L' base vB vM A M w := by
  refine ⟨h.own, fun b e => ?_, h.ownM, fun b e => ?_, fun k hk => ⟨fun b e => ?_, (h.kept k hk).2⟩⟩
  · have := h.lab b e
    rw [hL b (h.own.lt b e).2 (by omega) (by omega)]; exact this
  · have := h.labM b e
    rw [hL b (h.ownM.lt b e).2 (by omega) (by omega)]; exact this
  · have := (h.kept k hk).1 b e
    rw [hL b this.2.2 (by omega) (by omega)]; exact this

section
variable {p : Nat → Value} {L L' : Nat → Nat} {hb : Nat} {n : Int} {vs : Nat → Value} {A M : Nat → List Kept} {w w' : World}
theorem Fams.touch {S : Nat → Prop} (h : Fams L vs A M w) (t : Touch S w w') (hS : ∀ k, k < w.heap.size → S k → L k = 0 ∨ 28 ≤ L k) : Fams L vs A M w' :=
  fun f hf => (h f hf).touch (kc_local f) t (fun k hk hs => by have := hS k hk hs; omega)
theorem Fams.relabel (h : Fams L vs A M w) (hL : ∀ k, k < w.heap.size → 1 ≤ L k → L k ≤ 27 → L' k = L k) : Fams L' vs A M w :=
  fun f hf => (h f hf).relabel2 (fun k hk h1 h2 => hL k hk (by omega) (by omega))
theorem Hnd.touch {S : Nat → Prop} (h : Hnd p L hb n vs A M w) (t : Touch S w w') (hS : ∀ k, k < w.heap.size → S k → 28 ≤ L k) : Hnd p L hb n vs A M w' :=
  ⟨(t.block hb (lt_of_block h.blk) (fun hs => by have := hS hb (lt_of_block h.blk) hs; rw [h.lab] at this; omega)).trans h.blk, h.lab, h.fam.touch t (fun k hk hs => .inr (hS k hk hs))⟩
theorem Hnd.relabel (h : Hnd p L hb n vs A M w) (hL : ∀ k, k < w.heap.size → L k ≤ 27 → L' k = L k) : Hnd p L' hb n vs A M w :=
  ⟨h.blk, by rw [hL hb (lt_of_block h.blk) (by rw [h.lab]; omega)]; exact h.lab, h.fam.relabel (fun k hk _ h2 => hL k hk h2)⟩
theorem Hnd.cell (h : Hnd p L hb n vs A M w) (i : Nat) (h3 : 3 ≤ i) (h20 : i ≤ 20) : w.cell? ⟨hb, i + 5, none⟩ = some (vs i) := by rw [cell_of_row _ _ _ _ _ _ h.blk]; exact hand_get _ _ _ _ _ i h3 h20
structure Cur (f : Nat) (L : Nat → Nat) (A : Nat → List Kept) (w : World) (v : Value) (N : Nat) (m : Int) : Prop where
  own : w.ownsRow 0 (ety f) (esz f) v N (reps N (elm f m))
  lab : ∀ b, v.ownBlock = some b → L b = 3 * f + 3
  mine : ∀ k ∈ A f, ∀ b, v.ownBlock = some b → k.v.ownBlock = some b → k.mark = m ∧ ∃ nn cl, k.v = .slice (some ⟨b, 0, none⟩) nn cl ∧ v = .slice (some ⟨b, 0, none⟩) N cl ∧ nn ≤ N
variable {v : Value} {N f : Nat} {m : Int} {w1 : World} {g cap : Nat} {o : Obj}
theorem Cur.keep {A' : Nat → List Kept} (h : Cur f L A w v N m) (hs : ∀ b, v.ownBlock = some b → w'.heap[b]? = w.heap[b]? ∧ L' b = L b) (hA : A' f = A f) : Cur f L' A' w' v N m :=
  ⟨own_keep h.own (fun b e => (hs b e).1), fun b e => by rw [(hs b e).2]; exact h.lab b e, by rw [hA]; exact h.mine⟩
theorem Cur.lt (h : Cur f L A w v N m) : ∀ b, v.ownBlock = some b → b < w.heap.size := fun b e => (World.ownsRow.lt h.own b e).2

structure Step (f : Nat) (L L' : Nat → Nat) (w w' : World) : Prop where
  lab : ∀ k, k < w.heap.size → L' k = L k
  t : Touch (fun k => L k = 0 ∨ (3 * f + 1 ≤ L k ∧ L k ≤ 3 * f + 3)) w w'
theorem Cur.step {f' : Nat} {A' : Nat → List Kept} (h : Cur f L A w v N m) (s : Step f' L L' w w') (hne : f ≠ f') (hA : A' f = A f) : Cur f L' A' w' v N m :=
  h.keep (fun b e => ⟨s.t.block b (h.lt b e) (fun hs => by have := h.lab b e; omega), s.lab b (h.lt b e)⟩) hA
theorem Step.trans {L2 : Nat → Nat} {w2 : World} (s : Step f L L' w w') (s2 : Step f L' L2 w' w2) : Step f L L2 w w2 :=
  ⟨fun k hk => (s2.lab k (Nat.lt_of_lt_of_le hk s.t.size)).trans (s.lab k hk), s.t.trans s2.t (fun i hi => by
    by_cases h : i < w.heap.size
    · left; rw [s.lab i h] at hi; exact hi
    · right; omega)⟩

theorem Hnd.row (hf : f < 9) (h : Hnd p L hb n vs A M w) (c : Cur f L A w v N m) (hN : N ≤ 1000000)
    (hown : w1.ownsRow 0 (eB f) 1 (.slice (some ⟨g, 0, none⟩) ((A f).length + 1) cap) ((A f).length + 1) ((A f).map Kept.v ++ [v])) (hg : (w.alloc o).grownBy w1 (vs (3 + 2 * f)).ownBlock) (hat : (vs (3 + 2 * f)).ownBlock = some g ∨ g = w.heap.size + 1) :
    w1.heap[hb]? = some (.cells (handCells p (.slice none 0 0) (.slice none 0 0) n vs) 94 (0, 0)) ∧ ∃ L' vs' A', Hnd p L' hb n vs' A' M (w1.setCell ⟨hb, 3 + 2 * f + 5, none⟩ (.slice (some ⟨g, 0, none⟩) ((A f).length + 1) cap)) ∧
      Cur f L' A' (w1.setCell ⟨hb, 3 + 2 * f + 5, none⟩ (.slice (some ⟨g, 0, none⟩) ((A f).length + 1) cap)) v N m ∧ A' = updL A f (A f ++ [⟨v, m⟩]) ∧ Step f L L' w (w1.setCell ⟨hb, 3 + 2 * f + 5, none⟩ (.slice (some ⟨g, 0, none⟩) ((A f).length + 1) cap)) := by
  obtain ⟨L', hL', hF', ht⟩ := (h.fam f hf).more (k0 := ⟨v, m⟩) (kc_local f) ⟨fun b e => ⟨c.lab b e, Nat.zero_le _, c.lt b e⟩, N, hN, c.own⟩ hown hg hat
  have hbw := lt_of_block h.blk
  have hB1 : w1.heap[hb]? = some (.cells (handCells p (.slice none 0 0) (.slice none 0 0) n vs) 94 (0, 0)) := (ht.block hb hbw (by rw [h.lab]; omega)).trans h.blk
  have ts : Touch (· = hb) w1 (w1.setCell ⟨hb, 3 + 2 * f + 5, none⟩ (.slice (some ⟨g, 0, none⟩) ((A f).length + 1) cap)) := Touch.ofSet w1 hb _ _ rfl
  have hLb : L' hb = 0 := by rw [hL' hb hbw]; exact h.lab
  have hT : Touch (fun k => L k = 0 ∨ (3 * f + 1 ≤ L k ∧ L k ≤ 3 * f + 3)) w (w1.setCell ⟨hb, 3 + 2 * f + 5, none⟩ (.slice (some ⟨g, 0, none⟩) ((A f).length + 1) cap)) := Touch.trans (ht.mono (fun k hk => .inr (by omega))) ts (fun i hi => .inl (.inl (by rw [hi]; exact h.lab)))
  refine ⟨hB1, L', upd1 vs (3 + 2 * f) (.slice (some ⟨g, 0, none⟩) ((A f).length + 1) cap), _, ⟨?_, hLb, ?_⟩, ?_, rfl, hL', hT⟩
  · rw [← hand_set _ _ _ _ _ _ _ (by omega) (by omega)]; exact block_set hB1 _ _
  · intro f' hf'
    by_cases e : f' = f
    · subst e
      rw [updL_at, show upd1 vs (3 + 2 * f') (.slice (some ⟨g, 0, none⟩) ((A f').length + 1) cap) (3 + 2 * f') = (.slice (some ⟨g, 0, none⟩) ((A f').length + 1) cap) from by simp [upd1], show upd1 vs (3 + 2 * f') (.slice (some ⟨g, 0, none⟩) ((A f').length + 1) cap) (4 + 2 * f') = vs (4 + 2 * f') from by simp [upd1]]
      exact hF'.touch (kc_local f') ts (fun k _ hk => .inl (by rw [hk, hLb]; omega))
    · rw [updL_off _ _ e, show upd1 vs (3 + 2 * f) (.slice (some ⟨g, 0, none⟩) ((A f).length + 1) cap) (3 + 2 * f') = vs (3 + 2 * f') from by simp [upd1]; omega, show upd1 vs (3 + 2 * f) (.slice (some ⟨g, 0, none⟩) ((A f).length + 1) cap) (4 + 2 * f') = vs (4 + 2 * f') from by simp [upd1]; omega]
      refine (((h.fam f' hf').relabel hL').touch (kc_local f') ht (fun k hk hs => ?_)).touch (kc_local f') ts (fun k _ hk => .inl (by rw [hk, hLb]; omega))
      rw [hL' k hk]; omega
  · refine ⟨own_keep c.own (fun b e => ?_), fun b e => by rw [hL' b (c.lt b e)]; exact c.lab b e, ?_⟩
    · have := c.lab b e
      exact (ts.block b (Nat.lt_of_lt_of_le (c.lt b e) ht.size) (fun hh => by rw [hh, h.lab] at this; omega)).trans (ht.block b (c.lt b e) (by omega))
    · rw [updL_at]
      intro k hk b e1 e2
      rcases List.mem_append.1 hk with hk | hk
      · exact c.mine k hk b e1 e2
      · obtain rfl := List.mem_singleton.1 hk
        refine ⟨rfl, ?_⟩
        rcases c.own.2 with ⟨h1, _⟩ | ⟨g', cap', cur, hv, _⟩
        · rw [h1] at e1; simp [Value.ownBlock] at e1
        · rw [hv] at e1; simp [Value.ownBlock] at e1; subst e1; exact ⟨N, cap', hv, hv, Nat.le_refl _⟩

theorem Hnd.mark (hf : f < 9) (h : Hnd p L hb n vs A M w) (c : Cur f L A w v N m)
    (hown : w1.ownsRow 0 (eM f) 1 (.slice (some ⟨g, 0, none⟩) ((M f).length + 1) cap) ((M f).length + 1) (((M f).map fun k => mvK f k.mark) ++ [mvK f m])) (hg : (w.alloc o).grownBy w1 (vs (4 + 2 * f)).ownBlock) (hat : (vs (4 + 2 * f)).ownBlock = some g ∨ g = w.heap.size + 1) :
    w1.heap[hb]? = some (.cells (handCells p (.slice none 0 0) (.slice none 0 0) n vs) 94 (0, 0)) ∧ ∃ L' vs' M', Hnd p L' hb n vs' A M' (w1.setCell ⟨hb, 4 + 2 * f + 5, none⟩ (.slice (some ⟨g, 0, none⟩) ((M f).length + 1) cap)) ∧
      Cur f L' A (w1.setCell ⟨hb, 4 + 2 * f + 5, none⟩ (.slice (some ⟨g, 0, none⟩) ((M f).length + 1) cap)) v N m ∧ M' = updL M f (M f ++ [⟨v, m⟩]) ∧ Step f L L' w (w1.setCell ⟨hb, 4 + 2 * f + 5, none⟩ (.slice (some ⟨g, 0, none⟩) ((M f).length + 1) cap)) := by
  obtain ⟨L', hL', hF', ht⟩ := (h.fam f hf).moreM (k0 := ⟨v, m⟩) (kc_local f) hown hg hat
  have hbw := lt_of_block h.blk
  have hB1 : w1.heap[hb]? = some (.cells (handCells p (.slice none 0 0) (.slice none 0 0) n vs) 94 (0, 0)) := (ht.block hb hbw (by rw [h.lab]; omega)).trans h.blk
  have ts : Touch (· = hb) w1 (w1.setCell ⟨hb, 4 + 2 * f + 5, none⟩ (.slice (some ⟨g, 0, none⟩) ((M f).length + 1) cap)) := Touch.ofSet w1 hb _ _ rfl
  have hLb : L' hb = 0 := by rw [hL' hb hbw]; exact h.lab
  have hT : Touch (fun k => L k = 0 ∨ (3 * f + 1 ≤ L k ∧ L k ≤ 3 * f + 3)) w (w1.setCell ⟨hb, 4 + 2 * f + 5, none⟩ (.slice (some ⟨g, 0, none⟩) ((M f).length + 1) cap)) := Touch.trans (ht.mono (fun k hk => .inr (by omega))) ts (fun i hi => .inl (.inl (by rw [hi]; exact h.lab)))
  refine ⟨hB1, L', upd1 vs (4 + 2 * f) (.slice (some ⟨g, 0, none⟩) ((M f).length + 1) cap), _, ⟨?_, hLb, ?_⟩, ?_, rfl, hL', hT⟩
  · rw [← hand_set _ _ _ _ _ _ _ (by omega) (by omega)]; exact block_set hB1 _ _
  · intro f' hf'
    by_cases e : f' = f
    · subst e
      rw [updL_at, show upd1 vs (4 + 2 * f') (.slice (some ⟨g, 0, none⟩) ((M f').length + 1) cap) (3 + 2 * f') = vs (3 + 2 * f') from by simp [upd1], show upd1 vs (4 + 2 * f') (.slice (some ⟨g, 0, none⟩) ((M f').length + 1) cap) (4 + 2 * f') = (.slice (some ⟨g, 0, none⟩) ((M f').length + 1) cap) from by simp [upd1]]
      exact hF'.touch (kc_local f') ts (fun k _ hk => .inl (by rw [hk, hLb]; omega))
    · rw [updL_off _ _ e, show upd1 vs (4 + 2 * f) (.slice (some ⟨g, 0, none⟩) ((M f).length + 1) cap) (3 + 2 * f') = vs (3 + 2 * f') from by simp [upd1]; omega, show upd1 vs (4 + 2 * f) (.slice (some ⟨g, 0, none⟩) ((M f).length + 1) cap) (4 + 2 * f') = vs (4 + 2 * f') from by simp [upd1]; omega]
      refine (((h.fam f' hf').relabel hL').touch (kc_local f') ht (fun k hk hs => ?_)).touch (kc_local f') ts (fun k _ hk => .inl (by rw [hk, hLb]; omega))
      rw [hL' k hk]; omega
  · refine c.keep (fun b e => ⟨?_, hL' b (c.lt b e)⟩) rfl
    have := c.lab b e
    exact (ts.block b (Nat.lt_of_lt_of_le (c.lt b e) ht.size) (fun hh => by rw [hh, h.lab] at this; omega)).trans (ht.block b (c.lt b e) (by omega))

end

end Go.Proofs.YtnjlbgolnbdkaaaGreat
/- Texts of the proof of Boots, one behind the other. -/
namespace Go.Proofs.YtnjlbgolnbdkaaaGreat
open Go.RowKit

theorem Tryz.info3 : (Tryz.prog.info? 3).map (fun i => (i.zero, i.size, i.bytes)) = some (some (.int .i64 0), 1, 8) := by kernel_rfl
theorem Tryz.info52 : (Tryz.prog.info? 52).map (fun i => (i.zero, i.size, i.bytes)) = some (some (.agg #[.int .i64 0, .int .i64 0, .int .i64 0, .int .i64 0, .int .i64 0]), 5, 40) := by kernel_rfl
theorem Tryz.info47 : (Tryz.prog.info? 47).map (fun i => (i.zero, i.size, i.bytes)) = some (some (.agg #[.int .i64 0, .int .i64 0, .bool false]), 3, 24) := by kernel_rfl
def setW (w : World) (g : Nat) : Nat → List Value → World
  | _, [] => w
  | o, u :: us => setW (w.setCell ⟨g, o, none⟩ u) g (o + 1) us
def setL (xs : List Value) : Nat → List Value → List Value
  | _, [] => xs
  | o, u :: us => setL (xs.set o u) (o + 1) us
theorem setL_get (xs : List Value) (o : Nat) (ys : List Value) (hl : o + ys.length ≤ xs.length) (j : Nat) : (setL xs o ys)[j]? = if o ≤ j ∧ j < o + ys.length then ys[j - o]? else xs[j]? := by
  induction ys generalizing xs o with
  | nil => rw [if_neg (by simp)]; rfl
  | cons u us ih =>
    show (setL (xs.set o u) (o + 1) us)[j]? = _
    rw [List.length_cons] at hl
    rw [ih (xs.set o u) (o + 1) (by rw [List.length_set]; omega)]
    by_cases h1 : o + 1 ≤ j ∧ j < o + 1 + us.length
    · rw [if_pos h1, if_pos (by simp; omega), show j - o = (j - (o + 1)) + 1 from by omega]; rfl
    · rw [if_neg h1]
      by_cases h2 : j = o
      · subst h2
        rw [if_pos (by simp), Nat.sub_self, List.getElem?_set_self (by omega)]; rfl
      · rw [if_neg (by simp; omega), List.getElem?_set_ne (by omega)]
theorem own_set {w : World} {base : Nat} {e : TypeId} {s g N cap : Nat} {xs : List Value} (h : w.ownsRow base e s (.slice (some ⟨g, 0, none⟩) N cap) N xs) (o : Nat) (u : Value) : (w.setCell ⟨g, o, none⟩ u).ownsRow base e s (.slice (some ⟨g, 0, none⟩) N cap) N (xs.set o u) := by
  obtain ⟨h1, h2⟩ := h
  rcases h2 with ⟨h2, _⟩ | ⟨g', cap', cur, hv, hb, hh, hc, hm, hs, ht⟩
  · cases h2
  · simp at hv
    obtain ⟨rfl, rfl⟩ := hv
    refine ⟨by rw [List.length_set]; exact h1, .inr ⟨g, cap, cur.setIfInBounds o u, rfl, hb, block_set hh o u, hc, hm, by simp [hs], ?_⟩⟩
    rw [← ht, Array.toList_setIfInBounds, List.take_set]
theorem own_setW {base : Nat} {e : TypeId} {s g N cap : Nat} (ys : List Value) : ∀ (w : World) (xs : List Value) (o : Nat), w.ownsRow base e s (.slice (some ⟨g, 0, none⟩) N cap) N xs → o + ys.length ≤ N * s → (setW w g o ys).ownsRow base e s (.slice (some ⟨g, 0, none⟩) N cap) N (setL xs o ys) := by
  induction ys with
  | nil => intro w xs o h _; exact h
  | cons u us ih =>
    intro w xs o h ho
    rw [List.length_cons] at ho
    exact ih _ _ _ (own_set h o u) (by omega)
theorem touch_setW (g : Nat) (ys : List Value) : ∀ (w : World) (o : Nat), Touch (· = g) w (setW w g o ys) := by
  induction ys with
  | nil => intro w o; exact Touch.refl _ _
  | cons u us ih => intro w o; exact Touch.trans (Touch.ofSet w g o u rfl) (ih _ _) (fun i hi => .inl hi)

structure Fill (f : Nat) (w1 : World) (v : Value) (N : Nat) (m : Int) (k : Nat) (wr : World) : Prop where
  ex : ∃ xs, wr.ownsRow 0 (ety f) (esz f) v N xs ∧ ∀ j, j < k * esz f → xs[j]? = (reps N (elm f m))[j]?
  t : Touch (fun b => v.ownBlock = some b) w1 wr
theorem Fill.start {f : Nat} {w1 : World} {v : Value} {N : Nat} {m : Int} {xs : List Value} (h : w1.ownsRow 0 (ety f) (esz f) v N xs) : Fill f w1 v N m 0 w1 := ⟨⟨xs, h, fun j hj => by simp at hj⟩, Touch.refl _ _⟩
theorem Fill.step {f : Nat} {w1 wr : World} {g N c : Nat} {m : Int} {k : Nat} (h : Fill f w1 (.slice (some ⟨g, 0, none⟩) N c) N m k wr) (hk : k < N) : Fill f w1 (.slice (some ⟨g, 0, none⟩) N c) N m (k + 1) (setW wr g (k * esz f) (elm f m)) := by
  obtain ⟨xs, h1, h2⟩ := h.ex
  have hks : (k + 1) * esz f ≤ N * esz f := Nat.mul_le_mul_right _ hk
  rw [Nat.add_mul, Nat.one_mul] at hks
  have hx := h1.1
  refine ⟨⟨_, own_setW (elm f m) wr xs _ h1 (by rw [elm_length]; exact hks), fun j hj => ?_⟩, Touch.trans h.t (touch_setW g _ wr _) (fun i hi => .inl (by rw [hi]; rfl))⟩
  rw [Nat.add_mul, Nat.one_mul] at hj
  rw [setL_get _ _ _ (by rw [elm_length, hx]; exact hks), elm_length]
  by_cases hlt : j < k * esz f
  · rw [if_neg (by omega)]; exact h2 j hlt
  · rw [if_pos (by omega)]
    have := reps_at N (elm f m) k (j - k * esz f) hk (by rw [elm_length]; omega)
    rw [elm_length, show k * esz f + (j - k * esz f) = j from by omega] at this
    exact this.symm
theorem Fill.full {f : Nat} {w1 wr : World} {v : Value} {N : Nat} {m : Int} (h : Fill f w1 v N m N wr) : wr.ownsRow 0 (ety f) (esz f) v N (reps N (elm f m)) := by
  obtain ⟨xs, h1, h2⟩ := h.ex
  have e : xs = reps N (elm f m) := by
    apply List.ext_getElem?
    intro j
    by_cases hj : j < N * esz f
    · exact h2 j hj
    · rw [List.getElem?_eq_none (by rw [h1.1]; omega), List.getElem?_eq_none (by rw [reps_length, elm_length]; omega)]
  rw [← e]; exact h1
theorem Fill.at {f : Nat} {w1 wr : World} {ad : Option Addr} {N c : Nat} {m : Int} {k : Nat} (h : Fill f w1 (.slice ad N c) N m k wr) (hk : k < N) : ∃ (g : Nat) (u : Nat → Value), ad = some ⟨g, 0, none⟩ ∧ (∀ o, o < esz f → wr.cell? ⟨g, k * esz f + o, none⟩ = some (u o)) ∧ ∀ o, wr.frozen? ⟨g, o, none⟩ = false := by
  obtain ⟨xs, h1, _⟩ := h.ex
  rcases h1.2 with ⟨_, h2⟩ | ⟨g, cap, cur, hv, _, hh, hc, hm, hs, _⟩
  · omega
  · simp at hv
    have hks : (k + 1) * esz f ≤ cap * esz f := Nat.mul_le_mul_right _ (by omega)
    rw [Nat.add_mul, Nat.one_mul] at hks
    refine ⟨g, fun o => cur[k * esz f + o]?.getD default, hv.1, fun o ho => ?_, fun o => free_of_block hh o⟩
    have hlt : k * esz f + o < cur.size := by omega
    show _ = some (cur[k * esz f + o]?.getD default)
    rw [cell_of_row _ _ _ _ _ _ hh]
    simp [hlt]

def lab1 (L : Nat → Nat) (f : Nat) (v : Value) : Nat → Nat := fun k => if v.ownBlock = some k then 3 * f + 3 else L k
theorem Hnd.begin {f : Nat} {p : Nat → Value} {L : Nat → Nat} {hb : Nat} {n : Int} {vs : Nat → Value} {A : Nat → List Kept} {w1 wr : World} {v : Value} {N : Nat} {m : Int} (hf : f < 9) (h : Hnd p L hb n vs A A w1) (hL : ∀ b, v.ownBlock = some b → 100 ≤ L b) (hF : Fill f w1 v N m N wr) :
    Hnd p (lab1 L f v) hb n vs A A wr ∧ Cur f (lab1 L f v) A wr v N m := by
  have h2 : Hnd p L hb n vs A A wr := h.touch hF.t (fun k _ hk => by have := hL k hk; omega)
  refine ⟨h2.relabel (fun k _ hk => if_neg (fun e => by have := hL k e; omega)), hF.full, fun b e => if_pos e, fun k hk b e1 e2 => ?_⟩
  have := ((h2.fam f hf).kept k hk).1 b e2
  have := hL b e1
  omega

structure Keeping (p : Nat → Value) (f : Nat) (w : World) (L : Nat → Nat) (A : Nat → List Kept) (v0 : Value) (hb : Nat) (n : Int) (N : Nat) (m : Int) (j : Nat) (L' : Nat → Nat) (vs' : Nat → Value) (A' : Nat → List Kept) (v : Value) (wq : World) : Prop where
  h : Hnd p L' hb n vs' A' A' wq
  c : Cur f L' A' wq v (N + j) m
  len : ∀ i, (A' i).length = (A i).length + if i = f then j else 0
  lab : ∀ k, k < w.heap.size → L' k = lab1 L f v0 k
  t : Touch (fun k => L k ≤ 27 ∨ v0.ownBlock = some k) w wq

theorem Touch.alloc (w : World) (o : Obj) : Touch (fun _ => False) w (w.alloc o) := ⟨rfl, rfl, rfl, by simp, fun k hk _ => Below.heap_alloc w o k hk⟩
theorem Keeping.next {p : Nat → Value} {f : Nat} {w : World} {L : Nat → Nat} {A : Nat → List Kept} {v0 : Value} {hb : Nat} {n : Int} {N : Nat} {m : Int} {j : Nat} {L1 L5 : Nat → Nat} {vs1 vs5 : Nat → Value} {A1 A2 : Nat → List Kept} {v1 v5 : Value} {wr w5 : World} (hf : f < 9) (hK : Keeping p f w L A v0 hb n N m j L1 vs1 A1 v1 wr)
    (hA2 : A2 = updL A1 f (A1 f ++ [⟨v1, m⟩])) (hS : Step f L1 L5 wr w5) (hH : Hnd p L5 hb n vs5 A2 A2 w5) (hC : Cur f L5 A2 w5 v5 (N + j + 1) m) : Keeping p f w L A v0 hb n N m (j + 1) L5 vs5 A2 v5 w5 := by
  have hsz := hK.t.size
  refine ⟨hH, hC, fun i => ?_, fun k hk => (hS.lab k (by omega)).trans (hK.lab k hk), Touch.trans hK.t hS.t (fun i hi => ?_)⟩
  · have := hK.len i
    subst hA2
    by_cases e : i = f
    · subst e
      rw [updL_at, List.length_append, this, if_pos rfl, if_pos rfl]
      rfl
    · rw [updL_off _ _ e, this, if_neg e, if_neg e]
  · by_cases h : i < w.heap.size
    · left
      rw [hK.lab i h] at hi
      unfold lab1 at hi
      split at hi
      · exact .inr (by assumption)
      · left; omega
    · right; omega

end Go.Proofs.YtnjlbgolnbdkaaaGreat
namespace Go.Proofs.YtnjlbgolnbdkaaaGreat
open Go.RowKit

def entCells (e : Nat → Int) : List Value := [.int .i64 (e 0), .int .i64 (e 1), .int .i64 (e 2), .int .i64 (e 3), .int .i64 (e 4), .int .i64 (e 5)]
def entOf (bs : List Int) (s i : Nat) : Nat → Int
  | 0 => kindAt bs s i
  | k + 1 => recOf bs s i k
theorem own_rarg16 {w : World} {base x cap : Nat} {zs : List Int} (h : w.ownsRow base 5 1 (.slice (some ⟨x, 0, none⟩) 16 cap) 16 (vals zs)) : Row w x 0 zs ∧ 16 ≤ cap ∧ cap ≤ 9223372036854775807 := by
  rcases h.2 with ⟨h1, _⟩ | ⟨g, cap', cur, hv, _, _, hc, hm, _⟩
  · cases h1
  · simp at hv
    obtain ⟨rfl, rfl⟩ := hv
    exact ⟨row_of_own h, hc, by unfold maxLen at hm; omega⟩

set_option maxRecDepth 100000 in
set_option maxHeartbeats 2000000 in
theorem readOne_any (jb pb g : Nat) (bs : List Int) (left res : Int) (dead : Bool) (done : Int) (s i : Nat) (w : World) (hs : s < 2) (hi : i < 8) (h : FlashAt w g bs left res dead done)
    (hJ : w.heap[jb]? = some (.cells #[.pointer (some ⟨g, 0, none⟩)] 107 (0, 0))) (hP : w.heap[pb]? = some (.cells #[.int .i64 s] 3 (0, 0))) :
    Calls Tryz.prog 167 #[.int .i64 i, .pointer (some ⟨jb, 0, none⟩), .pointer (some ⟨pb, 0, none⟩)] w fun e w' => e = .returned (.agg #[.int .i64 (entOf bs s i 0), .int .i64 (entOf bs s i 1), .int .i64 (entOf bs s i 2), .int .i64 (entOf bs s i 3), .int .i64 (entOf bs s i 4), .int .i64 (entOf bs s i 5)]) ∧ Below w.heap.size w w' := by
  have cj : w.cell? ⟨jb, 0, none⟩ = some (.pointer (some ⟨g, 0, none⟩)) := by rw [cell_of_row _ _ _ _ _ _ hJ]; rfl
  have cp : w.cell? ⟨pb, 0, none⟩ = some (.int .i64 s) := by rw [cell_of_row _ _ _ _ _ _ hP]; rfl
  have hjl := lt_of_block hJ
  have hpl := lt_of_block hP
  have HB0 : Hid (∀ W : World, Below w.heap.size w W → Calls Tryz.prog 169 #[.agg #[.pointer (some ⟨g, 0, none⟩)], .int .i64 s, .int .i64 i] W fun e w' => ∃ x cap, e = .returned (.slice (some ⟨x, 0, none⟩) 16 cap) ∧ w'.ownsRow W.heap.size 5 1 (.slice (some ⟨x, 0, none⟩) 16 cap) 16 (vals (slotB bs s i)) ∧ Below W.heap.size W w') := fun W hW => jbytes_any g bs left res dead done s i W hs hi (h.below hW)
  have HLEN := hide (slotB_length bs s i h.len hs hi)
  have HBY : Hid (Bytes (slotB bs s i)) := (h.bytes.drop _).take _
  have HE : Hid (entOf bs s i 0 = sortKind (slotB bs s i) ∧ entOf bs s i 1 = sortRec (slotB bs s i) 0 ∧ entOf bs s i 2 = sortRec (slotB bs s i) 1 ∧ entOf bs s i 3 = sortRec (slotB bs s i) 2 ∧ entOf bs s i 4 = sortRec (slotB bs s i) 3 ∧ entOf bs s i 5 = sortRec (slotB bs s i) 4) := ⟨rfl, rfl, rfl, rfl, rfl, rfl⟩
  clear h hJ hP
  have HB1 := hide (HB0.out (w.alloc (.cells #[.int .i64 0, .int .i64 0, .int .i64 0, .int .i64 0, .int .i64 0, .int .i64 0] 259)) ((Below.refl _ _).alloc (Nat.le_refl _) _))
  clear HB0
  go_enter Tryz.func167, Tryz.ntmps167
  go_wp2_with fail
  refine HB1.out.mono ?_
  rintro e w1 ⟨x, cap, rfl, hown, hb1⟩
  obtain ⟨hr, hc1, hc2⟩ := own_rarg16 hown
  have HS := hide (sort16_any x 0 cap (slotB bs s i) w1 HLEN.out HBY.out hr hc1 hc2)
  have hs1 : w.heap.size + 1 ≤ w1.heap.size := by have := hb1.size; simp at this; exact this
  have hz1 : w1.heap[w.heap.size]? = some (.cells #[.int .i64 0, .int .i64 0, .int .i64 0, .int .i64 0, .int .i64 0, .int .i64 0] 259 (0, 0)) := (hb1.block _ (by simp)).trans (heap_alloc_new w _)
  have HB2 : Hid (Below w.heap.size w w1) := ((Below.refl _ _).alloc (Nat.le_refl _) _).trans (hb1.mono (by simp))
  have HZ1 := hide hz1
  clear hown hb1 hr hz1 HB1
  simp only [aggOf] at HS
  generalize sortKind (slotB bs s i) = kk at HS HE
  generalize sortRec (slotB bs s i) 0 = r0 at HS HE
  generalize sortRec (slotB bs s i) 1 = r1 at HS HE
  generalize sortRec (slotB bs s i) 2 = r2 at HS HE
  generalize sortRec (slotB bs s i) 3 = r3 at HS HE
  generalize sortRec (slotB bs s i) 4 = r4 at HS HE
  go_wp2_with fail
  refine HS.out.mono ?_
  rintro e w2 ⟨rfl, hb2⟩
  have hs2 := hb2.size
  have hz2 := (hb2.block _ (by omega)).trans HZ1.out
  have HB3 : Hid (Below w.heap.size w w2) := HB2.out.trans (hb2.mono (by omega))
  have z0 : w2.cell? ⟨w.heap.size, 0, none⟩ = some (.int .i64 0) := by rw [cell_of_row _ _ _ _ _ _ hz2]; rfl
  have z1 : w2.cell? ⟨w.heap.size, 1, none⟩ = some (.int .i64 0) := by rw [cell_of_row _ _ _ _ _ _ hz2]; rfl
  have z2 : w2.cell? ⟨w.heap.size, 2, none⟩ = some (.int .i64 0) := by rw [cell_of_row _ _ _ _ _ _ hz2]; rfl
  have z3 : w2.cell? ⟨w.heap.size, 3, none⟩ = some (.int .i64 0) := by rw [cell_of_row _ _ _ _ _ _ hz2]; rfl
  have z4 : w2.cell? ⟨w.heap.size, 4, none⟩ = some (.int .i64 0) := by rw [cell_of_row _ _ _ _ _ _ hz2]; rfl
  have z5 : w2.cell? ⟨w.heap.size, 5, none⟩ = some (.int .i64 0) := by rw [cell_of_row _ _ _ _ _ _ hz2]; rfl
  have f0 := free_of_block hz2 0
  have f1 := free_of_block hz2 1
  have f2 := free_of_block hz2 2
  have f3 := free_of_block hz2 3
  have f4 := free_of_block hz2 4
  have f5 := free_of_block hz2 5
  have hlt2 : w.heap.size < w2.heap.size := by omega
  obtain ⟨wF, hwF⟩ : ∃ wF, wF = World.alloc ((((((w2.setCell ⟨w.heap.size, 0, none⟩ (.int .i64 kk)).setCell ⟨w.heap.size, 1, none⟩ (.int .i64 r0)).setCell ⟨w.heap.size, 2, none⟩ (.int .i64 r1)).setCell ⟨w.heap.size, 3, none⟩ (.int .i64 r2)).setCell ⟨w.heap.size, 4, none⟩ (.int .i64 r3)).setCell ⟨w.heap.size, 5, none⟩ (.int .i64 r4)) (.cells #[.int .i64 r0, .int .i64 r1, .int .i64 r2, .int .i64 r3, .int .i64 r4] 52) := ⟨_, rfl⟩
  have hF : wF.heap[w.heap.size]? = some (.cells #[.int .i64 kk, .int .i64 r0, .int .i64 r1, .int .i64 r2, .int .i64 r3, .int .i64 r4] 259 (0, 0)) := by
    rw [hwF, Below.heap_alloc _ _ _ (by simp; omega)]
    exact block_set (block_set (block_set (block_set (block_set (block_set hz2 0 _) 1 _) 2 _) 3 _) 4 _) 5 _
  have y0 : wF.cell? ⟨w.heap.size, 0, none⟩ = some (.int .i64 kk) := by rw [cell_of_row _ _ _ _ _ _ hF]; rfl
  have y1 : wF.cell? ⟨w.heap.size, 1, none⟩ = some (.int .i64 r0) := by rw [cell_of_row _ _ _ _ _ _ hF]; rfl
  have y2 : wF.cell? ⟨w.heap.size, 2, none⟩ = some (.int .i64 r1) := by rw [cell_of_row _ _ _ _ _ _ hF]; rfl
  have y3 : wF.cell? ⟨w.heap.size, 3, none⟩ = some (.int .i64 r2) := by rw [cell_of_row _ _ _ _ _ _ hF]; rfl
  have y4 : wF.cell? ⟨w.heap.size, 4, none⟩ = some (.int .i64 r3) := by rw [cell_of_row _ _ _ _ _ _ hF]; rfl
  have y5 : wF.cell? ⟨w.heap.size, 5, none⟩ = some (.int .i64 r4) := by rw [cell_of_row _ _ _ _ _ _ hF]; rfl
  have HEND : Hid (Below w.heap.size w wF) := by
    show Below _ _ _
    rw [hwF]
    refine Below.alloc ?_ (by simp; omega) _
    iterate 6 refine Below.thenSet ?_ (Nat.le_refl _) _ _
    exact HB3.out
  have HWF := hide hwF
  clear hb2 hz2 HS hF hwF
  go_wp2
  rw [← HWF.out]
  refine bodyPost_ret (v := .agg #[.int .i64 kk, .int .i64 r0, .int .i64 r1, .int .i64 r2, .int .i64 r3, .int .i64 r4]) (by simp [results, Tryz.results167, go_sem, y0, y1, y2, y3, y4, y5]) rfl ?_
  obtain ⟨h0, h1, h2, h3, h4, h5⟩ := HE.out
  rw [h0, h1, h2, h3, h4, h5]
  exact ⟨rfl, HEND.out⟩

theorem flat_len {X : Type} (C : X → List Value) (n : Nat) (hC : ∀ x, (C x).length = n) (l : List X) : (l.flatMap C).length = l.length * n := by
  induction l with
  | nil => simp
  | cons a l ih => rw [List.flatMap_cons, List.length_append, ih, hC, List.length_cons, Nat.succ_mul, Nat.add_comm]
theorem flat_fill {X : Type} (C : X → List Value) (n : Nat) (hC : ∀ x, (C x).length = n) (l : List X) (e : X) (rest : List Value) (hr : n ≤ rest.length) : setL (l.flatMap C ++ rest) (l.length * n) (C e) = (l ++ [e]).flatMap C ++ rest.drop n := by
  apply List.ext_getElem?
  intro j
  have h1 := flat_len C n hC l
  have hx := hC e
  rw [setL_get _ _ _ (by rw [List.length_append, h1, hx]; omega), hx, show (l ++ [e]).flatMap C = l.flatMap C ++ C e from by simp, List.append_assoc]
  generalize l.length * n = q at *
  by_cases ha : j < q
  · rw [if_neg (by omega), List.getElem?_append_left (by omega), List.getElem?_append_left (by omega)]
  · by_cases hb : j < q + n
    · rw [if_pos (by omega), List.getElem?_append_right (by omega), h1, List.getElem?_append_left (by rw [hx]; omega)]
    · rw [if_neg (by omega), List.getElem?_append_right (by omega), List.getElem?_append_right (by omega), h1, List.getElem?_append_right (by rw [hx]; omega), hx, List.getElem?_drop]
      congr 1
      omega
theorem mk_init (w : World) (T E : TypeId) (n many : Nat) (M : Array Value) (hm : many ≤ 255) (hMs : M.size = many * n) : ∀ W, W = (((w.alloc (.cells #[.slice none 0 0] T)).alloc (.cells M E)).alloc (.cells #[.slice (some ⟨w.heap.size + 1, 0, none⟩) many many] T)) → Touch (fun _ => False) w W ∧ W.heap.size = w.heap.size + 3 ∧ W.heap[w.heap.size]? = some (.cells #[.slice none 0 0] T (0, 0)) ∧ W.heap[w.heap.size + 2]? = some (.cells #[.slice (some ⟨w.heap.size + 1, 0, none⟩) many many] T (0, 0)) ∧ W.ownsRow w.heap.size E n (.slice (some ⟨w.heap.size + 1, 0, none⟩) many many) many M.toList := by
  rintro W rfl
  have s1 : (w.alloc (.cells #[.slice none 0 0] T)).heap.size = w.heap.size + 1 := by simp
  have s2 : ((w.alloc (.cells #[.slice none 0 0] T)).alloc (.cells M E)).heap.size = w.heap.size + 2 := by simp
  refine ⟨Touch.trans (Touch.trans (Touch.alloc _ _) (Touch.alloc _ _) (fun _ h => .inl h)) (Touch.alloc _ _) (fun _ h => .inl h), by simp, ?_, ?_, ?_⟩
  · rw [Below.heap_alloc _ _ _ (by omega), Below.heap_alloc _ _ _ (by omega)]; exact heap_alloc_new w _
  · have := heap_alloc_new ((w.alloc (.cells #[.slice none 0 0] T)).alloc (.cells M E)) (.cells #[.slice (some ⟨w.heap.size + 1, 0, none⟩) many many] T)
    rwa [s2] at this
  · have hb : (((w.alloc (.cells #[.slice none 0 0] T)).alloc (.cells M E)).alloc (.cells #[.slice (some ⟨w.heap.size + 1, 0, none⟩) many many] T)).heap[w.heap.size + 1]? = some (.cells M E (0, 0)) := by
      rw [Below.heap_alloc _ _ _ (by omega)]
      have := heap_alloc_new (w.alloc (.cells #[.slice none 0 0] T)) (.cells M E)
      rwa [s1] at this
    exact ⟨by simp [hMs], .inr ⟨w.heap.size + 1, many, M, rfl, by omega, hb, Nat.le_refl _, by unfold maxLen; omega, hMs, by rw [List.take_of_length_le (by simp [hMs])]⟩⟩
theorem mk_after {X : Type} (C : X → List Value) (n : Nat) (hC : ∀ x, (C x).length = n) (T E : TypeId) (w : World) (many k : Nat) (S : Nat → Prop) (hS : ∀ b, S b → b < w.heap.size) (I : Nat → List X → World → Prop) (hkeep : ∀ j l wr w', I j l wr → Touch (fun b => w.heap.size ≤ b ∧ b < w.heap.size + 3) wr w' → I j l w')
    (l : List X) (rest : List Value) (wr : World) (hlt : k < many) (hl : l.length = k) (hsz : w.heap.size + 3 ≤ wr.heap.size) (hres : wr.heap[w.heap.size]? = some (.cells #[.slice none 0 0] T (0, 0))) (hbox : wr.heap[w.heap.size + 2]? = some (.cells #[.slice (some ⟨w.heap.size + 1, 0, none⟩) many many] T (0, 0))) (hrow : wr.ownsRow w.heap.size E n (.slice (some ⟨w.heap.size + 1, 0, none⟩) many many) many (l.flatMap C ++ rest)) (hrest : rest.length = (many - k) * n) :
    ∀ (x : X) (w2 : World), I (k + 1) (l ++ [x]) w2 → Touch S wr.drew w2 → w2.cell? ⟨w.heap.size + 2, 0, none⟩ = some (.slice (some ⟨w.heap.size + 1, 0, none⟩) many many) ∧ (∃ u : Nat → Value, ∀ o, o < n → w2.cell? ⟨w.heap.size + 1, k * n + o, none⟩ = some (u o)) ∧ (∀ o, w2.frozen? ⟨w.heap.size + 1, o, none⟩ = false) ∧
          (I (k + 1) (l ++ [x]) (setW w2 (w.heap.size + 1) (k * n) (C x)) ∧ w.heap.size + 3 ≤ (setW w2 (w.heap.size + 1) (k * n) (C x)).heap.size ∧ (setW w2 (w.heap.size + 1) (k * n) (C x)).heap[w.heap.size]? = some (.cells #[.slice none 0 0] T (0, 0)) ∧ (setW w2 (w.heap.size + 1) (k * n) (C x)).heap[w.heap.size + 2]? = some (.cells #[.slice (some ⟨w.heap.size + 1, 0, none⟩) many many] T (0, 0)) ∧ (setW w2 (w.heap.size + 1) (k * n) (C x)).ownsRow w.heap.size E n (.slice (some ⟨w.heap.size + 1, 0, none⟩) many many) many ((l ++ [x]).flatMap C ++ rest.drop n)) := by
  intro x w2 hI2 ht
  have hmul : k * n + n ≤ many * n := by rw [← Nat.succ_mul]; exact Nat.mul_le_mul_right n hlt
  have hrn : n ≤ rest.length := by rw [hrest]; exact Nat.le_mul_of_pos_left n (by omega)
  have ht2 : Touch S wr w2 := ⟨ht.os, ht.tape, ht.output, ht.size, ht.block⟩
  have hs2 := ht2.size
  have hbox2 := (ht2.block _ (by omega) (fun hs => by have := hS _ hs; omega)).trans hbox
  have hrow2 : w2.ownsRow w.heap.size E n (.slice (some ⟨w.heap.size + 1, 0, none⟩) many many) many (l.flatMap C ++ rest) := own_keep hrow (fun b e => ht2.block b (World.ownsRow.lt hrow b e).2 (fun hs => by have := hS _ hs; have := (World.ownsRow.lt hrow b e).1; omega))
  obtain ⟨cur, hcur, hcs⟩ : ∃ cur : Array Value, w2.heap[w.heap.size + 1]? = some (.cells cur E (0, 0)) ∧ cur.size = many * n := by
    rcases hrow2.2 with ⟨h, _⟩ | ⟨g', cap', cur, hv, _, hh, _, _, hs', _⟩
    · cases h
    · simp at hv
      obtain ⟨rfl, rfl⟩ := hv
      exact ⟨cur, hh, hs'⟩
  have t := touch_setW (w.heap.size + 1) (C x) w2 (k * n)
  have hres2 := (ht2.block _ (by omega) (fun hs => by have := hS _ hs; omega)).trans hres
  refine ⟨by rw [cell_of_row _ _ _ _ _ _ hbox2]; rfl, ⟨fun o => cur[k * n + o]?.getD default, fun o ho => ?_⟩, fun o => free_of_block hcur o, hkeep _ _ _ _ hI2 (t.mono (fun b hb => by rw [hb]; omega)), by have := t.size; omega, (t.block _ (by omega) (by omega)).trans hres2, (t.block _ (by omega) (by omega)).trans hbox2, ?_⟩
  · have hlt' : k * n + o < cur.size := by omega
    show _ = some (cur[k * n + o]?.getD default)
    rw [cell_of_row _ _ _ _ _ _ hcur]
    simp [hlt']
  · have := own_setW (C x) w2 _ (k * n) hrow2 (by rw [hC]; exact hmul)
    rw [← hl, flat_fill C n hC l x rest hrn] at this
    rw [← hl]
    exact this
theorem Tryz.info259 : (Tryz.prog.info? 259).map (fun i => (i.zero, i.size, i.bytes)) = some (some (.agg #[.int .i64 0, .int .i64 0, .int .i64 0, .int .i64 0, .int .i64 0, .int .i64 0]), 6, 48) := by kernel_rfl
def entsCells (l : List (Nat → Int)) : List Value := l.flatMap entCells
set_option maxRecDepth 100000 in
set_option maxHeartbeats 4000000 in
theorem makeEnt_any (jb pb : Nat) (many : Nat) (hm : many ≤ 255) (S : Nat → Prop) (w : World) (hS : ∀ b, S b → b < w.heap.size) (I : Nat → List (Nat → Int) → World → Prop)
    (hkeep : ∀ j l wr w', I j l wr → Touch (fun b => w.heap.size ≤ b ∧ b < w.heap.size + 3) wr w' → I j l w')
    (hstep : ∀ j l wr, j < many → I j l wr → w.heap.size ≤ wr.heap.size → Calls Tryz.prog 167 #[.int .i64 j, .pointer (some ⟨jb, 0, none⟩), .pointer (some ⟨pb, 0, none⟩)] wr fun e w' => ∃ x : Nat → Int, e = .returned (.agg #[.int .i64 (x 0), .int .i64 (x 1), .int .i64 (x 2), .int .i64 (x 3), .int .i64 (x 4), .int .i64 (x 5)]) ∧ I (j + 1) (l ++ [x]) w' ∧ Touch S wr w')
    (h0 : I 0 [] w) : Calls Tryz.prog 166 #[.int .i64 many, .func (.func 167) #[] #[.pointer (some ⟨jb, 0, none⟩), .pointer (some ⟨pb, 0, none⟩)]] w fun e w' => ∃ x l, e = .returned (.agg #[.slice (some ⟨x, 0, none⟩) many many]) ∧ I many l w' ∧ l.length = many ∧ w'.ownsRow w.heap.size 259 6 (.slice (some ⟨x, 0, none⟩) many many) many (entsCells l) := by
  obtain ⟨i0, hi, hz0, hz1, hz2⟩ := info_parts Tryz.info259
  have hmk : ∀ W : World, (Instr.makeSlice 179 (.int .i64 (many : Int)) (.int .i64 (many : Int))).run Tryz.prog W = .ok (.slice (some ⟨W.heap.size, 0, none⟩) many many) (W.alloc (.cells (madeCells #[.int .i64 0, .int .i64 0, .int .i64 0, .int .i64 0, .int .i64 0, .int .i64 0] (many * 6)) 259)) := by
    intro W
    have := run_make (P := Tryz.prog) (w := W) 179 259 i0 _ Tryz.underlying179 hi hz0 .i64 .i64 (many : Int) (many : Int) (by omega) (by omega) (by rw [hz2]; omega) (by omega)
    simpa [hz1, Value.cells] using this
  generalize hM : madeCells #[.int .i64 0, .int .i64 0, .int .i64 0, .int .i64 0, .int .i64 0, .int .i64 0] (many * 6) = M at hmk
  have hMs : M.size = many * 6 := by rw [← hM]; simp [madeCells]
  have HK := hide hkeep
  have HS := hide hS
  have HST := hide hstep
  have H0 := hide h0
  clear hkeep hS hstep h0 hM
  have HINIT := hide (mk_init w 181 259 6 many M hm hMs)
  go_enter Tryz.func166, Tryz.ntmps166
  go_wp2
  go_loopw [13] (fun t wr => ∃ (k : Nat) (l : List (Nat → Int)) (rest : List Value), k ≤ many ∧ t = .int .i64 k ∧ l.length = k ∧ I k l wr ∧ w.heap.size + 3 ≤ wr.heap.size ∧ wr.heap[w.heap.size]? = some (.cells #[.slice none 0 0] 181 (0, 0)) ∧ wr.heap[w.heap.size + 2]? = some (.cells #[.slice (some ⟨w.heap.size + 1, 0, none⟩) many many] 181 (0, 0)) ∧ wr.ownsRow w.heap.size 259 6 (.slice (some ⟨w.heap.size + 1, 0, none⟩) many many) many (entsCells l ++ rest) ∧ rest.length = (many - k) * 6) (fun t _ => many - (intOf t).toNat)
  case atStart =>
    obtain ⟨h1, h2, h3, h4, h5⟩ := HINIT.out _ rfl
    exact ⟨0, [], M.toList, by omega, rfl, rfl, HK.out _ _ _ _ H0.out (h1.mono (fun _ h => h.elim)), by omega, h3, h4, h5, by simp [hMs]⟩
  case round =>
    obtain ⟨k, l, rest, hk, rfl, hl, hI, hsz, hres, hbox, hrow, hrest⟩ := hrel
    have bx : wr.cell? ⟨w.heap.size + 2, 0, none⟩ = some (.slice (some ⟨w.heap.size + 1, 0, none⟩) many many) := by rw [cell_of_row _ _ _ _ _ _ hbox]; rfl
    by_cases hlt : k < many
    · have HB := hide (HST.out k l wr.drew hlt (HK.out _ _ _ _ hI ⟨rfl, rfl, rfl, Nat.le_refl _, fun _ _ _ => rfl⟩) (by show w.heap.size ≤ wr.heap.size; omega))
      have HAF := hide (mk_after entCells 6 (fun _ => rfl) 181 259 w many k S HS.out I HK.out l rest wr hlt hl hsz hres hbox hrow hrest)
      have HR6 : Hid ((rest.drop 6).length = (many - (k + 1)) * 6) := by show _ = _; rw [List.length_drop, hrest]; omega
      have HLL : Hid (∀ x : Nat → Int, (l ++ [x]).length = k + 1) := fun x => by rw [List.length_append, hl]; rfl
      clear hI hres hbox hrow hl hrest
      go_wp2_with fail
      go_region_law (go_simp; (with_reducible show Calls Tryz.prog 167 _ _ _); refine HB.out.mono ?_; rintro e w2 ⟨x, rfl, hI2, ht2⟩; obtain ⟨bx2, ⟨u, hu⟩, hff, h5⟩ := HAF.out x w2 hI2 ht2; have H5 := hide h5; have q0 : w2.cell? ⟨w.heap.size + 1, k * 6, none⟩ = some (u 0) := hu 0 (by omega); have q1 := hu 1 (by omega); have q2 := hu 2 (by omega); have q3 := hu 3 (by omega); have q4 := hu 4 (by omega); have q5 := hu 5 (by omega); have f0 := hff (k * 6); have f1 := hff (k * 6 + 1); have f2 := hff (k * 6 + 2); have f3 := hff (k * 6 + 3); have f4 := hff (k * 6 + 4); have f5 := hff (k * 6 + 5); clear hI2 ht2 hu hff h5)
      all_goals (
        go_wp2
        go_roundw
        case rel => exact ⟨k + 1, l ++ [x], rest.drop 6, by omega, by go_num, HLL.out x, H5.out.1, H5.out.2.1, H5.out.2.2.1, H5.out.2.2.2.1, H5.out.2.2.2.2, HR6.out⟩
        case measure => simp [intOf]; omega)
    · obtain rfl : k = many := by omega
      obtain rfl : rest = [] := List.eq_nil_of_length_eq_zero (by rw [hrest, Nat.sub_self, Nat.zero_mul])
      rw [List.append_nil] at hrow
      have r0 : wr.cell? ⟨w.heap.size, 0, none⟩ = some (.slice none 0 0) := by rw [cell_of_row _ _ _ _ _ _ hres]; rfl
      have fr0 := free_of_block hres 0
      obtain ⟨wF, hwF⟩ : ∃ wF, wF = wr.setCell ⟨w.heap.size, 0, none⟩ (.slice (some ⟨w.heap.size + 1, 0, none⟩) k k) := ⟨_, rfl⟩
      have hFB : wF.heap[w.heap.size]? = some (.cells #[.slice (some ⟨w.heap.size + 1, 0, none⟩) k k] 181 (0, 0)) := by rw [hwF]; exact block_set hres 0 _
      have y0 : wF.cell? ⟨w.heap.size, 0, none⟩ = some (.slice (some ⟨w.heap.size + 1, 0, none⟩) k k) := by rw [cell_of_row _ _ _ _ _ _ hFB]; rfl
      have tF : Touch (· = w.heap.size) wr wF := by rw [hwF]; exact Touch.ofSet _ _ _ _ rfl
      have HEND : Hid (I k l wF ∧ l.length = k ∧ wF.ownsRow w.heap.size 259 6 (.slice (some ⟨w.heap.size + 1, 0, none⟩) k k) k (entsCells l)) := ⟨HK.out _ _ _ _ hI (tF.mono (fun b hb => by rw [hb]; omega)), hl, own_keep hrow (fun b e => tF.block b (World.ownsRow.lt hrow b e).2 (by simp [Value.ownBlock] at e; omega))⟩
      have HWF := hide hwF
      clear hI hres hbox hrow hl hrest hFB tF hwF
      go_wp2
      rw [← HWF.out]
      refine bodyPost_ret (v := .agg #[.slice (some ⟨w.heap.size + 1, 0, none⟩) k k]) (by simp [results, Tryz.results166, go_sem, y0]) rfl ?_
      exact ⟨_, l, rfl, HEND.out⟩
end Go.Proofs.YtnjlbgolnbdkaaaGreat
namespace Go.Proofs.YtnjlbgolnbdkaaaGreat
open Go.RowKit

def entsTo (bs : List Int) (s : Nat) : Nat → List (Nat → Int)
  | 0 => []
  | k + 1 => entsTo bs s k ++ [entOf bs s k]
set_option maxRecDepth 100000 in
set_option maxHeartbeats 4000000 in
theorem jread_any (g : Nat) (bs : List Int) (left res : Int) (dead : Bool) (done : Int) (s : Nat) (w : World) (hs : s < 2) (h : FlashAt w g bs left res dead done) :
    Calls Tryz.prog 124 #[.agg #[.pointer (some ⟨g, 0, none⟩)], .int .i64 s] w fun e w' => ∃ x, e = .returned (.agg #[.int .i64 s, .slice (some ⟨x, 0, none⟩) 8 8]) ∧ w'.ownsRow w.heap.size 259 6 (.slice (some ⟨x, 0, none⟩) 8 8) 8 (entsCells (entsTo bs s 8)) ∧ Below w.heap.size w w' := by
  obtain ⟨w3, hw3⟩ : ∃ w3, w3 = ((w.alloc (.cells #[.pointer (some ⟨g, 0, none⟩)] 107)).alloc (.cells #[.int .i64 s] 3)).alloc (.cells #[.int .i64 0, .slice none 0 0] 183) := ⟨_, rfl⟩
  have hs3 : w3.heap.size = w.heap.size + 3 := by rw [hw3]; simp
  have t3 : Touch (fun _ => False) w w3 := by rw [hw3]; exact Touch.trans (Touch.trans (Touch.alloc _ _) (Touch.alloc _ _) (fun _ h => .inl h)) (Touch.alloc _ _) (fun _ h => .inl h)
  have hj3 : w3.heap[w.heap.size]? = some (.cells #[.pointer (some ⟨g, 0, none⟩)] 107 (0, 0)) := by rw [hw3, Below.heap_alloc _ _ _ (by simp; omega), Below.heap_alloc _ _ _ (by simp)]; exact heap_alloc_new w _
  have hp3 : w3.heap[w.heap.size + 1]? = some (.cells #[.int .i64 s] 3 (0, 0)) := by
    rw [hw3, Below.heap_alloc _ _ _ (by simp)]
    have := heap_alloc_new (w.alloc (.cells #[.pointer (some ⟨g, 0, none⟩)] 107)) (.cells #[.int .i64 s] 3)
    rwa [show (w.alloc (.cells #[.pointer (some ⟨g, 0, none⟩)] 107)).heap.size = w.heap.size + 1 from by simp] at this
  have hr3 : w3.heap[w.heap.size + 2]? = some (.cells #[.int .i64 0, .slice none 0 0] 183 (0, 0)) := by
    rw [hw3]
    have := heap_alloc_new ((w.alloc (.cells #[.pointer (some ⟨g, 0, none⟩)] 107)).alloc (.cells #[.int .i64 s] 3)) (.cells #[.int .i64 0, .slice none 0 0] 183)
    rwa [show ((w.alloc (.cells #[.pointer (some ⟨g, 0, none⟩)] 107)).alloc (.cells #[.int .i64 s] 3)).heap.size = w.heap.size + 2 from by simp] at this
  have hlt := h.lt
  have HMK := hide (makeEnt_any w.heap.size (w.heap.size + 1) 8 (by omega) (fun _ => False) w3 (fun _ h => h.elim) (fun j l wr => l = entsTo bs s j ∧ Touch (fun b => w3.heap.size ≤ b) w3 wr)
    (fun j l wr w' hI t => ⟨hI.1, hI.2.trans t (fun i hi => .inl hi.1)⟩)
    (fun j l wr hj hI hsz => (readOne_any w.heap.size (w.heap.size + 1) g bs left res dead done s j wr hs hj ((h.keep (t3.block g hlt (fun h => h))).keep (hI.2.block g (by omega) (by omega))) ((hI.2.block _ (by omega) (by omega)).trans hj3) ((hI.2.block _ (by omega) (by omega)).trans hp3)).mono (fun e w' ⟨he, hb⟩ => ⟨entOf bs s j, he, ⟨by rw [hI.1]; rfl, hI.2.trans (Touch.ofBelow (S := fun _ => False) hb) (fun _ h => h.elim)⟩, Touch.ofBelow hb⟩))
    ⟨rfl, Touch.refl _ _⟩)
  have HR3 := hide hr3
  have HP3 := hide hp3
  have HT3 := hide t3
  have HW3 := hide hw3
  clear h hj3 hp3 hr3 t3 hw3
  go_enter Tryz.func124, Tryz.ntmps124
  go_wp2_with fail
  rw [← HW3.out]
  refine HMK.out.mono ?_
  rintro e w4 ⟨x, l, rfl, ⟨hl, ht⟩, hll, hown⟩
  have hs4 := ht.size
  have hp4 := (ht.block _ (by omega) (by omega)).trans HP3.out
  have hr4 : w4.heap[w.heap.size + 1 + 1]? = some (.cells #[.int .i64 0, .slice none 0 0] 183 (0, 0)) := (ht.block _ (by omega) (by omega)).trans HR3.out
  have l1 : w.heap.size + 1 < w4.heap.size := by omega
  have l2 : w.heap.size + 1 + 1 < w4.heap.size := by omega
  have p4 : w4.cell? ⟨w.heap.size + 1, 0, none⟩ = some (.int .i64 s) := by rw [cell_of_row _ _ _ _ _ _ hp4]; rfl
  have q0 : w4.cell? ⟨w.heap.size + 1 + 1, 0, none⟩ = some (.int .i64 0) := by rw [cell_of_row _ _ _ _ _ _ hr4]; rfl
  have q1 : w4.cell? ⟨w.heap.size + 1 + 1, 1, none⟩ = some (.slice none 0 0) := by rw [cell_of_row _ _ _ _ _ _ hr4]; rfl
  have f0 := free_of_block hr4 0
  have f1 := free_of_block hr4 1
  obtain ⟨wF, hwF⟩ : ∃ wF, wF = World.alloc ((w4.setCell ⟨w.heap.size + 1 + 1, 0, none⟩ (.int .i64 s)).setCell ⟨w.heap.size + 1 + 1, 1, none⟩ (.slice (some ⟨x, 0, none⟩) 8 8)) (.cells #[.slice (some ⟨x, 0, none⟩) 8 8] 181) := ⟨_, rfl⟩
  have hFB : wF.heap[w.heap.size + 1 + 1]? = some (.cells #[.int .i64 s, .slice (some ⟨x, 0, none⟩) 8 8] 183 (0, 0)) := by
    rw [hwF, Below.heap_alloc _ _ _ (by simp; omega)]
    exact block_set (block_set hr4 0 _) 1 _
  have y0 : wF.cell? ⟨w.heap.size + 1 + 1, 0, none⟩ = some (.int .i64 s) := by rw [cell_of_row _ _ _ _ _ _ hFB]; rfl
  have y1 : wF.cell? ⟨w.heap.size + 1 + 1, 1, none⟩ = some (.slice (some ⟨x, 0, none⟩) 8 8) := by rw [cell_of_row _ _ _ _ _ _ hFB]; rfl
  have tF : Touch (· = w.heap.size + 1 + 1) w4 wF := by
    rw [hwF]
    exact Touch.trans (T := fun _ => False) (Touch.trans (T := (· = w.heap.size + 1 + 1)) (Touch.ofSet w4 _ 0 _ rfl) (Touch.ofSet _ _ 1 _ rfl) (fun i hi => .inl hi)) (Touch.alloc _ _) (fun _ h => h.elim)
  have HEND : Hid (wF.ownsRow w.heap.size 259 6 (.slice (some ⟨x, 0, none⟩) 8 8) 8 (entsCells (entsTo bs s 8)) ∧ Below w.heap.size w wF) := by
    rw [hl] at hown
    refine ⟨own_low (own_keep hown (fun b e => tF.block b (World.ownsRow.lt hown b e).2 (by have := (World.ownsRow.lt hown b e).1; omega))) (by omega), ?_⟩
    have t : Touch (fun b => w.heap.size ≤ b) w wF := Touch.trans (Touch.trans (HT3.out.mono (fun _ h => h.elim)) ht (fun i hi => .inl (by omega))) tF (fun i hi => .inl (by omega))
    exact t.below (Nat.le_refl _) (fun k hk => hk)
  have HWF := hide hwF
  clear ht hown hll hl hp4 hr4 hFB tF hwF HMK
  go_wp2
  rw [← HWF.out]
  refine bodyPost_ret (v := .agg #[.int .i64 s, .slice (some ⟨x, 0, none⟩) 8 8]) (by simp [results, Tryz.results124, go_sem, y0, y1]) rfl ?_
  exact ⟨x, rfl, HEND.out⟩
end Go.Proofs.YtnjlbgolnbdkaaaGreat
