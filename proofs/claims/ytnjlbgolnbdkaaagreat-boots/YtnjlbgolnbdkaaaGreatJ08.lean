/- Texts of the proof of Boots, one behind the other. -/
import Derived.Test.YtnjlbgolnbdkaaaGreatJ07
import Derived.Deep.RegionLaw
import Derived.Deep.CutRange
/- The document's reading of the journal: headed, sectors. -/
namespace Go.Proofs.YtnjlbgolnbdkaaaGreat
open Go.RowKit

def headB (bs : List Int) (s : Nat) : Bool := kindAt bs s 0 == 3 && recOf bs s 0 0 == 2
def genB (bs : List Int) (s : Nat) : Int := recOf bs s 0 3
def argB (bs : List Int) (s : Nat) : Int := recOf bs s 0 4
theorem rec_num (bs : List Int) (s i k : Nat) (hb : Bytes bs) : 0 ≤ recOf bs s i k ∧ recOf bs s i k < 4294967296 := by
  unfold recOf sortRec
  split
  · have hz : Bytes (slotB bs s i) := (hb.drop _).take _
    have hg := fun j => hz.getD j
    match k with
    | 0 => have := hg 1; simp only [recAt]; omega
    | 1 => have := hg 2; simp only [recAt]; omega
    | 2 => have := hg 3; simp only [recAt]; omega
    | 3 => have := numFrom_lt (((slotB bs s i).drop 4).take 4) 0 (by omega); simp only [recAt]; omega
    | k + 4 => have := numFrom_lt (((slotB bs s i).drop 8).take 4) 0 (by omega); simp only [recAt]; omega
  · omega

structure RArg (x cap : Nat) (bs : List Int) (w : World) : Prop where
  len : bs.length = 256
  bytes : Bytes bs
  row : Row w x 0 bs
  c1 : 256 ≤ cap
  c2 : cap ≤ 9223372036854775807
theorem RArg.below {x cap : Nat} {bs : List Int} {w w' : World} (h : RArg x cap bs w) (hb : Below w.heap.size w w') : RArg x cap bs w' := ⟨h.len, h.bytes, h.row.below hb (row_lt h.row (by rw [h.len]; omega)), h.c1, h.c2⟩
theorem own_rarg {w : World} {base x cap : Nat} {bs : List Int} (h : w.ownsRow base 5 1 (.slice (some ⟨x, 0, none⟩) 256 cap) 256 (vals bs)) (hb : Bytes bs) : RArg x cap bs w := by
  have hl : bs.length = 256 := by have := h.1; rw [vals_length] at this; omega
  rcases h.2 with ⟨h1, _⟩ | ⟨g, cap', cur, hv, _, _, hc, hm, _⟩
  · cases h1
  · simp at hv
    obtain ⟨rfl, rfl⟩ := hv
    exact ⟨hl, hb, row_of_own h, hc, by unfold maxLen at hm; omega⟩

set_option maxHeartbeats 1000000 in
theorem rheaded_any (x cap : Nat) (bs : List Int) (s : Nat) (w : World) (hs : s < 2) (h : RArg x cap bs w) :
    Calls Tryz.prog 176 #[.slice (some ⟨x, 0, none⟩) 256 cap, .int .i64 s] w fun e w' => e = .returned (.tuple #[.bool (headB bs s), .int .i64 (genB bs s), .int .i64 (argB bs s)]) ∧ Below w.heap.size w w' := by
  have HC := hide (rslotAt_any x cap bs s 0 w hs (by omega) h.len h.bytes h.row h.c1 h.c2)
  clear h
  go_enter Tryz.func176, Tryz.ntmps176
  go_wp2_with fail
  refine HC.out.mono ?_
  rintro e w2 ⟨rfl, hb2⟩
  have HB2 := hide hb2
  have hlt := hb2.size
  have HE : Hid (headB bs s = (kindAt bs s 0 == 3 && recOf bs s 0 0 == 2) ∧ genB bs s = recOf bs s 0 3 ∧ argB bs s = recOf bs s 0 4) := ⟨rfl, rfl, rfl⟩
  clear hb2 HC
  simp only [aggOf]
  generalize kindAt bs s 0 = kk at HE ⊢
  generalize recOf bs s 0 0 = r0 at HE ⊢
  generalize recOf bs s 0 1 = r1 at HE ⊢
  generalize recOf bs s 0 2 = r2 at HE ⊢
  generalize recOf bs s 0 3 = r3 at HE ⊢
  generalize recOf bs s 0 4 = r4 at HE ⊢
  have HOK : Hid (∀ m, Below w.heap.size w ((w2.alloc (.cells #[.int .i64 r0, .int .i64 r1, .int .i64 r2, .int .i64 r3, .int .i64 r4] 52)).drewN m)) := fun m => below_drewN (HB2.out.alloc hlt _) m
  by_cases hk : kk = 3
  · have hk1 : (kk == 3) = true := by simp [hk]
    go_wp2
    go_quiet (fail)
    go_wp2
    go_ret3
    exact ⟨by rw [HE.out.1, HE.out.2.1, HE.out.2.2]; simp [hk1], HOK.out _⟩
  · have hk1 : (kk == 3) = false := by simp [hk]
    go_wp2
    go_quiet (fail)
    go_wp2
    go_ret3
    exact ⟨by rw [HE.out.1, HE.out.2.1, HE.out.2.2]; simp [hk1], HOK.out _⟩

/- the active sector, the old one -/
def sectOf (x y : Bool) (m n : Int) : Int × Int :=
  if x && y && m == n + 1 then (0, 1) else if x && y && n == m + 1 then (1, 0) else if x && (!y || decide (n ≤ m)) then (0, -1) else if y then (1, -1) else (-1, -1)
theorem sect_a (m n : Int) (h1 : m = n + 1) : sectOf true true m n = (0, 1) := by
  unfold sectOf
  rw [if_pos (by simp [h1])]
theorem sect_b (m n : Int) (h1 : ¬ m = n + 1) (h2 : n = m + 1) : sectOf true true m n = (1, 0) := by
  unfold sectOf
  rw [if_neg (by simp [h1]), if_pos (by simp [h2])]
theorem sect_c (m n : Int) (h1 : ¬ m = n + 1) (h2 : ¬ n = m + 1) (h3 : n ≤ m) : sectOf true true m n = (0, -1) := by
  unfold sectOf
  rw [if_neg (by simp [h1]), if_neg (by simp [h2]), if_pos (by simp [h3])]
theorem sect_d (m n : Int) (h1 : ¬ m = n + 1) (h2 : ¬ n = m + 1) (h3 : ¬ n ≤ m) : sectOf true true m n = (1, -1) := by
  unfold sectOf
  rw [if_neg (by simp [h1]), if_neg (by simp [h2]), if_neg (by simp; omega)]
  rfl
def sectorsOf (bs : List Int) : Int × Int := sectOf (headB bs 0) (headB bs 1) (genB bs 0) (genB bs 1)

set_option maxHeartbeats 2000000 in
theorem rsectors_any (x cap : Nat) (bs : List Int) (w : World) (h : RArg x cap bs w) :
    Calls Tryz.prog 137 #[.slice (some ⟨x, 0, none⟩) 256 cap] w fun e w' => e = .returned (.tuple #[.int .i64 (sectorsOf bs).1, .int .i64 (sectorsOf bs).2]) ∧ Below w.heap.size w w' := by
  have HC := hide (rheaded_any x cap bs 0 w (by omega) h)
  have HD : Hid (∀ W, Below w.heap.size w W → Calls Tryz.prog 176 #[.slice (some ⟨x, 0, none⟩) 256 cap, .int .i64 1] W fun e w' => e = .returned (.tuple #[.bool (headB bs 1), .int .i64 (genB bs 1), .int .i64 (argB bs 1)]) ∧ Below w.heap.size w w') := fun W hW => (rheaded_any x cap bs 1 W (by omega) (h.below hW)).mono (fun e w' ⟨h1, h2⟩ => ⟨h1, hW.trans (h2.mono hW.size)⟩)
  have hm := rec_num bs 0 0 3 h.bytes
  have hn := rec_num bs 1 0 3 h.bytes
  change 0 ≤ genB bs 0 ∧ genB bs 0 < _ at hm
  change 0 ≤ genB bs 1 ∧ genB bs 1 < _ at hn
  have HS : Hid (sectorsOf bs = sectOf (headB bs 0) (headB bs 1) (genB bs 0) (genB bs 1)) := rfl
  clear h
  generalize headB bs 0 = X at HC HS
  generalize headB bs 1 = Y at HD HS
  generalize genB bs 0 = m at HC HS hm
  generalize genB bs 1 = n at HD HS hn
  generalize argB bs 0 = r at HC
  generalize argB bs 1 = q at HD
  go_enter Tryz.func137, Tryz.ntmps137
  go_wp2_with fail
  refine HC.out.mono ?_
  rintro e w1 ⟨rfl, hb1⟩
  have H2 := hide (HD.out w1 hb1)
  clear hb1 HC HD
  go_wp2_with fail
  refine H2.out.mono ?_
  rintro e w2 ⟨rfl, hb2⟩
  have HB2 := hide hb2
  clear hb2 H2
  cases X with
  | false =>
    cases Y with
    | false =>
      go_wp2
      go_ret2
      exact ⟨by rw [HS.out]; rfl, HB2.out⟩
    | true =>
      go_wp2
      go_ret2
      exact ⟨by rw [HS.out]; rfl, HB2.out⟩
  | true =>
    cases Y with
    | false =>
      go_wp2
      go_ret2
      exact ⟨by rw [HS.out]; rfl, HB2.out⟩
    | true =>
      by_cases h1 : m = n + 1
      · have e1 : (m == n + 1) = true := by simp [h1]
        go_wp2
        go_ret2
        exact ⟨by rw [HS.out, sect_a m n h1]; rfl, HB2.out⟩
      · have e1 : (m == n + 1) = false := by simp [h1]
        by_cases h2 : n = m + 1
        · have e2 : (n == m + 1) = true := by simp [h2]
          go_wp2
          go_ret2
          exact ⟨by rw [HS.out, sect_b m n h1 h2]; rfl, HB2.out⟩
        · have e2 : (n == m + 1) = false := by simp [h2]
          by_cases h3 : n ≤ m
          · have e3 : decide (n ≤ m) = true := by simp [h3]
            go_wp2
            go_ret2
            exact ⟨by rw [HS.out, sect_c m n h1 h2 h3]; rfl, HB2.out⟩
          · have e3 : decide (n ≤ m) = false := by simp [h3]
            go_wp2
            go_ret2
            exact ⟨by rw [HS.out, sect_d m n h1 h2 (Int.not_le.2 h3)]; rfl, HB2.out⟩
end Go.Proofs.YtnjlbgolnbdkaaaGreat
/- The program's journal: Read, slotAt, bytes. -/
namespace Go.Proofs.YtnjlbgolnbdkaaaGreat
open Go.RowKit

set_option maxHeartbeats 1000000 in
theorem read_any (g : Nat) (bs : List Int) (left res : Int) (dead : Bool) (done : Int) (i : Nat) (w : World) (hi : i < 256) (h : FlashAt w g bs left res dead done) :
    Calls Tryz.prog 198 #[.pointer (some ⟨g, 0, none⟩), .int .i64 i] w fun e w' => e = .returned (.int .u8 (bs.getD i 0)) ∧ w' = w := by
  have c := h.byte i hi
  clear h
  go_enter Tryz.func198, Tryz.ntmps198
  go_wp2
  go_ret
  exact ⟨rfl, rfl⟩
set_option maxHeartbeats 1000000 in
theorem slotAt_any (s i : Nat) (w : World) (hs : s < 2) (hi : i < 8) :
    Calls Tryz.prog 192 #[.int .i64 s, .int .i64 i] w fun e w' => e = .returned (.int .i64 ((128 * s + 16 * i : Nat) : Int)) ∧ w' = w := by
  go_enter Tryz.func192, Tryz.ntmps192
  go_wp2
  go_ret
  exact ⟨by simp; omega, rfl⟩
theorem slotB_take (bs : List Int) (s i k : Nat) (hl : bs.length = 256) (hs : s < 2) (hi : i < 8) (hk : k < 16) : (slotB bs s i).take (k + 1) = (slotB bs s i).take k ++ [bs.getD (128 * s + 16 * i + k) 0] := by
  have hlen := slotB_length bs s i hl hs hi
  rw [List.take_add_one, List.getElem?_eq_getElem (by omega)]
  congr 1
  simp only [slotB, List.getElem_take, List.getElem_drop, List.getD_eq_getElem?_getD]
  rw [List.getElem?_eq_getElem (by omega)]
  rfl

set_option maxRecDepth 100000 in
set_option maxHeartbeats 2000000 in
theorem jbytes_any (g : Nat) (bs : List Int) (left res : Int) (dead : Bool) (done : Int) (s i : Nat) (w : World) (hs : s < 2) (hi : i < 8) (h : FlashAt w g bs left res dead done) :
    Calls Tryz.prog 169 #[.agg #[.pointer (some ⟨g, 0, none⟩)], .int .i64 s, .int .i64 i] w fun e w' => ∃ x cap, e = .returned (.slice (some ⟨x, 0, none⟩) 16 cap) ∧ w'.ownsRow w.heap.size 5 1 (.slice (some ⟨x, 0, none⟩) 16 cap) 16 (vals (slotB bs s i)) ∧ Below w.heap.size w w' := by
  obtain ⟨i0, hii, hz0, hz1, hz2⟩ := info_parts Tryz.info5
  have HF := hide h
  have HLEN := hide (slotB_length bs s i h.len hs hi)
  have HTK := hide (fun k hk => slotB_take bs s i k h.len hs hi hk)
  clear h
  go_enter Tryz.func169, Tryz.ntmps169
  go_wp2
  go_loopw [7, 9] (fun v t wr => ∃ k : Nat, k ≤ 16 ∧ t = .int .i64 k ∧ wr.ownsRow w.heap.size 5 1 v k (vals ((slotB bs s i).take k)) ∧ wr.heap[w.heap.size]? = some (.cells #[.pointer (some ⟨g, 0, none⟩)] 107 (0, 0)) ∧ Below w.heap.size w wr) (fun _ t _ => 16 - (intOf t).toNat)
  case atStart => exact ⟨0, by omega, rfl, World.ownsRow_nil _ _ _ _, heap_alloc_new w _, (Below.refl _ _).alloc (Nat.le_refl _) _⟩
  case round =>
    obtain ⟨k, hk, rfl, hV, hbx, hB⟩ := hrel
    by_cases hlt : k < 16
    · obtain ⟨ad, c, hv⟩ := own_slice hV
      subst hv
      have hws := hB.size
      have hbs := lt_of_block hbx
      have bx0 : wr.cell? ⟨w.heap.size, 0, none⟩ = some (.pointer (some ⟨g, 0, none⟩)) := by rw [cell_of_row _ _ _ _ _ _ hbx]; rfl
      have HRD : Hid (∀ W : World, W.heap = wr.heap → Calls Tryz.prog 198 #[.pointer (some ⟨g, 0, none⟩), .int .i64 ((128 * s + 16 * i + k : Nat) : Int)] W fun e w' => e = .returned (.int .u8 (bs.getD (128 * s + 16 * i + k) 0)) ∧ w' = W) := fun W hW => read_any g bs left res dead done (128 * s + 16 * i + k) W (by omega) ((HF.out.below hB).keep (by rw [hW]))
      have HSA := hide (fun W => slotAt_any s i W hs hi)
      have HV := hide hV
      have HB := hide hB
      have HBX := hide hbx
      have HST := hide (HTK.out k hlt)
      clear hV hB hbx
      have e1 : ((128 * s + 16 * i : Nat) : Int) + (k : Int) = ((128 * s + 16 * i + k : Nat) : Int) := by omega
      have e2 : IntKind.i64.wrap ((128 * s + 16 * i + k : Nat) : Int) = ((128 * s + 16 * i + k : Nat) : Int) := by rw [IntKind.wrap_i64]; omega
      generalize bs.getD (128 * s + 16 * i + k) 0 = z at HRD HST
      generalize 128 * s + 16 * i + k = o2 at HRD e1 e2
      generalize 128 * s + 16 * i = o1 at HSA e1
      go_wp2_with fail
      go_region_law (first | (go_simp; with_reducible (show Calls Tryz.prog 192 _ _ _); refine (HSA.out _).mono ?_; rintro e w9 ⟨rfl, rfl⟩) | (go_simp; with_reducible (show Calls Tryz.prog 198 _ _ _); refine (HRD.out (World.drew wr) rfl).mono ?_; rintro e w9 ⟨rfl, rfl⟩) | (refine step_append_lies _ rfl (.tmp 12) (.tmp 21) 22 rfl w.heap.size 5 i0 (.int .u8 0) 1 1 Tryz.underlying22 hii hz0 hz1 hz2 rfl (by decide) (.slice ad k c) k (vals ((slotB bs s i).take k)) (by rfl) (by exact HV.out.alloc _) ⟨wr.heap.size, 0, none⟩ 1 1 [.int .u8 z] (by rfl) rfl (by exact news_at wr #[.int .u8 z] 5) (vals_one [z]) (by omega) (by unfold maxLen; omega) (by omega) (by simp; omega) (wr.heap.size + 1) (by simp) ?_; intro g5 c5 w5 ho5 hg5 _ _))
      all_goals (
        have hg' : wr.grownBy w5 (Value.slice ad k c).ownBlock := grown_alloc (o := .cells #[.int .u8 z] 5) ⟨hg5.os, hg5.tape, hg5.output, hg5.size, hg5.block⟩
        have H5 : Hid (w5.ownsRow w.heap.size 5 1 (.slice (some ⟨g5, 0, none⟩) (k + 1) c5) (k + 1) (vals ((slotB bs s i).take (k + 1))) ∧ w5.heap[w.heap.size]? = some (.cells #[.pointer (some ⟨g, 0, none⟩)] 107 (0, 0)) ∧ Below w.heap.size w w5) := by
          refine ⟨?_, ?_, HB.out.grown hg' (by omega) (fun b e => (World.ownsRow.lt HV.out b e).1)⟩
          · rw [HST.out, vals_append]; exact ho5
          · refine (hg'.block _ hbs (fun e => ?_)).trans HBX.out
            obtain ⟨cur, hcur⟩ := own_of HV.out e.symm
            rw [HBX.out] at hcur
            simp at hcur
        clear ho5 hg5 hg'
        go_wp2
        go_roundw
        case rel => exact ⟨k + 1, by omega, by go_num, H5.out.1, H5.out.2.1, H5.out.2.2⟩
        case measure => simp [intOf]; omega)
    · obtain rfl : k = 16 := by omega
      have HE : Hid (wr.ownsRow w.heap.size 5 1 u7 16 (vals (slotB bs s i)) ∧ Below w.heap.size w wr) := by
        rw [List.take_of_length_le (by rw [HLEN.out]; omega)] at hV
        exact ⟨hV, hB⟩
      obtain ⟨x, cp, hx⟩ : ∃ x cp, u7 = .slice (some ⟨x, 0, none⟩) 16 cp := by obtain ⟨gg, cc, h1, _⟩ := hV.form (by omega); exact ⟨gg, cc, h1⟩
      subst hx
      clear hV hB hbx
      go_wp2
      go_ret
      exact ⟨x, cp, rfl, HE.out⟩
end Go.Proofs.YtnjlbgolnbdkaaaGreat
/- The hands: all nine families of kept lists at once. -/
namespace Go.Proofs.YtnjlbgolnbdkaaaGreat
open Go.RowKit

def reps (n : Nat) (x : List Value) : List Value := (List.replicate n ()).flatMap fun _ => x
theorem reps_succ (n : Nat) (x : List Value) : reps (n + 1) x = reps n x ++ x := by
  unfold reps
  rw [List.replicate_succ', List.flatMap_append]
  simp
theorem reps_length (n : Nat) (x : List Value) : (reps n x).length = n * x.length := by
  induction n with
  | zero => simp [reps]
  | succ n ih => rw [reps_succ, List.length_append, ih, Nat.add_mul, Nat.one_mul]
theorem reps_add (a b : Nat) (x : List Value) : reps (a + b) x = reps a x ++ reps b x := by
  unfold reps
  rw [← List.flatMap_append, List.replicate_append_replicate]
theorem reps_take {k n : Nat} (h : k ≤ n) (x : List Value) : (reps n x).take (k * x.length) = reps k x := by
  obtain ⟨d, rfl⟩ := Nat.exists_eq_add_of_le h
  rw [reps_add, ← reps_length k x, List.take_left']
  rfl
theorem reps_at (n : Nat) (x : List Value) (i c : Nat) (hi : i < n) (hc : c < x.length) : (reps n x)[i * x.length + c]? = x[c]? := by
  obtain ⟨d, rfl⟩ := Nat.exists_eq_add_of_le (show i + 1 ≤ n from hi)
  rw [reps_add, reps_succ, List.getElem?_append_left (by rw [List.length_append, reps_length]; omega), List.getElem?_append_right (by rw [reps_length]; omega), reps_length]
  congr 1
  omega

/- the types and the cells of the families: bytes, ints, records, states, partitions, processes, instructions, windows, channels -/
def eB : Nat → TypeId | 0 => 22 | 1 => 40 | 2 => 49 | 3 => 41 | 4 => 67 | 5 => 122 | 6 => 162 | 7 => 68 | _ => 69
def eM : Nat → TypeId | 0 => 5 | _ => 3
def mvK : Nat → Int → Value | 0 => Value.int .u8 | _ => Value.int .i64
def ety : Nat → TypeId | 0 => 5 | 1 => 3 | 2 => 52 | 3 => 47 | 4 => 124 | 5 => 190 | 6 => 210 | 7 => 131 | _ => 142
def esz : Nat → Nat | 0 => 1 | 1 => 1 | 2 => 5 | 3 => 3 | 4 => 10 | 5 => 2 | 6 => 2 | 7 => 3 | _ => 3
def elm (f : Nat) (m : Int) : List Value :=
  match f with
  | 0 => [.int .u8 m]
  | 1 => [.int .i64 m]
  | 2 => [.int .i64 m, .int .i64 0, .int .i64 0, .int .i64 0, .int .i64 0]
  | 3 => [.int .i64 0, .int .i64 m, .bool false]
  | 4 => [.bool false, .int .i64 m, .int .i64 0, .int .i64 0, .int .i64 0, .int .i64 0, .int .i64 0, .int .i64 0, .int .i64 0, .slice none 0 0]
  | 5 => [.int .i64 m, .slice none 0 0]
  | 6 => [.int .i64 m, .int .i64 0]
  | 7 => [.int .i64 m, .int .i64 0, .int .i64 0]
  | _ => [.int .i64 m, .int .i64 0, .int .i64 0]
theorem elm_length (f : Nat) (m : Int) : (elm f m).length = esz f := by
  rcases f with _ | _ | _ | _ | _ | _ | _ | _ | f <;> rfl
theorem esz_pos (f : Nat) : 0 < esz f := by
  rcases f with _ | _ | _ | _ | _ | _ | _ | _ | f <;> simp [esz]
theorem elm_one (f : Nat) (m : Int) : ∀ u ∈ elm f m, u.oneCell' = true := by
  have key : (elm f m).all (fun u => u.oneCell') = true := by rcases f with _ | _ | _ | _ | _ | _ | _ | _ | f <;> rfl
  exact fun u hu => List.all_eq_true.1 key u hu

def KC (f : Nat) (w : World) (k : Kept) : Prop := ∃ n, n ≤ 1000000 ∧ w.ownsRow 0 (ety f) (esz f) k.v n (reps n (elm f k.mark))
theorem kc_local (f : Nat) : Local (KC f) := fun _ _ _ hs ⟨n, hn, h⟩ => ⟨n, hn, own_keep h hs⟩

def Fams (L : Nat → Nat) (vs : Nat → Value) (A M : Nat → List Kept) (w : World) : Prop :=
  ∀ f, f < 9 → Fam (eB f) (eM f) (mvK f) (KC f) (3 * f) L 0 (vs (3 + 2 * f)) (vs (4 + 2 * f)) (A f) (M f) w
structure Hnd (p : Nat → Value) (L : Nat → Nat) (hb : Nat) (n : Int) (vs : Nat → Value) (A M : Nat → List Kept) (w : World) : Prop where
  blk : w.heap[hb]? = some (.cells (handCells p (.slice none 0 0) (.slice none 0 0) n vs) 94 (0, 0))
  lab : L hb = 0
  fam : Fams L vs A M w
def upd1 (vs : Nat → Value) (i : Nat) (v : Value) : Nat → Value := fun j => if j = i then v else vs j
def updL (A : Nat → List Kept) (f : Nat) (l : List Kept) : Nat → List Kept := fun j => if j = f then l else A j
theorem updL_at (A : Nat → List Kept) (f : Nat) (l : List Kept) : updL A f l f = l := by simp [updL]
theorem updL_off (A : Nat → List Kept) {f g : Nat} (l : List Kept) (h : g ≠ f) : updL A f l g = A g := by simp [updL, h]

theorem hand_set (p : Nat → Value) (vI vW : Value) (n : Int) (vs : Nat → Value) (i : Nat) (v : Value) (h3 : 3 ≤ i) (h20 : i ≤ 20) : (handCells p vI vW n vs).setIfInBounds (i + 5) v = handCells p vI vW n (upd1 vs i v) := by
  rcases (show i = 3 ∨ i = 4 ∨ i = 5 ∨ i = 6 ∨ i = 7 ∨ i = 8 ∨ i = 9 ∨ i = 10 ∨ i = 11 ∨ i = 12 ∨ i = 13 ∨ i = 14 ∨ i = 15 ∨ i = 16 ∨ i = 17 ∨ i = 18 ∨ i = 19 ∨ i = 20 from by omega) with rfl | rfl | rfl | rfl | rfl | rfl | rfl | rfl | rfl | rfl | rfl | rfl | rfl | rfl | rfl | rfl | rfl | rfl <;> rfl
theorem hand_get (p : Nat → Value) (vI vW : Value) (n : Int) (vs : Nat → Value) (i : Nat) (h3 : 3 ≤ i) (h20 : i ≤ 20) : (handCells p vI vW n vs)[i + 5]? = some (vs i) := by
  rcases (show i = 3 ∨ i = 4 ∨ i = 5 ∨ i = 6 ∨ i = 7 ∨ i = 8 ∨ i = 9 ∨ i = 10 ∨ i = 11 ∨ i = 12 ∨ i = 13 ∨ i = 14 ∨ i = 15 ∨ i = 16 ∨ i = 17 ∨ i = 18 ∨ i = 19 ∨ i = 20 from by omega) with rfl | rfl | rfl | rfl | rfl | rfl | rfl | rfl | rfl | rfl | rfl | rfl | rfl | rfl | rfl | rfl | rfl | rfl <;> rfl

theorem Fam.relabel2 {eB eM : TypeId} {mv : Int → Value} {C : World → Kept → Prop} {a : Nat} {L L' : Nat → Nat} {base : Nat} {vB vM : Value} {A M : List Kept} {w : World} (h : Fam eB eM mv C a L base vB vM A M w) (hL : ∀ k, k < w.heap.size → a + 1 ≤ L k → L k ≤ a + 3 → L' k = L k) : Fam eB eM mv C a L' base vB vM A M w := by
  refine ⟨h.own, fun b e => ?_, h.ownM, fun b e => ?_, fun k hk => ⟨fun b e => ?_, (h.kept k hk).2⟩⟩
  · have := h.lab b e
    rw [hL b (h.own.lt b e).2 (by omega) (by omega)]; exact this
  · have := h.labM b e
    rw [hL b (h.ownM.lt b e).2 (by omega) (by omega)]; exact this
  · have := (h.kept k hk).1 b e
    rw [hL b this.2.2 (by omega) (by omega)]; exact this

section
variable {p : Nat → Value} {L L' : Nat → Nat} {hb : Nat} {n : Int} {vs : Nat → Value} {A M : Nat → List Kept} {w w' : World}
theorem Fams.touch {S : Nat → Prop} (h : Fams L vs A M w) (t : Touch S w w') (hS : ∀ k, k < w.heap.size → S k → L k = 0 ∨ 28 ≤ L k) : Fams L vs A M w' :=
  fun f hf => (h f hf).touch (kc_local f) t (fun k hk hs => by have := hS k hk hs; omega)
theorem Fams.relabel (h : Fams L vs A M w) (hL : ∀ k, k < w.heap.size → 1 ≤ L k → L k ≤ 27 → L' k = L k) : Fams L' vs A M w :=
  fun f hf => (h f hf).relabel2 (fun k hk h1 h2 => hL k hk (by omega) (by omega))
theorem Hnd.touch {S : Nat → Prop} (h : Hnd p L hb n vs A M w) (t : Touch S w w') (hS : ∀ k, k < w.heap.size → S k → 28 ≤ L k) : Hnd p L hb n vs A M w' :=
  ⟨(t.block hb (lt_of_block h.blk) (fun hs => by have := hS hb (lt_of_block h.blk) hs; rw [h.lab] at this; omega)).trans h.blk, h.lab, h.fam.touch t (fun k hk hs => .inr (hS k hk hs))⟩
theorem Hnd.relabel (h : Hnd p L hb n vs A M w) (hL : ∀ k, k < w.heap.size → L k ≤ 27 → L' k = L k) : Hnd p L' hb n vs A M w :=
  ⟨h.blk, by rw [hL hb (lt_of_block h.blk) (by rw [h.lab]; omega)]; exact h.lab, h.fam.relabel (fun k hk _ h2 => hL k hk h2)⟩
theorem Hnd.cell (h : Hnd p L hb n vs A M w) (i : Nat) (h3 : 3 ≤ i) (h20 : i ≤ 20) : w.cell? ⟨hb, i + 5, none⟩ = some (vs i) := by rw [cell_of_row _ _ _ _ _ _ h.blk]; exact hand_get _ _ _ _ _ i h3 h20
theorem Hnd.free (h : Hnd p L hb n vs A M w) (i : Nat) : w.frozen? ⟨hb, i + 5, none⟩ = false := free_of_block h.blk (i + 5)

/- the list that is being kept -/
structure Cur (f : Nat) (L : Nat → Nat) (A : Nat → List Kept) (w : World) (v : Value) (N : Nat) (m : Int) : Prop where
  own : w.ownsRow 0 (ety f) (esz f) v N (reps N (elm f m))
  lab : ∀ b, v.ownBlock = some b → L b = 3 * f + 3
  mine : ∀ k ∈ A f, ∀ b, v.ownBlock = some b → k.v.ownBlock = some b → k.mark = m ∧ ∃ nn cl, k.v = .slice (some ⟨b, 0, none⟩) nn cl ∧ v = .slice (some ⟨b, 0, none⟩) N cl ∧ nn ≤ N
variable {v : Value} {N f : Nat} {m : Int} {w1 : World} {g cap : Nat} {o : Obj}
theorem Cur.keep {A' : Nat → List Kept} (h : Cur f L A w v N m) (hs : ∀ b, v.ownBlock = some b → w'.heap[b]? = w.heap[b]? ∧ L' b = L b) (hA : A' f = A f) : Cur f L' A' w' v N m :=
  ⟨own_keep h.own (fun b e => (hs b e).1), fun b e => by rw [(hs b e).2]; exact h.lab b e, by rw [hA]; exact h.mine⟩
theorem Cur.lt (h : Cur f L A w v N m) : ∀ b, v.ownBlock = some b → b < w.heap.size := fun b e => (World.ownsRow.lt h.own b e).2

/- what a step of the family f turns -/
structure Step (f : Nat) (L L' : Nat → Nat) (w w' : World) : Prop where
  lab : ∀ k, k < w.heap.size → L' k = L k
  t : Touch (fun k => L k = 0 ∨ (3 * f + 1 ≤ L k ∧ L k ≤ 3 * f + 3)) w w'
theorem Cur.step {f' : Nat} {A' : Nat → List Kept} (h : Cur f L A w v N m) (s : Step f' L L' w w') (hne : f ≠ f') (hA : A' f = A f) : Cur f L' A' w' v N m :=
  h.keep (fun b e => ⟨s.t.block b (h.lt b e) (fun hs => by have := h.lab b e; omega), s.lab b (h.lt b e)⟩) hA
theorem Step.trans {L2 : Nat → Nat} {w2 : World} (s : Step f L L' w w') (s2 : Step f L' L2 w' w2) : Step f L L2 w w2 :=
  ⟨fun k hk => (s2.lab k (Nat.lt_of_lt_of_le hk s.t.size)).trans (s.lab k hk), s.t.trans s2.t (fun i hi => by
    by_cases h : i < w.heap.size
    · left; rw [s.lab i h] at hi; exact hi
    · right; omega)⟩

theorem Hnd.row (hf : f < 9) (h : Hnd p L hb n vs A M w) (c : Cur f L A w v N m) (hN : N ≤ 1000000)
    (hown : w1.ownsRow 0 (eB f) 1 (.slice (some ⟨g, 0, none⟩) ((A f).length + 1) cap) ((A f).length + 1) ((A f).map Kept.v ++ [v])) (hg : (w.alloc o).grownBy w1 (vs (3 + 2 * f)).ownBlock) (hat : (vs (3 + 2 * f)).ownBlock = some g ∨ g = w.heap.size + 1) :
    w1.heap[hb]? = some (.cells (handCells p (.slice none 0 0) (.slice none 0 0) n vs) 94 (0, 0)) ∧ ∃ L' vs' A', Hnd p L' hb n vs' A' M (w1.setCell ⟨hb, 3 + 2 * f + 5, none⟩ (.slice (some ⟨g, 0, none⟩) ((A f).length + 1) cap)) ∧
      Cur f L' A' (w1.setCell ⟨hb, 3 + 2 * f + 5, none⟩ (.slice (some ⟨g, 0, none⟩) ((A f).length + 1) cap)) v N m ∧ A' = updL A f (A f ++ [⟨v, m⟩]) ∧ Step f L L' w (w1.setCell ⟨hb, 3 + 2 * f + 5, none⟩ (.slice (some ⟨g, 0, none⟩) ((A f).length + 1) cap)) := by
  obtain ⟨L', hL', hF', ht⟩ := (h.fam f hf).more (k0 := ⟨v, m⟩) (kc_local f) ⟨fun b e => ⟨c.lab b e, Nat.zero_le _, c.lt b e⟩, N, hN, c.own⟩ hown hg hat
  have hbw := lt_of_block h.blk
  have hB1 : w1.heap[hb]? = some (.cells (handCells p (.slice none 0 0) (.slice none 0 0) n vs) 94 (0, 0)) := (ht.block hb hbw (by rw [h.lab]; omega)).trans h.blk
  have ts : Touch (· = hb) w1 (w1.setCell ⟨hb, 3 + 2 * f + 5, none⟩ (.slice (some ⟨g, 0, none⟩) ((A f).length + 1) cap)) := Touch.ofSet w1 hb _ _ rfl
  have hLb : L' hb = 0 := by rw [hL' hb hbw]; exact h.lab
  have hT : Touch (fun k => L k = 0 ∨ (3 * f + 1 ≤ L k ∧ L k ≤ 3 * f + 3)) w (w1.setCell ⟨hb, 3 + 2 * f + 5, none⟩ (.slice (some ⟨g, 0, none⟩) ((A f).length + 1) cap)) := Touch.trans (ht.mono (fun k hk => .inr (by omega))) ts (fun i hi => .inl (.inl (by rw [hi]; exact h.lab)))
  refine ⟨hB1, L', upd1 vs (3 + 2 * f) (.slice (some ⟨g, 0, none⟩) ((A f).length + 1) cap), _, ⟨?_, hLb, ?_⟩, ?_, rfl, hL', hT⟩
  · rw [← hand_set _ _ _ _ _ _ _ (by omega) (by omega)]; exact block_set hB1 _ _
  · intro f' hf'
    by_cases e : f' = f
    · subst e
      rw [updL_at, show upd1 vs (3 + 2 * f') (.slice (some ⟨g, 0, none⟩) ((A f').length + 1) cap) (3 + 2 * f') = (.slice (some ⟨g, 0, none⟩) ((A f').length + 1) cap) from by simp [upd1], show upd1 vs (3 + 2 * f') (.slice (some ⟨g, 0, none⟩) ((A f').length + 1) cap) (4 + 2 * f') = vs (4 + 2 * f') from by simp [upd1]]
      exact hF'.touch (kc_local f') ts (fun k _ hk => .inl (by rw [hk, hLb]; omega))
    · rw [updL_off _ _ e, show upd1 vs (3 + 2 * f) (.slice (some ⟨g, 0, none⟩) ((A f).length + 1) cap) (3 + 2 * f') = vs (3 + 2 * f') from by simp [upd1]; omega, show upd1 vs (3 + 2 * f) (.slice (some ⟨g, 0, none⟩) ((A f).length + 1) cap) (4 + 2 * f') = vs (4 + 2 * f') from by simp [upd1]; omega]
      refine (((h.fam f' hf').relabel hL').touch (kc_local f') ht (fun k hk hs => ?_)).touch (kc_local f') ts (fun k _ hk => .inl (by rw [hk, hLb]; omega))
      rw [hL' k hk]; omega
  · refine ⟨own_keep c.own (fun b e => ?_), fun b e => by rw [hL' b (c.lt b e)]; exact c.lab b e, ?_⟩
    · have := c.lab b e
      exact (ts.block b (Nat.lt_of_lt_of_le (c.lt b e) ht.size) (fun hh => by rw [hh, h.lab] at this; omega)).trans (ht.block b (c.lt b e) (by omega))
    · rw [updL_at]
      intro k hk b e1 e2
      rcases List.mem_append.1 hk with hk | hk
      · exact c.mine k hk b e1 e2
      · obtain rfl := List.mem_singleton.1 hk
        refine ⟨rfl, ?_⟩
        rcases c.own.2 with ⟨h1, _⟩ | ⟨g', cap', cur, hv, _⟩
        · rw [h1] at e1; simp [Value.ownBlock] at e1
        · rw [hv] at e1; simp [Value.ownBlock] at e1; subst e1; exact ⟨N, cap', hv, hv, Nat.le_refl _⟩

theorem Hnd.mark (hf : f < 9) (h : Hnd p L hb n vs A M w) (c : Cur f L A w v N m)
    (hown : w1.ownsRow 0 (eM f) 1 (.slice (some ⟨g, 0, none⟩) ((M f).length + 1) cap) ((M f).length + 1) (((M f).map fun k => mvK f k.mark) ++ [mvK f m])) (hg : (w.alloc o).grownBy w1 (vs (4 + 2 * f)).ownBlock) (hat : (vs (4 + 2 * f)).ownBlock = some g ∨ g = w.heap.size + 1) :
    w1.heap[hb]? = some (.cells (handCells p (.slice none 0 0) (.slice none 0 0) n vs) 94 (0, 0)) ∧ ∃ L' vs' M', Hnd p L' hb n vs' A M' (w1.setCell ⟨hb, 4 + 2 * f + 5, none⟩ (.slice (some ⟨g, 0, none⟩) ((M f).length + 1) cap)) ∧
      Cur f L' A (w1.setCell ⟨hb, 4 + 2 * f + 5, none⟩ (.slice (some ⟨g, 0, none⟩) ((M f).length + 1) cap)) v N m ∧ M' = updL M f (M f ++ [⟨v, m⟩]) ∧ Step f L L' w (w1.setCell ⟨hb, 4 + 2 * f + 5, none⟩ (.slice (some ⟨g, 0, none⟩) ((M f).length + 1) cap)) := by
  obtain ⟨L', hL', hF', ht⟩ := (h.fam f hf).moreM (k0 := ⟨v, m⟩) (kc_local f) hown hg hat
  have hbw := lt_of_block h.blk
  have hB1 : w1.heap[hb]? = some (.cells (handCells p (.slice none 0 0) (.slice none 0 0) n vs) 94 (0, 0)) := (ht.block hb hbw (by rw [h.lab]; omega)).trans h.blk
  have ts : Touch (· = hb) w1 (w1.setCell ⟨hb, 4 + 2 * f + 5, none⟩ (.slice (some ⟨g, 0, none⟩) ((M f).length + 1) cap)) := Touch.ofSet w1 hb _ _ rfl
  have hLb : L' hb = 0 := by rw [hL' hb hbw]; exact h.lab
  have hT : Touch (fun k => L k = 0 ∨ (3 * f + 1 ≤ L k ∧ L k ≤ 3 * f + 3)) w (w1.setCell ⟨hb, 4 + 2 * f + 5, none⟩ (.slice (some ⟨g, 0, none⟩) ((M f).length + 1) cap)) := Touch.trans (ht.mono (fun k hk => .inr (by omega))) ts (fun i hi => .inl (.inl (by rw [hi]; exact h.lab)))
  refine ⟨hB1, L', upd1 vs (4 + 2 * f) (.slice (some ⟨g, 0, none⟩) ((M f).length + 1) cap), _, ⟨?_, hLb, ?_⟩, ?_, rfl, hL', hT⟩
  · rw [← hand_set _ _ _ _ _ _ _ (by omega) (by omega)]; exact block_set hB1 _ _
  · intro f' hf'
    by_cases e : f' = f
    · subst e
      rw [updL_at, show upd1 vs (4 + 2 * f') (.slice (some ⟨g, 0, none⟩) ((M f').length + 1) cap) (3 + 2 * f') = vs (3 + 2 * f') from by simp [upd1], show upd1 vs (4 + 2 * f') (.slice (some ⟨g, 0, none⟩) ((M f').length + 1) cap) (4 + 2 * f') = (.slice (some ⟨g, 0, none⟩) ((M f').length + 1) cap) from by simp [upd1]]
      exact hF'.touch (kc_local f') ts (fun k _ hk => .inl (by rw [hk, hLb]; omega))
    · rw [updL_off _ _ e, show upd1 vs (4 + 2 * f) (.slice (some ⟨g, 0, none⟩) ((M f).length + 1) cap) (3 + 2 * f') = vs (3 + 2 * f') from by simp [upd1]; omega, show upd1 vs (4 + 2 * f) (.slice (some ⟨g, 0, none⟩) ((M f).length + 1) cap) (4 + 2 * f') = vs (4 + 2 * f') from by simp [upd1]; omega]
      refine (((h.fam f' hf').relabel hL').touch (kc_local f') ht (fun k hk hs => ?_)).touch (kc_local f') ts (fun k _ hk => .inl (by rw [hk, hLb]; omega))
      rw [hL' k hk]; omega
  · refine c.keep (fun b e => ⟨?_, hL' b (c.lt b e)⟩) rfl
    have := c.lab b e
    exact (ts.block b (Nat.lt_of_lt_of_le (c.lt b e) ht.size) (fun hh => by rw [hh, h.lab] at this; omega)).trans (ht.block b (c.lt b e) (by omega))

/- a longer row holds the shorter one -/
theorem own_shorter {base : Nat} {e : TypeId} {s : Nat} {xs : List Value} (h : w.ownsRow base e s (.slice (some ⟨g, 0, none⟩) N cap) N xs) (k : Nat) (hk : k ≤ N) : w.ownsRow base e s (.slice (some ⟨g, 0, none⟩) k cap) k (xs.take (k * s)) := by
  obtain ⟨h1, h2⟩ := h
  have hks : k * s ≤ N * s := Nat.mul_le_mul_right s hk
  rcases h2 with ⟨h2, _⟩ | ⟨g', cap', cur, hv, hb, hh, hc, hm, hs, ht⟩
  · cases h2
  · simp at hv
    obtain ⟨rfl, rfl⟩ := hv
    refine ⟨by rw [List.length_take, h1]; omega, .inr ⟨g, cap, cur, rfl, hb, hh, by omega, hm, hs, ?_⟩⟩
    rw [← ht, List.take_take, Nat.min_eq_left hks]

/- where a list lies that an append made longer -/
def Grew (w w' : World) (v : Value) (n g cap : Nat) : Prop := (v = .slice (some ⟨g, 0, none⟩) n cap ∧ w.grownBy w' (some g)) ∨ (w.heap.size ≤ g ∧ w.grownBy w' none)
/- the list is one element longer: where it lies, or in new memory -/
theorem Hnd.list (hf : f < 9) (h : Hnd p L hb n vs A M w) (c : Cur f L A w v N m) {w0 : World} (hw0 : Touch (fun _ => False) w w0)
    (hown : w1.ownsRow 0 (ety f) (esz f) (.slice (some ⟨g, 0, none⟩) (N + 1) cap) (N + 1) (reps N (elm f m) ++ elm f m))
    (hg : Grew w0 w1 v N g cap) :
    ∃ L', Hnd p L' hb n vs A M w1 ∧ Cur f L' A w1 (.slice (some ⟨g, 0, none⟩) (N + 1) cap) (N + 1) m ∧ Step f L L' w w1 := by
  rw [← reps_succ] at hown
  have hs0 := hw0.size
  rcases hg with ⟨rfl, hg⟩ | ⟨hge, hg⟩
  · have hlab := c.lab g rfl
    have hlt := c.lt g rfl
    have t : Touch (· = g) w w1 := Touch.trans (hw0.mono (fun _ h => h.elim)) (Touch.ofGrown hg (fun k e => .inl (by simpa using e.symm))) (fun i hi => .inl hi)
    refine ⟨L, ⟨(t.block hb (lt_of_block h.blk) (fun e => by rw [← e, h.lab] at hlab; omega)).trans h.blk, h.lab, ?_⟩, ⟨hown, fun b e => by simp [Value.ownBlock] at e; subst e; exact hlab, ?_⟩, fun _ _ => rfl, t.mono (fun k hk => .inr (by rw [hk, hlab]; omega))⟩
    · intro f' hf'
      by_cases e : f' = f
      · subst e
        have hF := h.fam f' hf'
        have far : ∀ b, b < w.heap.size → b ≠ g → w1.heap[b]? = w.heap[b]? := fun b hb hne => t.block b hb hne
        refine ⟨own_keep hF.own fun b e => far b (hF.own.lt b e).2 (fun hb => by have := hF.lab b e; rw [hb, hlab] at this; omega), hF.lab, own_keep hF.ownM fun b e => far b (hF.ownM.lt b e).2 (fun hb => by have := hF.labM b e; rw [hb, hlab] at this; omega), hF.labM, ?_⟩
        intro k hk
        obtain ⟨h1, h2⟩ := hF.kept k hk
        refine ⟨fun b e => ⟨(h1 b e).1, (h1 b e).2.1, Nat.lt_of_lt_of_le (h1 b e).2.2 t.size⟩, ?_⟩
        by_cases hgl : k.v.ownBlock = some g
        · obtain ⟨hmk, nn, cl, hv, hv2, hnn⟩ := c.mine k hk g rfl hgl
          simp at hv2
          subst hv2
          obtain ⟨n0, hn0, hr⟩ := h2
          have hlen : n0 = nn := by
            rcases hr.2 with ⟨e1, _⟩ | ⟨g', cap', cur, e1, _⟩
            · rw [hv] at e1; cases e1
            · rw [hv] at e1; simp at e1; exact e1.2.1.symm
          subst hlen
          refine ⟨n0, hn0, ?_⟩
          have := own_shorter hown n0 (by omega)
          rw [hv, hmk]
          rwa [← elm_length f' m, reps_take (by omega), elm_length] at this
        · exact kc_local f' w w1 k (fun b e => far b (h1 b e).2.2 (fun hb => hgl (by rw [e, hb]))) h2
      · exact (h.fam f' hf').touch (kc_local f') t (fun k _ hk => by rw [hk, hlab]; omega)
    · intro k hk b e1 e2
      simp [Value.ownBlock] at e1
      subst e1
      obtain ⟨h1, nn, cl, h2, h3, h4⟩ := c.mine k hk g rfl e2
      simp at h3
      subst h3
      exact ⟨h1, nn, cap, h2, rfl, by omega⟩
  · have t : Touch (fun _ => False) w w1 := Touch.trans hw0 (Touch.ofGrown hg (by simp)) (fun i hi => .inl hi)
    refine ⟨fun k => if k < w.heap.size then L k else 3 * f + 3, (h.relabel (L' := fun k => if k < w.heap.size then L k else 3 * f + 3) (fun k hk _ => if_pos hk)).touch t (fun _ _ h => h.elim), ⟨hown, fun b e => ?_, ?_⟩, fun k hk => if_pos hk, t.mono (fun _ h => h.elim)⟩
    · simp [Value.ownBlock] at e
      subst e
      exact if_neg (by omega)
    · intro k hk b e1 e2
      simp [Value.ownBlock] at e1
      subst e1
      have := ((h.fam f hf).kept k hk).1 g e2
      omega
end

theorem wpList_append_list {P : Program} {w : World} {ops : Array Oper} {rest : List Oper} {o : Oper} {a : Act} {Q : Exit → Act → World → Prop} (hgd : o.guard = none) (s x : Operand) (t : TypeId)
    (ho : o.op = Op.call { callee := Callee.builtin Builtin.append, args := #[s, x], argTypes := #[t, t] })
    (e : TypeId) (i : TypeInfo) (z : Value) (size bytes : Nat) (ht : P.underlying t = some (.slice e)) (hi : P.info? e = some i) (hz : i.zero = some z)
    (hsize : i.size = size) (hby : i.bytes = bytes) (hzs : z.cells.size = size) (hsz : 0 < size)
    (v : Value) (n : Nat) (xs : List Value) (hs : a.eval s = v) (hown : w.ownsRow 0 e size v n xs)
    (ad : Addr) (m c : Nat) (news : List Value) (hx : a.eval x = .slice (some ad) m c) (hl : news.length = m * size) (hnews : ∀ j u, news[j]? = some u → w.cell? (ad.add j) = some u) (h1 : ∀ u ∈ news, u.oneCell' = true)
    (hm : 0 < m) (h63 : n + m ≤ maxLen) (hbytes : (n + m) * bytes ≤ 140737488355328)
    (h : ∀ g cap w', w'.ownsRow 0 e size (.slice (some ⟨g, 0, none⟩) (n + m) cap) (n + m) (xs ++ news) → Grew w w' v n g cap → wpList P ops Q rest (a.put o.dst (.slice (some ⟨g, 0, none⟩) (n + m) cap)) w') : wpList P ops Q (o :: rest) a w := by
  have key : ∀ (ao : Option Addr) (cap : Nat), v = .slice ao n cap → (ao = none → n = 0 ∧ cap = 0) → (∀ b, ao = some b → ∀ j u, xs[j]? = some u → w.cell? (b.add j) = some u) → cap < n + m → wpList P ops Q (o :: rest) a w := by
    intro ao cap hv hnone hcells hfull
    refine wpList_append_grows w hgd s x t ho e i z size bytes ht hi hz hsize hby hzs hsz ao n cap xs (hs.trans hv) hnone hown.1 hcells ad m c news hx hl hnews h1 hfull h63 hbytes (fun v' w' hown' hg' => ?_)
    obtain ⟨g5, c5, rfl, hg5, hg5s⟩ := hown'.form (by omega)
    exact h g5 c5 w' (own_low hown' (Nat.zero_le _)) (.inr ⟨hg5, hg'⟩)
  rcases hown.2 with ⟨hv, hn⟩ | ⟨g, cap, cur, hv, _⟩
  · subst hn
    exact key none 0 hv (fun _ => ⟨rfl, rfl⟩) (fun b hb => by simp at hb) (by omega)
  · by_cases hroom : n + m ≤ cap
    · rw [hv] at hs hown
      exact wpList_append_fits w hgd s x t ho 0 e i size ht hi hsize g n cap xs hs hown ad m c news hx hl hnews h1 hroom (fun w' h2 h3 => h g cap w' h2 (.inl ⟨hv, h3⟩))
    · rw [hv] at hown
      exact key _ cap hv (fun hh => by simp at hh) (fun b hb j u hu => by obtain rfl : b = ⟨g, 0, none⟩ := (by simpa using hb.symm); exact hown.cells rfl j u hu) (by omega)
end Go.Proofs.YtnjlbgolnbdkaaaGreat
