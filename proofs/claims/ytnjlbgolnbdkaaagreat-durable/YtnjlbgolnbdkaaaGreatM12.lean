/- Texts of the proofs of Watched and Clocked, one behind the other. -/
import Derived.Test.YtnjlbgolnbdkaaaGreatM11
import Derived.Test.YtnjlbgolnbdkaaaGreatM02
import Derived.Test.YtnjlbgolnbdkaaaGreatM10
/- The keeper's sealed, number: bytes that a list owns, and what lies behind an append. -/
namespace Go.Proofs.YtnjlbgolnbdkaaaGreat
open Go.RowKit

structure Bys (base : Nat) (w : World) (v : Value) (zs : List Int) : Prop where
  own : w.ownsRow base 5 1 v zs.length (vals zs)
  bytes : Bytes zs
theorem bytes_app {a b : List Int} (ha : Bytes a) (hb : Bytes b) : Bytes (a ++ b) := fun z hz => by
  rcases List.mem_append.1 hz with h | h
  · exact ha z h
  · exact hb z h
theorem Bys.app {base : Nat} {w : World} {g cap : Nat} {zs ys : List Int} {n m : Nat} (hn : zs.length = n) (hm : ys.length = m) (hz : Bytes zs) (hy : Bytes ys) (h : w.ownsRow base 5 1 (.slice (some ⟨g, 0, none⟩) (n + m) cap) (n + m) (vals zs ++ vals ys)) : Bys base w (.slice (some ⟨g, 0, none⟩) (n + m) cap) (zs ++ ys) := by
  subst hn hm
  refine ⟨?_, bytes_app hz hy⟩
  rw [List.length_append, vals_append]
  exact h
theorem Bys.slice {base : Nat} {w : World} {v : Value} {zs : List Int} (h : Bys base w v zs) : ∃ ad c, v = .slice ad zs.length c := own_slice h.own
theorem Bys.row {base : Nat} {w : World} {v : Value} {zs : List Int} (h : Bys base w v zs) (h0 : 0 < zs.length) : ∃ g c, v = .slice (some ⟨g, 0, none⟩) zs.length c ∧ Row w g 0 zs ∧ base ≤ g ∧ g < w.heap.size := by
  obtain ⟨g, c, h1, _⟩ := h.own.form (by omega)
  subst h1
  have hl := World.ownsRow.lt h.own g rfl
  exact ⟨g, c, rfl, row_of_own h.own, hl.1, hl.2⟩
theorem Bys.keep {base : Nat} {w w' : World} {v : Value} {zs : List Int} (h : Bys base w v zs) (hs : ∀ b, v.ownBlock = some b → w'.heap[b]? = w.heap[b]?) : Bys base w' v zs := ⟨own_keep h.own hs, h.bytes⟩
theorem Bys.below {base : Nat} {w w' : World} {v : Value} {zs : List Int} (h : Bys base w v zs) (hb : Below w.heap.size w w') : Bys base w' v zs := h.keep fun b e => hb.block b (World.ownsRow.lt h.own b e).2
theorem Bys.low {base base' : Nat} {w : World} {v : Value} {zs : List Int} (h : Bys base w v zs) (hb : base' ≤ base) : Bys base' w v zs := ⟨own_low h.own hb, h.bytes⟩
theorem Bys.blk {base : Nat} {w : World} {v : Value} {zs : List Int} (h : Bys base w v zs) : ∀ b, v.ownBlock = some b → base ≤ b := fun b e => (World.ownsRow.lt h.own b e).1
theorem Bys.held {base : Nat} {w : World} {v : Value} {zs : List Int} (h : Bys base w v zs) (h0 : 0 < zs.length) : ∃ g c, v = .slice (some ⟨g, 0, none⟩) zs.length c ∧ Held w (some ⟨g, 0, none⟩) zs.length c zs := by
  rcases h.own.2 with ⟨h1, h2⟩ | ⟨g, cap, cur, hv, _, hh, hc, hm, _⟩
  · omega
  · subst hv
    refine ⟨g, cap, rfl, rfl, hc, by unfold maxLen at hm; omega, h.bytes, fun e => (by cases e), ?_, ?_⟩
    · intro ad e j u hu
      cases e
      exact h.own.cells (g := g) rfl j u hu
    · intro ad e _
      cases e
      exact (World.ownsRow.lt h.own g rfl).2
theorem Below.app {base : Nat} {w w' : World} {v : Value} {zs : List Int} {o : Obj} (h : Bys base w v zs) (hb : base ≤ w.heap.size) (hg : (w.alloc o).grownBy w' v.ownBlock) : Below base w w' :=
  (Below.refl _ _).grown (grown_alloc hg) hb h.blk

set_option maxHeartbeats 1000000 in
theorem ksealed_any (base : Nat) (v : Value) (zs : List Int) (w : World) (h : Bys base w v zs) (h0 : 0 < zs.length) (hn : zs.length ≤ 100000) (hb : base ≤ w.heap.size) :
    Calls Tryz.prog 36 #[v] w fun e w' => ∃ v', e = .returned v' ∧ Bys base w' v' (zs ++ be4 (crcOf zs)) ∧ Below base w w' := by
  obtain ⟨i0, hi, hz0, hz1, hz2⟩ := info_parts Tryz.info5
  obtain ⟨g, c, rfl, hr, hg1, hg2⟩ := h.row h0
  have HC := hide (kcheck_any g 0 c zs w h.bytes hr (by omega))
  have HB4 := hide (be4_bytes (crcOf zs))
  have HL4 : Hid ((be4 (crcOf zs)).length = 4) := rfl
  obtain ⟨cs, hcs⟩ : ∃ cs, cs = be4 (crcOf zs) := ⟨_, rfl⟩
  rw [← hcs] at HC HB4 HL4
  have HCS := hide hcs
  clear hcs
  have H := hide h
  have HO : Hid ((w.alloc (.cells (vals cs).toArray 5)).ownsRow base 5 1 (.slice (some ⟨g, 0, none⟩) zs.length c) zs.length (vals zs)) := h.own.alloc _
  clear h hr
  go_enter Tryz.func36, Tryz.ntmps36
  go_wp2_with fail
  refine HC.out.mono ?_
  rintro e w1 ⟨rfl, rfl⟩
  go_wp2_with (at_builtin; go_must (refine wpList_append_lies _ rfl (.tmp 6) (.tmp 7) 22 rfl base 5 i0 (.int .u8 0) 1 1 Tryz.underlying22 hi hz0 hz1 hz2 rfl (by decide) (.slice (some ⟨g, 0, none⟩) zs.length c) zs.length (vals zs) rfl (by exact HO.out) ⟨w.heap.size, 0, none⟩ 4 4 (vals cs) (by rfl) (by rw [vals_length, HL4.out]) (by exact news_at w (vals cs).toArray 5) (vals_one cs) (by omega) (by unfold maxLen; omega) (by omega) (by simp; omega) _ rfl ?_))
  intro g5 c5 w5 ho5 hg5 _ _
  have H5 := hide (Bys.app rfl HL4.out H.out.bytes HB4.out ho5)
  have H6 := hide (Below.app H.out hb hg5)
  clear ho5 hg5
  go_wp2
  go_ret
  exact ⟨_, rfl, by rw [← HCS.out]; exact H5.out, H6.out⟩

structure Ints (w : World) (v : Value) (l : List Int) : Prop where
  len : l.length ≤ 9223372036854775807
  rng : ∀ x ∈ l, -9223372036854775808 ≤ x ∧ x ≤ 9223372036854775807
  lies : ∃ ao c, v = .slice ao l.length c ∧ (0 < l.length → ∃ b off, ao = some ⟨b, off, none⟩ ∧ b < w.heap.size ∧ ∀ i, i < l.length → w.cell? ⟨b, off + i, none⟩ = some (.int .i64 (l.getD i 0)))
theorem Ints.nil (w : World) (ao : Option Addr) (c : Nat) : Ints w (.slice ao 0 c) [] := ⟨by simp, by simp, ao, c, rfl, by simp⟩
theorem Ints.below {w w' : World} {v : Value} {l : List Int} {base : Nat} (h : Ints w v l) (hb : Below base w w') (hB : w.heap.size ≤ base) : Ints w' v l := by
  obtain ⟨h1, h2, ao, c, hv, h3⟩ := h
  refine ⟨h1, h2, ao, c, hv, fun h0 => ?_⟩
  obtain ⟨b, off, ha, hl, hc⟩ := h3 h0
  exact ⟨b, off, ha, Nat.lt_of_lt_of_le hl hb.size, fun i hi => (hb.cell (p := ⟨b, off + i, none⟩) (Nat.lt_of_lt_of_le hl hB)).trans (hc i hi)⟩
theorem getD_rng {l : List Int} (h : ∀ x ∈ l, -9223372036854775808 ≤ x ∧ x ≤ 9223372036854775807) (i : Nat) : -9223372036854775808 ≤ l.getD i 0 ∧ l.getD i 0 ≤ 9223372036854775807 := by
  by_cases hi : i < l.length
  · exact h _ (by rw [List.getD_eq_getElem?_getD, List.getElem?_eq_getElem hi]; simp)
  · rw [List.getD_eq_getElem?_getD, List.getElem?_eq_none (by omega)]; simp

set_option maxHeartbeats 400000 in
theorem knumber_any (v : Value) (l : List Int) (i : Nat) (w : World) (h : Ints w v l) (hi : i ≤ 1000) :
    Calls Tryz.prog 40 #[v, .int .i64 i] w fun e w' => e = .returned (.int .i64 (l.getD i 0)) ∧ w' = w := by
  obtain ⟨h1, h2, ao, c, rfl, h3⟩ := h
  by_cases hlt : i < l.length
  · obtain ⟨b, off, rfl, hl, hc⟩ := h3 (by omega)
    have c0 := hc i hlt
    clear hc h3 h2
    generalize l.getD i 0 = x at *
    generalize l.length = n at *
    go_enter Tryz.func40, Tryz.ntmps40
    go_wp2
    go_ret
    exact ⟨rfl, rfl⟩
  · have HX : Hid (l.getD i 0 = 0) := by
      show _ = _
      rw [List.getD_eq_getElem?_getD, List.getElem?_eq_none (by omega)]; rfl
    clear h3 h2
    generalize l.length = n at *
    go_enter Tryz.func40, Tryz.ntmps40
    go_wp2
    go_ret
    exact ⟨ret_int HX.out.symm, rfl⟩
end Go.Proofs.YtnjlbgolnbdkaaaGreat
/- The keeper's code: a process out of raw numbers. -/
namespace Go.Proofs.YtnjlbgolnbdkaaaGreat
open Go.RowKit

def opsK : List Int := [1, 2, 3, 4, 5, 8, 9, 11, 12, 1, 4, 0]
def opK (x : Int) : Int := opsK.getD (pickOf x 1099511627776 % 12).toNat 0
def argK (n : Nat) (x : Int) : Int := if opK x = 4 then pickOf x 1099511627776 / 12 % n else pickOf x 1099511627776 / 12 % 6
def insK (n : Nat) (x : Int) : List Int := [opK x, argK n x]
def codeK (l : List Int) : List Int := if l = [] then [0, 1, 0, 0] else [pickOf (l.getD 0 0) 10, ((min l.length 20 : Nat) : Int)] ++ (l.take (min l.length 20)).flatMap (insK (min l.length 20))
theorem opK_rng (x : Int) : 0 ≤ opK x ∧ opK x ≤ 12 := by
  have h1 := pickOf_nonneg x 1099511627776 (by omega)
  have h2 : (pickOf x 1099511627776 % 12).toNat < 12 := by omega
  unfold opK
  generalize (pickOf x 1099511627776 % 12).toNat = q at *
  have h3 : ∀ q : Fin 12, 0 ≤ opsK.getD q.1 0 ∧ opsK.getD q.1 0 ≤ 12 := by decide
  exact h3 ⟨q, h2⟩
theorem argK_rng (n : Nat) (x : Int) (h0 : 0 < n) (hn : n ≤ 20) : 0 ≤ argK n x ∧ argK n x ≤ 20 := by
  have h1 := pickOf_nonneg x 1099511627776 (by omega)
  unfold argK
  generalize pickOf x 1099511627776 / 12 = q at *
  split
  · have := Int.emod_nonneg q (b := (n : Int)) (by omega)
    have := Int.emod_lt_of_pos q (b := (n : Int)) (by omega)
    omega
  · omega
theorem insK_bytes (n : Nat) (x : Int) (h0 : 0 < n) (hn : n ≤ 20) : Bytes (insK n x) := by
  have h1 := opK_rng x
  have h2 := argK_rng n x h0 hn
  intro z hz
  simp only [insK, List.mem_cons, List.not_mem_nil, or_false] at hz
  rcases hz with rfl | rfl <;> omega
theorem take_flat {l : List Int} (f : Int → List Int) (k : Nat) (h : k < l.length) : (l.take (k + 1)).flatMap f = (l.take k).flatMap f ++ f (l.getD k 0) := by
  rw [take_snoc l k h]; simp
theorem insK_len (n : Nat) (l : List Int) : (l.flatMap (insK n)).length = 2 * l.length := by
  induction l with
  | nil => rfl
  | cons x l ih => rw [List.flatMap_cons, List.length_append, ih]; simp [insK]; omega
theorem pick_cell (W : World) (q : Nat) (hq : q < 12) : (W.alloc (.cells #[.int .i64 1, .int .i64 2, .int .i64 3, .int .i64 4, .int .i64 5, .int .i64 8, .int .i64 9, .int .i64 11, .int .i64 12, .int .i64 1, .int .i64 4, .int .i64 0] 3)).cell? ⟨W.heap.size, q, none⟩ = some (.int .i64 (opsK.getD q 0)) := by
  rw [cell_of_row _ _ _ _ _ _ (heap_alloc_new W _)]
  have h3 : ∀ q : Fin 12, (#[Value.int .i64 1, .int .i64 2, .int .i64 3, .int .i64 4, .int .i64 5, .int .i64 8, .int .i64 9, .int .i64 11, .int .i64 12, .int .i64 1, .int .i64 4, .int .i64 0] : Array Value)[q.1]? = some (.int .i64 (opsK.getD q.1 0)) := by
    intro q
    rcases q with ⟨q, hq⟩
    match q, hq with
    | 0, _ | 1, _ | 2, _ | 3, _ | 4, _ | 5, _ | 6, _ | 7, _ | 8, _ | 9, _ | 10, _ | 11, _ => rfl
  exact h3 ⟨q, hq⟩

set_option maxRecDepth 100000 in
set_option maxHeartbeats 4000000 in
theorem kcode_any (v : Value) (l : List Int) (w : World) (h : Ints w v l) :
    Calls Tryz.prog 41 #[v] w fun e w' => ∃ v', e = .returned v' ∧ Bys w.heap.size w' v' (codeK l) ∧ Below w.heap.size w w' := by
  obtain ⟨i0, hi, hz0, hz1, hz2⟩ := info_parts Tryz.info5
  have H := hide h
  obtain ⟨hl1, hl2, ao, c, rfl, h3⟩ := h
  by_cases h0 : l = []
  · subst h0
    have HO := hide (own_lit w [0, 1, 0, 0] 4 rfl (by decide))
    clear h3 hl2
    simp only [List.length_nil] at *
    go_enter Tryz.func41, Tryz.ntmps41
    go_wp2
    go_ret
    refine ⟨_, rfl, ⟨HO.out, ?_⟩, (Below.refl _ _).alloc (Nat.le_refl _) _⟩
    intro z hz
    simp only [codeK, if_true, List.mem_cons, List.not_mem_nil, or_false] at hz
    omega
  · have hlen : 0 < l.length := List.length_pos_iff.2 h0
    obtain ⟨b, off, rfl, hbl, hc⟩ := h3 hlen
    have hc0 := hc 0 hlen
    have hr0 := getD_rng hl2 0
    have HPK : Hid (∀ x W, -9223372036854775808 ≤ x → x ≤ 9223372036854775807 → Calls Tryz.prog 17 #[.int .i64 x, .int .i64 10] W fun e w' => e = .returned (.int .i64 (pickOf x 10)) ∧ w' = W) := fun x W a1 a2 => kpick_any x 10 W a1 a2 (by omega) (by omega)
    have hp0 := pickOf_nonneg (l.getD 0 0) 10 (by omega)
    have hp1 := pickOf_lt (l.getD 0 0) 10 (by omega)
    obtain ⟨n, hn⟩ : ∃ n, n = min l.length 20 := ⟨_, rfl⟩
    have hn0 : 0 < n ∧ n ≤ 20 ∧ n ≤ l.length := by omega
    have HCK : Hid (codeK l = [pickOf (l.getD 0 0) 10, (n : Int)] ++ (l.take n).flatMap (insK n)) := by
      show _ = _
      unfold codeK
      rw [if_neg h0, hn]
    have HC := hide hc
    have HL2 := hide hl2
    clear hc hl2 h3
    generalize l.getD 0 0 = x0 at *
    have hc1 : w.cell? ⟨b, off, none⟩ = some (.int .i64 x0) := hc0
    clear hc0
    have HN := hide hn
    obtain ⟨m, hm⟩ : ∃ m, m = l.length := ⟨_, rfl⟩
    have HM := hide hm
    rw [← hm] at hlen hn hn0 hl1 ⊢
    clear hm
    go_enter Tryz.func41, Tryz.ntmps41
    go_upto_if 12 with fail
    go_cut [3] from 11 to 12 (fun v wx => v = .int .i64 (n : Nat) ∧ w = wx)
    case first =>
      by_cases h20 : 20 < m
      · have hd : decide ((20 : Int) < (m : Nat)) = true := by simp; omega
        obtain rfl : n = 20 := by omega
        go_wp2_with fail
        go_meet
        exact ⟨rfl, rfl⟩
      · have hd : decide ((20 : Int) < (m : Nat)) = false := by simp; omega
        obtain rfl : n = m := by omega
        go_wp2_with fail
        go_meet
        exact ⟨rfl, rfl⟩
    case rest =>
    obtain ⟨rfl, rfl⟩ := hcut
    have hne : (((n : Nat) : Int) == 0) = false := by simp; omega
    clear hn
    go_wp2_with fail
    refine (HPK.out x0 w hr0.1 hr0.2).mono ?_
    rintro e w1 ⟨rfl, rfl⟩
    generalize pickOf x0 10 = p at *
    obtain ⟨hd, hhd⟩ : ∃ hd, hd = [p, (n : Int)] := ⟨_, rfl⟩
    have HBD : Hid (Bytes hd) := by
      rw [hhd]
      intro z hz
      simp only [List.mem_cons, List.not_mem_nil, or_false] at hz
      rcases hz with rfl | rfl <;> omega
    have HO : Hid (Bys w1.heap.size (w1.alloc (.cells #[.int .u8 p, .int .u8 (n : Nat)] 5)) (.slice (some ⟨w1.heap.size, 0, none⟩) 2 2) hd) := by
      refine ⟨?_, HBD.out⟩
      rw [hhd]
      exact own_lit w1 [p, (n : Int)] 2 rfl (by decide)
    have HLH : Hid (hd.length = 2) := by rw [hhd]; exact rfl
    have HCK2 : Hid (codeK l = hd ++ (l.take n).flatMap (insK n)) := by rw [hhd]; exact HCK.out
    have HHD := hide hhd
    clear hhd HCK HPK
    go_wp2_with fail
    go_loopw [4, 5] (fun v t wr => ∃ k : Nat, k ≤ n ∧ t = .int .i64 k ∧ Bys w1.heap.size wr v (hd ++ (l.take k).flatMap (insK n)) ∧ Below w1.heap.size w1 wr) (fun _ t _ => n - (intOf t).toNat)
    case atStart => exact ⟨0, by omega, rfl, by simpa using HO.out, (Below.refl _ _).alloc (Nat.le_refl _) _⟩
    case round =>
      obtain ⟨k, hk, rfl, hown, hB⟩ := hrel
      have hws := hB.size
      by_cases hlt : k < n
      · have hx := getD_rng HL2.out k
        have hck : wr.cell? ⟨b, off + k, none⟩ = some (.int .i64 (l.getD k 0)) := (hB.cell (p := ⟨b, off + k, none⟩) hbl).trans (HC.out k (by have := HM.out; omega))
        have HPK := hide (kpick_any (l.getD k 0) 1099511627776 wr hx.1 hx.2 (by omega) (by omega))
        have hp2 := pickOf_nonneg (l.getD k 0) 1099511627776 (by omega)
        have hp3 := pickOf_lt (l.getD k 0) 1099511627776 (by omega)
        have HT := hide (take_flat (l := l) (insK n) k (by have := HM.out; omega))
        have HYB := hide (insK_bytes n (l.getD k 0) hn0.1 hn0.2.1)
        have HYD : Hid (insK n (l.getD k 0) = [opK (l.getD k 0), argK n (l.getD k 0)]) := rfl
        have hor := opK_rng (l.getD k 0)
        have har := argK_rng n (l.getD k 0) hn0.1 hn0.2.1
        have HAK : Hid (argK n (l.getD k 0) = if opK (l.getD k 0) = 4 then pickOf (l.getD k 0) 1099511627776 / 12 % n else pickOf (l.getD k 0) 1099511627776 / 12 % 6) := rfl
        obtain ⟨q, hq⟩ := Int.eq_ofNat_of_zero_le (show 0 ≤ pickOf (l.getD k 0) 1099511627776 % 12 by omega)
        have hq12 : q < 12 := by omega
        have HOK : Hid (opK (l.getD k 0) = opsK.getD q 0) := by
          show _ = _
          unfold opK
          rw [hq]
          rfl
        generalize insK n (l.getD k 0) = ys at *
        generalize argK n (l.getD k 0) = ar at *
        generalize opK (l.getD k 0) = op at *
        generalize pickOf (l.getD k 0) 1099511627776 = cc at *
        generalize l.getD k 0 = x at *
        have hcell := pick_cell wr q hq12
        rw [← HOK.out] at hcell
        obtain ⟨w2, hw2⟩ : ∃ w2, w2 = wr.alloc (.cells #[.int .i64 1, .int .i64 2, .int .i64 3, .int .i64 4, .int .i64 5, .int .i64 8, .int .i64 9, .int .i64 11, .int .i64 12, .int .i64 1, .int .i64 4, .int .i64 0] 3) := ⟨_, rfl⟩
        have hb2 : Below wr.heap.size wr w2 := by rw [hw2]; exact (Below.refl _ _).alloc (Nat.le_refl _) _
        have HO2 := hide (hown.below hb2)
        have HB2 : Hid (Below w1.heap.size w1 w2) := hB.trans (hb2.mono hws)
        have hs2 := hb2.size
        have HW2 := hide hw2
        obtain ⟨ad, cp, hv⟩ := hown.slice
        subst hv
        have HLN : Hid ((hd ++ (l.take k).flatMap (insK n)).length = 2 + 2 * k) := by
          show _ = _
          rw [List.length_append, HLH.out, insK_len, List.length_take]
          have := HM.out
          omega
        have hln := HLN.out
        obtain ⟨zs, hzs⟩ : ∃ zs, zs = hd ++ (l.take k).flatMap (insK n) := ⟨_, rfl⟩
        have HZS := hide hzs.symm
        rw [← hzs] at HO2 HLN hln ⊢
        clear hzs
        clear hown hB hw2 hb2 HC HL2
        have HYL : Hid (ys.length = 2) := by rw [HYD.out]; exact rfl
        have HVY : Hid ((vals ys).toArray = #[.int .u8 op, .int .u8 ar]) := by rw [HYD.out]; exact rfl
        have HTAIL : Hid (∀ W g5 c5, W.ownsRow w1.heap.size 5 1 (.slice (some ⟨g5, 0, none⟩) (2 + 2 * k + 2) c5) (2 + 2 * k + 2) (vals zs ++ vals ys) → Bys w1.heap.size W (.slice (some ⟨g5, 0, none⟩) (2 + 2 * k + 2) c5) (hd ++ (l.take (k + 1)).flatMap (insK n))) := fun W g5 c5 h5 => by
          rw [HT.out, ← List.append_assoc, HZS.out]
          exact Bys.app HLN.out HYL.out HO2.out.bytes HYB.out h5
        have HO3 : Hid (w2.ownsRow w1.heap.size 5 1 (.slice ad (2 + 2 * k) cp) (2 + 2 * k) (vals zs)) := by
          have := HO2.out.own
          rw [HLN.out] at this
          exact this
        rw [HLN.out] at HO2
        have HS2 : Hid (w2.heap.size = wr.heap.size + 1) := by rw [HW2.out]; exact (by simp : (wr.alloc _).heap.size = wr.heap.size + 1)
        by_cases ho4 : op = 4
        · rw [if_pos ho4] at HAK
          subst ho4
          have hA := HAK.out.symm
          go_wp2_with fail
          refine HPK.out.mono ?_
          rintro e w9 ⟨rfl, rfl⟩
          go_wp2_with (at_builtin; go_must (refine wpList_append_lies _ rfl (.tmp 48) (.tmp 53) 22 rfl w1.heap.size 5 i0 (.int .u8 0) 1 1 Tryz.underlying22 hi hz0 hz1 hz2 rfl (by decide) (.slice ad (2 + 2 * k) cp) (2 + 2 * k) (vals zs) rfl (by rw [← HW2.out]; exact HO3.out.alloc _) ⟨w9.heap.size + 1, 0, none⟩ 2 2 (vals ys) (by rfl) (by rw [vals_length, HYL.out]) (by rw [← HW2.out, ← HS2.out, ← HVY.out]; exact news_at w2 (vals ys).toArray 5) (vals_one ys) (by omega) (by unfold maxLen; omega) (by omega) (by simp; omega) _ rfl ?_))
          intro g5 c5 w5 ho5 hg5 _ _
          have H5 := hide (HTAIL.out w5 g5 c5 ho5)
          rw [← HW2.out] at hg5
          have H6 : Hid (Below w1.heap.size w1 w5) := HB2.out.trans (Below.app HO2.out (by omega) hg5)
          clear ho5 hg5
          go_wp2
          go_roundw
          case rel => exact ⟨k + 1, by omega, by go_num, H5.out, H6.out⟩
          case measure => simp [intOf]; omega
        · rw [if_neg ho4] at HAK
          have hb4 : (op == 4) = false := by simp [ho4]
          have hA := HAK.out.symm
          go_wp2_with fail
          refine HPK.out.mono ?_
          rintro e w9 ⟨rfl, rfl⟩
          go_wp2_with (at_builtin; go_must (refine wpList_append_lies _ rfl (.tmp 48) (.tmp 53) 22 rfl w1.heap.size 5 i0 (.int .u8 0) 1 1 Tryz.underlying22 hi hz0 hz1 hz2 rfl (by decide) (.slice ad (2 + 2 * k) cp) (2 + 2 * k) (vals zs) rfl (by rw [← HW2.out]; exact HO3.out.alloc _) ⟨w9.heap.size + 1, 0, none⟩ 2 2 (vals ys) (by rfl) (by rw [vals_length, HYL.out]) (by rw [← HW2.out, ← HS2.out, ← HVY.out]; exact news_at w2 (vals ys).toArray 5) (vals_one ys) (by omega) (by unfold maxLen; omega) (by omega) (by simp; omega) _ rfl ?_))
          intro g5 c5 w5 ho5 hg5 _ _
          have H5 := hide (HTAIL.out w5 g5 c5 ho5)
          rw [← HW2.out] at hg5
          have H6 : Hid (Below w1.heap.size w1 w5) := HB2.out.trans (Below.app HO2.out (by omega) hg5)
          clear ho5 hg5
          go_wp2
          go_roundw
          case rel => exact ⟨k + 1, by omega, by go_num, H5.out, H6.out⟩
          case measure => simp [intOf]; omega
      · obtain rfl : k = n := by omega
        have HB := hide hB
        have HOW := hide hown
        obtain ⟨ad, cp, hv⟩ := hown.slice
        subst hv
        clear hown hB
        go_wp2
        go_ret
        exact ⟨_, rfl, by rw [HCK2.out]; exact HOW.out, HB.out⟩
end Go.Proofs.YtnjlbgolnbdkaaaGreat
/- The keeper's part: a partition out of raw numbers. -/
namespace Go.Proofs.YtnjlbgolnbdkaaaGreat
open Go.RowKit

def rawA (l : List Int) (i : Nat) : Int := [(1 : Int), 2, 3, 4, 5, 6].getD (pickOf (l.getD i 0) 6).toNat 0
def actK (l : List Int) (i : Nat) : Int := if i = 5 ∧ (rawA l i = 2 ∨ rawA l i = 3) then 4 else rawA l i
def actsK (l : List Int) (k : Nat) : List Int := (List.range k).map (actK l)
def partK (limit : Int) (acts one two : List Int) : List Int := [0, 4, limit] ++ actsK acts 6 ++ (if two = [] then [1] ++ codeK one else [2] ++ codeK one ++ codeK two)
theorem rawA_rng (l : List Int) (i : Nat) : 1 ≤ rawA l i ∧ rawA l i ≤ 6 := by
  have h1 := pickOf_nonneg (l.getD i 0) 6 (by omega)
  have h2 := pickOf_lt (l.getD i 0) 6 (by omega)
  unfold rawA
  obtain ⟨q, hq⟩ : ∃ q, q = (pickOf (l.getD i 0) 6).toNat := ⟨_, rfl⟩
  rw [← hq]
  have h3 : ∀ q : Fin 6, 1 ≤ [(1 : Int), 2, 3, 4, 5, 6].getD q.1 0 ∧ [(1 : Int), 2, 3, 4, 5, 6].getD q.1 0 ≤ 6 := by decide
  exact h3 ⟨q, by omega⟩
theorem actK_rng (l : List Int) (i : Nat) : 1 ≤ actK l i ∧ actK l i ≤ 6 := by
  have := rawA_rng l i
  unfold actK
  split <;> omega
theorem actsK_len (l : List Int) (k : Nat) : (actsK l k).length = k := by simp [actsK]
theorem actsK_succ (l : List Int) (k : Nat) : actsK l (k + 1) = actsK l k ++ [actK l k] := by simp [actsK, List.range_succ]
theorem act_cell (W : World) (q : Nat) (hq : q < 6) : (W.alloc (.cells #[.int .i64 1, .int .i64 2, .int .i64 3, .int .i64 4, .int .i64 5, .int .i64 6] 3)).cell? ⟨W.heap.size, q, none⟩ = some (.int .i64 ([(1 : Int), 2, 3, 4, 5, 6].getD q 0)) := by
  rw [cell_of_row _ _ _ _ _ _ (heap_alloc_new W _)]
  match q, hq with
  | 0, _ | 1, _ | 2, _ | 3, _ | 4, _ | 5, _ => rfl
theorem codeK_len (l : List Int) : 4 ≤ (codeK l).length ∧ (codeK l).length ≤ 42 := by
  unfold codeK
  split
  · simp
  · rename_i h
    have : 0 < l.length := List.length_pos_iff.2 h
    rw [List.length_append, insK_len, List.length_take]
    simp only [List.length_cons, List.length_nil]
    omega
theorem one_bytes (a : Int) (h : 0 ≤ a ∧ a < 256) : Bytes [a] := by
  intro z hz
  simp only [List.mem_cons, List.not_mem_nil, or_false] at hz
  omega

theorem Bys.at {base : Nat} {w : World} {v : Value} {zs : List Int} {n : Nat} (h : Bys base w v zs) (hn : zs.length = n) : w.ownsRow base 5 1 v n (vals zs) := hn ▸ h.own
theorem Bys.news {base : Nat} {w : World} {g n c : Nat} {zs : List Int} (h : Bys base w (.slice (some ⟨g, 0, none⟩) n c) zs) : ∀ j u, (vals zs)[j]? = some u → w.cell? ((⟨g, 0, none⟩ : Addr).add j) = some u := h.own.cells (g := g) rfl

set_option maxRecDepth 100000 in
set_option maxHeartbeats 4000000 in
theorem kpart_any (limit : Int) (vA vO vT : Value) (acts one two : List Int) (w : World) (hl : 0 ≤ limit ∧ limit < 256) (hA : Ints w vA acts) (hO : Ints w vO one) (hT : Ints w vT two) :
    Calls Tryz.prog 22 #[.int .i64 limit, vA, vO, vT] w fun e w' => ∃ v', e = .returned v' ∧ Bys w.heap.size w' v' (partK limit acts one two) ∧ Below w.heap.size w w' := by
  obtain ⟨i0, hi, hz0, hz1, hz2⟩ := info_parts Tryz.info5
  have HA := hide hA
  have HO := hide hO
  have HT := hide hT
  have HLA := hide hA.rng
  obtain ⟨aT, cT, rfl, -⟩ := hT.lies
  have hlt := hT.len
  obtain ⟨nt, hnt⟩ : ∃ nt, nt = two.length := ⟨_, rfl⟩
  rw [← hnt] at hlt ⊢
  have HNT := hide hnt
  clear hA hO hT hnt
  have HP : Hid (partK limit acts one two = [0, 4, limit] ++ actsK acts 6 ++ (if two = [] then [1] ++ codeK one else [2] ++ codeK one ++ codeK two)) := rfl
  have HS0 : Hid (Bys w.heap.size (w.alloc (.cells #[.int .u8 0, .int .u8 4, .int .u8 limit] 5)) (.slice (some ⟨w.heap.size, 0, none⟩) 3 3) ([0, 4, limit] ++ actsK acts 0)) := by
    refine ⟨own_lit w [0, 4, limit] 3 rfl (by decide), ?_⟩
    intro z hz
    simp only [actsK, List.range_zero, List.map_nil, List.append_nil, List.mem_cons, List.not_mem_nil, or_false] at hz
    omega
  go_enter Tryz.func22, Tryz.ntmps22
  go_wp2_with fail
  go_loopw [9, 10, 11] (fun v t _ wr => ∃ k : Nat, k ≤ 6 ∧ t = .int .i64 k ∧ Bys w.heap.size wr v ([0, 4, limit] ++ actsK acts k) ∧ Below w.heap.size w wr) (fun _ t _ _ => 6 - (intOf t).toNat)
  case atStart => exact ⟨0, by omega, rfl, HS0.out, (Below.refl _ _).alloc (Nat.le_refl _) _⟩
  case round =>
    obtain ⟨k, hk, rfl, hown, hB⟩ := hrel
    have hws := hB.size
    have HLN : Hid (([0, 4, limit] ++ actsK acts k).length = 3 + k) := by
      show _ = _
      rw [List.length_append, actsK_len]
      simp
    obtain ⟨ad, cp, hv⟩ := hown.slice
    rw [HLN.out] at hv
    subst hv
    by_cases hlt6 : k < 6
    · obtain ⟨w2, hw2⟩ : ∃ w2, w2 = wr.alloc (.cells #[.int .i64 1, .int .i64 2, .int .i64 3, .int .i64 4, .int .i64 5, .int .i64 6] 3) := ⟨_, rfl⟩
      have hb2 : Below wr.heap.size wr w2 := by rw [hw2]; exact (Below.refl _ _).alloc (Nat.le_refl _) _
      have HO2 := hide (hown.below hb2)
      have HB2 : Hid (Below w.heap.size w w2) := hB.trans (hb2.mono hws)
      have hs2 := hb2.size
      have HW2 := hide hw2
      have HS2 : Hid (w2.heap.size = wr.heap.size + 1) := by rw [hw2]; exact (by simp : (wr.alloc _).heap.size = wr.heap.size + 1)
      have HNB := hide (knumber_any vA acts k w2 (HA.out.below HB2.out (Nat.le_refl _)) (by omega))
      have hx := getD_rng HLA.out k
      have HPK := hide (kpick_any (acts.getD k 0) 6 w2 hx.1 hx.2 (by omega) (by omega))
      have hp2 := pickOf_nonneg (acts.getD k 0) 6 (by omega)
      have hp3 := pickOf_lt (acts.getD k 0) 6 (by omega)
      have HRA : Hid (rawA acts k = [(1 : Int), 2, 3, 4, 5, 6].getD (pickOf (acts.getD k 0) 6).toNat 0) := rfl
      have HAK : Hid (actK acts k = if k = 5 ∧ (rawA acts k = 2 ∨ rawA acts k = 3) then 4 else rawA acts k) := rfl
      have hra := rawA_rng acts k
      have hak := actK_rng acts k
      have HSU := hide (actsK_succ acts k)
      obtain ⟨q, hq⟩ := Int.eq_ofNat_of_zero_le hp2
      have hcell := act_cell wr q (by omega)
      rw [hq] at HRA HPK
      rw [Int.toNat_natCast] at HRA
      rw [← HRA.out, ← hw2] at hcell
      obtain ⟨zs, hzs⟩ : ∃ zs, zs = [0, 4, limit] ++ actsK acts k := ⟨_, rfl⟩
      have HZS := hide hzs.symm
      rw [← hzs] at HO2 HLN
      have HTAIL : Hid (∀ W g5 c5, W.ownsRow w.heap.size 5 1 (.slice (some ⟨g5, 0, none⟩) (3 + k + 1) c5) (3 + k + 1) (vals zs ++ vals [actK acts k]) → Bys w.heap.size W (.slice (some ⟨g5, 0, none⟩) (3 + k + 1) c5) ([0, 4, limit] ++ actsK acts (k + 1))) := fun W g5 c5 h5 => by
        rw [HSU.out, ← List.append_assoc, HZS.out]
        exact Bys.app HLN.out rfl HO2.out.bytes (one_bytes _ (by omega)) h5
      have HO3 : Hid (w2.ownsRow w.heap.size 5 1 (.slice ad (3 + k) cp) (3 + k) (vals zs)) := by
        have := HO2.out.own
        rw [HLN.out] at this
        exact this
      generalize actK acts k = ak at *
      generalize rawA acts k = ra at *
      generalize acts.getD k 0 = xk at *
      have HVY : Hid ((vals [ak]).toArray = #[.int .u8 ak]) := rfl
      clear hown hB hzs hw2 hb2 HRA
      go_wp2_with fail
      rw [← HW2.out]
      refine HNB.out.mono ?_
      rintro e w9 ⟨rfl, rfl⟩
      go_wp2_with fail
      refine HPK.out.mono ?_
      rintro e w9 ⟨rfl, rfl⟩
      go_upto_region 6 with fail
      go_cut [38] from 18 to 43 (fun v wx => v = .bool (decide (k = 5 ∧ (ra = 2 ∨ ra = 3))) ∧ w9 = wx)
      case first =>
        by_cases h5 : k = 5
        · by_cases h2 : ra = 2
          · have bd : decide (k = 5 ∧ (ra = 2 ∨ ra = 3)) = true := by simp [h5, h2]
            have b5 : (((k : Nat) : Int) == 5) = true := by simp; omega
            have b2 : (ra == 2) = true := by simp [h2]
            go_wp2_with fail
            go_meet
            exact ⟨by rw [bd], rfl⟩
          · have b2 : (ra == 2) = false := by simp [h2]
            have b5 : (((k : Nat) : Int) == 5) = true := by simp; omega
            by_cases h3 : ra = 3
            · have bd : decide (k = 5 ∧ (ra = 2 ∨ ra = 3)) = true := by simp [h5, h3]
              have b3 : (ra == 3) = true := by simp [h3]
              go_wp2_with fail
              go_meet
              exact ⟨by rw [bd], rfl⟩
            · have b3 : (ra == 3) = false := by simp [h3]
              have bd : decide (k = 5 ∧ (ra = 2 ∨ ra = 3)) = false := by simp [h2, h3]
              go_wp2_with fail
              go_meet
              exact ⟨by rw [bd], rfl⟩
        · have b5 : (((k : Nat) : Int) == 5) = false := by simp; omega
          have bd : decide (k = 5 ∧ (ra = 2 ∨ ra = 3)) = false := by simp [h5]
          go_wp2_with fail
          go_meet
          exact ⟨by rw [bd], rfl⟩
      case rest =>
      obtain ⟨rfl, rfl⟩ := hcut
      go_upto_if 38 with fail
      go_cut [11] from 18 to 43 (fun v wx => v = .int .i64 ak ∧ w9 = wx)
      case first =>
        by_cases hc : k = 5 ∧ (ra = 2 ∨ ra = 3)
        · rw [if_pos hc] at HAK
          have e := HAK.out
          subst e
          have bd : decide (k = 5 ∧ (ra = 2 ∨ ra = 3)) = true := by simp [hc]
          rw [bd]
          clear hc
          go_wp2_with fail
          go_meet
          exact ⟨rfl, rfl⟩
        · rw [if_neg hc] at HAK
          have e := HAK.out
          subst e
          have bd : decide (k = 5 ∧ (ak = 2 ∨ ak = 3)) = false := by simp; omega
          rw [bd]
          clear hc
          go_wp2_with fail
          go_meet
          exact ⟨rfl, rfl⟩
      case rest =>
      obtain ⟨rfl, rfl⟩ := hcut
      go_wp2_with (at_builtin; go_must (refine wpList_append_lies _ rfl (.tmp 39) (.tmp 42) 22 rfl w.heap.size 5 i0 (.int .u8 0) 1 1 Tryz.underlying22 hi hz0 hz1 hz2 rfl (by decide) (.slice ad (3 + k) cp) (3 + k) (vals zs) rfl (by exact HO3.out.alloc _) ⟨w9.heap.size, 0, none⟩ 1 1 (vals [ak]) (by rfl) (by rfl) (by exact news_at w9 (vals [ak]).toArray 5) (vals_one [ak]) (by omega) (by unfold maxLen; omega) (by omega) (by simp; omega) _ rfl ?_))
      intro g5 c5 w5 ho5 hg5 _ _
      have H5 := hide (HTAIL.out w5 g5 c5 ho5)
      have H6 : Hid (Below w.heap.size w w5) := HB2.out.trans (Below.app HO2.out (by omega) hg5)
      clear ho5 hg5
      go_wp2
      go_roundw
      case rel => exact ⟨k + 1, by omega, by go_num, H5.out, H6.out⟩
      case measure => simp [intOf]; omega
    · obtain rfl : k = 6 := by omega
      obtain ⟨zs, hzs⟩ : ∃ zs, zs = [0, 4, limit] ++ actsK acts 6 := ⟨_, rfl⟩
      rw [← hzs] at hown HLN
      rw [← hzs] at HP
      have HO1 := hide hown
      have HO3 : Hid (wr.ownsRow w.heap.size 5 1 (.slice ad 9 cp) 9 (vals zs)) := by
        have := hown.own
        rw [HLN.out] at this
        exact this
      have HB := hide hB
      clear hown hB hzs
      by_cases ht : two = []
      · rw [if_pos ht] at HP
        have hnt0 : nt = 0 := by rw [HNT.out, ht]; rfl
        subst hnt0
        clear ht
        go_wp2_with (at_builtin; go_must (refine wpList_append_lies _ rfl (.tmp 47) (.tmp 48) 22 rfl w.heap.size 5 i0 (.int .u8 0) 1 1 Tryz.underlying22 hi hz0 hz1 hz2 rfl (by decide) (.slice ad 9 cp) 9 (vals zs) rfl (by exact HO3.out.alloc _) ⟨wr.heap.size, 0, none⟩ 1 1 (vals [1]) (by rfl) (by rfl) (by exact news_at wr (vals [1]).toArray 5) (vals_one [1]) (by omega) (by unfold maxLen; omega) (by omega) (by simp; omega) _ rfl ?_))
        intro g5 c5 w5 ho5 hg5 _ _
        have H5 := hide (Bys.app (zs := zs) (ys := [1]) HLN.out rfl HO1.out.bytes (one_bytes 1 (by omega)) ho5)
        have H6 : Hid (Below w.heap.size w w5) := HB.out.trans (Below.app HO1.out (by omega) hg5)
        have hs5 := H6.out.size
        have HC := hide (kcode_any vO one w5 (HO.out.below H6.out (Nat.le_refl _)))
        clear ho5 hg5
        go_wp2_with fail
        refine HC.out.mono ?_
        rintro e w6 ⟨v6, rfl, hC6, hb6⟩
        have H7 := hide (H5.out.below hb6)
        have HB6 : Hid (Below w.heap.size w w6) := H6.out.trans (hb6.mono hs5)
        have hs6 := hb6.size
        have hcl := codeK_len one
        obtain ⟨g7, c7, hv7, -, -, -⟩ := hC6.row (by omega)
        subst hv7
        have HN7 := hide hC6.news
        have HYB := hide hC6.bytes
        have HH7 := hide (H7.out.at (n := 10) (by rw [List.length_append, HLN.out]; rfl))
        obtain ⟨ys, hys⟩ : ∃ ys, ys = codeK one := ⟨_, rfl⟩
        rw [← hys] at HN7 HYB HP hcl
        obtain ⟨ny, hny⟩ : ∃ ny, ny = ys.length := ⟨_, rfl⟩
        have HNY := hide hny.symm
        rw [← hny] at hcl
        rw [← hys, ← hny]
        clear hC6 hb6 hys hny
        go_wp2_with (at_builtin; go_must (refine wpList_append_lies _ rfl (.tmp 52) (.tmp 53) 22 rfl w.heap.size 5 i0 (.int .u8 0) 1 1 Tryz.underlying22 hi hz0 hz1 hz2 rfl (by decide) (.slice (some ⟨g5, 0, none⟩) 10 c5) 10 (vals (zs ++ [1])) rfl (by exact HH7.out) ⟨g7, 0, none⟩ ny c7 (vals ys) (by rfl) (by rw [vals_length, HNY.out]; omega) (by exact HN7.out) (vals_one ys) (by omega) (by unfold maxLen; omega) (by omega) (by omega) _ rfl ?_))
        intro g8 c8 w8 ho8 hg8 _ _
        have H8 := hide (Bys.app (zs := zs ++ [1]) (ys := ys) (by rw [List.length_append, HLN.out]; rfl) HNY.out H7.out.bytes HYB.out ho8)
        have HE : Hid (Below w.heap.size w w8) := HB6.out.grown hg8 (by omega) H7.out.blk
        clear ho8 hg8
        go_wp2
        go_ret
        exact ⟨_, rfl, by rw [HP.out, ← List.append_assoc]; exact H8.out, HE.out⟩
      · rw [if_neg ht] at HP
        have hnt0 : 0 < nt := by rw [HNT.out]; exact List.length_pos_iff.2 ht
        have hne : (((nt : Nat) : Int) == 0) = false := by simp; omega
        clear ht
        go_wp2_with (at_builtin; go_must (refine wpList_append_lies _ rfl (.tmp 55) (.tmp 56) 22 rfl w.heap.size 5 i0 (.int .u8 0) 1 1 Tryz.underlying22 hi hz0 hz1 hz2 rfl (by decide) (.slice ad 9 cp) 9 (vals zs) rfl (by exact HO3.out.alloc _) ⟨wr.heap.size, 0, none⟩ 1 1 (vals [2]) (by rfl) (by rfl) (by exact news_at wr (vals [2]).toArray 5) (vals_one [2]) (by omega) (by unfold maxLen; omega) (by omega) (by simp; omega) _ rfl ?_))
        intro g5 c5 w5 ho5 hg5 _ _
        have H5 := hide (Bys.app (zs := zs) (ys := [2]) HLN.out rfl HO1.out.bytes (one_bytes 2 (by omega)) ho5)
        have H6 : Hid (Below w.heap.size w w5) := HB.out.trans (Below.app HO1.out (by omega) hg5)
        have hs5 := H6.out.size
        have HC := hide (kcode_any vO one w5 (HO.out.below H6.out (Nat.le_refl _)))
        clear ho5 hg5
        go_wp2_with fail
        refine HC.out.mono ?_
        rintro e w6 ⟨v6, rfl, hC6, hb6⟩
        have H7 := hide (H5.out.below hb6)
        have HB6 : Hid (Below w.heap.size w w6) := H6.out.trans (hb6.mono hs5)
        have hs6 := hb6.size
        have hcl := codeK_len one
        have hcl2 := codeK_len two
        obtain ⟨g7, c7, hv7, -, -, -⟩ := hC6.row (by omega)
        subst hv7
        have HY := hide hC6
        have HC2 := hide (kcode_any (.slice aT two.length cT) two w6 (HT.out.below HB6.out (Nat.le_refl _)))
        rw [← HNT.out] at HC2
        clear hC6 hb6
        go_wp2_with fail
        refine HC2.out.mono ?_
        rintro e w7 ⟨v9, rfl, hC7, hb7⟩
        have H9 := hide (H7.out.below hb7)
        have HY7 := hide (HY.out.below hb7)
        have HB7 : Hid (Below w.heap.size w w7) := HB6.out.trans (hb7.mono (by omega))
        have hs7 := hb7.size
        obtain ⟨g9, c9, hv9, -, hg9a, hg9b⟩ := hC7.row (by omega)
        subst hv9
        have HX7 := hide hC7
        have HN7 := hide HY7.out.news
        have HYB := hide HY7.out.bytes
        have HH7 := hide (H9.out.at (n := 10) (by rw [List.length_append, HLN.out]; rfl))
        obtain ⟨ys, hys⟩ : ∃ ys, ys = codeK one := ⟨_, rfl⟩
        rw [← hys] at HN7 HYB HP hcl
        obtain ⟨ny, hny⟩ : ∃ ny, ny = ys.length := ⟨_, rfl⟩
        have HNY := hide hny.symm
        rw [← hny] at hcl
        rw [← hys, ← hny]
        obtain ⟨xs, hxs⟩ : ∃ xs, xs = codeK two := ⟨_, rfl⟩
        rw [← hxs] at HX7 HP hcl2
        obtain ⟨nx, hnx⟩ : ∃ nx, nx = xs.length := ⟨_, rfl⟩
        have HNX := hide hnx.symm
        rw [← hnx] at hcl2 HX7
        rw [← hxs, ← hnx]
        have hlt5 := World.ownsRow.lt H5.out.own g5 rfl
        clear hC7 hb7 hys hny hxs hnx
        go_wp2_with (at_builtin; go_must (refine wpList_append_lies _ rfl (.tmp 62) (.tmp 63) 22 rfl w.heap.size 5 i0 (.int .u8 0) 1 1 Tryz.underlying22 hi hz0 hz1 hz2 rfl (by decide) (.slice (some ⟨g5, 0, none⟩) 10 c5) 10 (vals (zs ++ [2])) rfl (by exact HH7.out) ⟨g7, 0, none⟩ ny c7 (vals ys) (by rfl) (by rw [vals_length, HNY.out]; omega) (by exact HN7.out) (vals_one ys) (by omega) (by unfold maxLen; omega) (by omega) (by omega) _ rfl ?_))
        intro g8 c8 w8 ho8 hg8 _ _
        have H8 := hide (Bys.app (zs := zs ++ [2]) (ys := ys) (by rw [List.length_append, HLN.out]; rfl) HNY.out H9.out.bytes HYB.out ho8)
        have HE : Hid (Below w.heap.size w w8) := HB7.out.grown hg8 (by omega) H9.out.blk
        have hg8s := hg8.size
        have HX8 : Hid (Bys w6.heap.size w8 (.slice (some ⟨g9, 0, none⟩) nx c9) xs) := HX7.out.keep fun b e => by
          simp [Value.ownBlock] at e
          subst e
          exact hg8.block g9 hg9b (by simp [Value.ownBlock]; omega)
        have HN8 := hide HX8.out.news
        have HH8 := hide (H8.out.at (n := 10 + ny) (by rw [List.length_append, List.length_append, HLN.out, HNY.out]; rfl))
        clear ho8 hg8
        go_wp2_with (at_builtin; go_must (refine wpList_append_lies _ rfl (.tmp 65) (.tmp 66) 22 rfl w.heap.size 5 i0 (.int .u8 0) 1 1 Tryz.underlying22 hi hz0 hz1 hz2 rfl (by decide) (.slice (some ⟨g8, 0, none⟩) (10 + ny) c8) (10 + ny) (vals (zs ++ [2] ++ ys)) rfl (by exact HH8.out) ⟨g9, 0, none⟩ nx c9 (vals xs) (by rfl) (by rw [vals_length, HNX.out]; omega) (by exact HN8.out) (vals_one xs) (by omega) (by unfold maxLen; omega) (by omega) (by omega) _ rfl ?_))
        intro ga ca wa hoa hga _ _
        rw [show zs ++ 2 :: ys = zs ++ [2] ++ ys by simp] at hoa
        have HA1 := hide (Bys.app (n := 10 + ny) (zs := zs ++ [2] ++ ys) (ys := xs) (by rw [List.length_append, List.length_append, HLN.out, HNY.out]; rfl) HNX.out H8.out.bytes HX8.out.bytes hoa)
        have HEA : Hid (Below w.heap.size w wa) := HE.out.grown hga (by omega) H8.out.blk
        clear hoa hga
        go_wp2
        go_ret
        exact ⟨_, rfl, by rw [HP.out, ← List.append_assoc, ← List.append_assoc]; exact HA1.out, HEA.out⟩
end Go.Proofs.YtnjlbgolnbdkaaaGreat
/- The keeper's config: a configuration of partitions, one window each. -/
namespace Go.Proofs.YtnjlbgolnbdkaaaGreat
open Go.RowKit

def winsK (t : Int) (k : Nat) : List Int := (List.range k).flatMap fun (i : Nat) => [(i : Int), (i : Int) * t, t]
def headK (watch : Int) (m : Nat) (t : Int) : List Int := [72, (m : Int), m * t, watch]
def bodyK (watch : Int) (ps : List (List Int)) (t : Int) : List Int := headK watch ps.length t ++ ps.flatten ++ [(ps.length : Int)] ++ winsK t ps.length ++ [0]
def configK (watch : Int) (ps : List (List Int)) (t : Int) : List Int := bodyK watch ps t ++ be4 (crcOf (bodyK watch ps t))
theorem winsK_succ (t : Int) (k : Nat) : winsK t (k + 1) = winsK t k ++ [(k : Int), k * t, t] := by simp [winsK, List.range_succ]
theorem winsK_len (t : Int) (k : Nat) : (winsK t k).length = 3 * k := by
  induction k with
  | zero => rfl
  | succ k ih => rw [winsK_succ, List.length_append, ih]; simp; omega
structure Rows2 (w : World) (v : Value) (ps : List (List Int)) : Prop where
  many : 1 ≤ ps.length ∧ ps.length ≤ 4
  each : ∀ p ∈ ps, 0 < p.length ∧ p.length ≤ 1000 ∧ Bytes p
  lies : ∃ b off c, v = .slice (some ⟨b, off, none⟩) ps.length c ∧ b < w.heap.size ∧ ∀ i, i < ps.length → ∃ g ci, w.cell? ⟨b, off + i, none⟩ = some (.slice (some ⟨g, 0, none⟩) (ps.getD i []).length ci) ∧ g < w.heap.size ∧ ∀ j u, (vals (ps.getD i []))[j]? = some u → w.cell? ((⟨g, 0, none⟩ : Addr).add j) = some u
theorem take_flatten (ps : List (List Int)) (k : Nat) (h : k < ps.length) : (ps.take (k + 1)).flatten = (ps.take k).flatten ++ ps.getD k [] := by
  rw [List.take_succ_eq_append_getElem h, List.flatten_append]
  simp [List.getD_eq_getElem?_getD, List.getElem?_eq_getElem h]
theorem flat_len_le (ps : List (List Int)) (h : ∀ p ∈ ps, p.length ≤ 1000) : ps.flatten.length ≤ 1000 * ps.length := by
  induction ps with
  | nil => simp
  | cons p ps ih =>
    rw [List.flatten_cons, List.length_append, List.length_cons]
    have := h p (by simp)
    have := ih (fun q hq => h q (by simp [hq]))
    omega

set_option maxRecDepth 100000 in
set_option maxHeartbeats 4000000 in
theorem kconfig_any (watch : Int) (vP : Value) (ps : List (List Int)) (t0 : Int) (w : World) (hw : 0 ≤ watch ∧ watch < 256) (ht : 1 ≤ t0 ∧ t0 ≤ 16) (hP : Rows2 w vP ps) :
    Calls Tryz.prog 18 #[.int .i64 watch, vP, .int .i64 t0] w fun e w' => ∃ v', e = .returned v' ∧ Bys w.heap.size w' v' (configK watch ps t0) ∧ Below w.heap.size w w' := by
  obtain ⟨i0, hi, hz0, hz1, hz2⟩ := info_parts Tryz.info5
  obtain ⟨hm, hea, b, off, c, rfl, hbl, hpc⟩ := hP
  have HEA := hide hea
  have HPC := hide hpc
  have HFL : Hid (∀ k, k ≤ ps.length → (ps.take k).flatten.length ≤ 4000) := fun k hk => by
    have := flat_len_le (ps.take k) (fun p hp => (hea p (List.mem_of_mem_take hp)).2.1)
    rw [List.length_take] at this
    omega
  obtain ⟨m, hmm⟩ : ∃ m, m = ps.length := ⟨_, rfl⟩
  have HM := hide hmm
  have HCK : Hid (configK watch ps t0 = (headK watch m t0 ++ (ps.take m).flatten ++ [(m : Int)] ++ winsK t0 m ++ [0]) ++ be4 (crcOf (headK watch m t0 ++ (ps.take m).flatten ++ [(m : Int)] ++ winsK t0 m ++ [0]))) := by
    show _ = _
    unfold configK bodyK
    rw [hmm, List.take_of_length_le (Nat.le_refl _)]
  rw [← hmm] at hm ⊢
  have hmt : 0 ≤ (m : Int) * t0 ∧ (m : Int) * t0 ≤ 64 := ⟨Int.mul_nonneg (by omega) (by omega), by
    have h1 : (m : Int) * t0 ≤ 4 * t0 := Int.mul_le_mul_of_nonneg_right (by omega) (by omega)
    omega⟩
  clear hea hpc hmm
  have HS0 : Hid (Bys w.heap.size (w.alloc (.cells #[.int .u8 72, .int .u8 (m : Nat), .int .u8 (m * t0), .int .u8 watch] 5)) (.slice (some ⟨w.heap.size, 0, none⟩) 4 4) (headK watch m t0 ++ (ps.take 0).flatten)) := by
    rw [List.take_zero, List.flatten_nil, List.append_nil]
    refine ⟨own_lit w (headK watch m t0) 4 rfl (by decide), ?_⟩
    intro z hz
    simp only [headK, List.mem_cons, List.not_mem_nil, or_false] at hz
    rcases hz with rfl | rfl | rfl | rfl <;> omega
  go_enter Tryz.func18, Tryz.ntmps18
  go_wp2_with fail
  go_loopw [7, 8] (fun v t wr => ∃ k : Nat, k ≤ m ∧ t = .int .i64 k ∧ Bys w.heap.size wr v (headK watch m t0 ++ (ps.take k).flatten) ∧ Below w.heap.size w wr) (fun _ t _ => m - (intOf t).toNat)
  case atStart => exact ⟨0, by omega, rfl, HS0.out, (Below.refl _ _).alloc (Nat.le_refl _) _⟩
  case round =>
    obtain ⟨k, hk, rfl, hown, hB⟩ := hrel
    have hws := hB.size
    obtain ⟨ad, cp, hv⟩ := hown.slice
    have hle : (headK watch m t0 ++ (ps.take k).flatten).length ≤ 4004 := by
      rw [List.length_append]
      have := HFL.out k (by have := HM.out; omega)
      simp only [headK, List.length_cons, List.length_nil]
      omega
    have hle2 : 4 ≤ (headK watch m t0 ++ (ps.take k).flatten).length := by
      rw [List.length_append]
      simp only [headK, List.length_cons, List.length_nil]
      omega
    by_cases hlt : k < m
    · obtain ⟨g, ci, hcell, hgl, hnews⟩ := HPC.out k (by have := HM.out; omega)
      have hmem : ps.getD k [] ∈ ps := by
        have hk2 : k < ps.length := by have := HM.out; omega
        rw [List.getD_eq_getElem?_getD, List.getElem?_eq_getElem hk2]
        simp
      have hy := HEA.out _ hmem
      have HYB := hide hy.2.2
      have hy1 := hy.1
      have hy2 := hy.2.1
      have HT := hide (take_flatten ps k (by have := HM.out; omega))
      have hck : wr.cell? ⟨b, off + k, none⟩ = some (.slice (some ⟨g, 0, none⟩) (ps.getD k []).length ci) := (hB.cell (p := ⟨b, off + k, none⟩) hbl).trans hcell
      have HNW : Hid (∀ j u, (vals (ps.getD k []))[j]? = some u → wr.cell? ((⟨g, 0, none⟩ : Addr).add j) = some u) := fun j u hj => by
        rw [← hnews j u hj]
        exact hB.cell (by rw [add_block]; exact hgl)
      generalize ps.getD k [] = ys at *
      obtain ⟨ny, hny⟩ : ∃ ny, ny = ys.length := ⟨_, rfl⟩
      have HNY := hide hny.symm
      rw [← hny] at hck hy1 hy2
      obtain ⟨zs, hzs⟩ : ∃ zs, zs = headK watch m t0 ++ (ps.take k).flatten := ⟨_, rfl⟩
      have HZS := hide hzs
      rw [← hzs] at hown hle hle2 hv
      obtain ⟨nz, hnz⟩ : ∃ nz, nz = zs.length := ⟨_, rfl⟩
      have HNZ := hide hnz.symm
      rw [← hnz] at hle hle2 hv
      subst hv
      have HO := hide hown
      have HO3 := hide (hown.at hnz.symm)
      have HB := hide hB
      clear hown hB hnz hzs hny hy hcell hnews hmem
      go_wp2_with (at_builtin; go_must (refine wpList_append_lies _ rfl (.tmp 27) (.tmp 31) 22 rfl w.heap.size 5 i0 (.int .u8 0) 1 1 Tryz.underlying22 hi hz0 hz1 hz2 rfl (by decide) (.slice ad nz cp) nz (vals zs) rfl (by exact HO3.out) ⟨g, 0, none⟩ ny ci (vals ys) (by rfl) (by rw [vals_length, HNY.out]; omega) (by exact HNW.out) (vals_one ys) (by omega) (by unfold maxLen; omega) (by omega) (by omega) _ rfl ?_))
      intro g5 c5 w5 ho5 hg5 _ _
      have H5 : Hid (Bys w.heap.size w5 (.slice (some ⟨g5, 0, none⟩) (nz + ny) c5) (headK watch m t0 ++ (ps.take (k + 1)).flatten)) := by
        rw [HT.out, ← List.append_assoc, ← HZS.out]
        exact Bys.app HNZ.out HNY.out HO.out.bytes HYB.out ho5
      have H6 : Hid (Below w.heap.size w w5) := HB.out.grown hg5 (by omega) HO.out.blk
      clear ho5 hg5
      go_wp2
      go_roundw
      case rel => exact ⟨k + 1, by omega, by go_num, H5.out, H6.out⟩
      case measure => simp [intOf]; omega
    · obtain rfl : k = m := by omega
      obtain ⟨zs, hzs⟩ : ∃ zs, zs = headK watch k t0 ++ (ps.take k).flatten := ⟨_, rfl⟩
      have HZS := hide hzs
      rw [← hzs] at hown hle hle2 hv HCK
      obtain ⟨nz, hnz⟩ : ∃ nz, nz = zs.length := ⟨_, rfl⟩
      have HNZ := hide hnz.symm
      rw [← hnz] at hle hle2 hv
      subst hv
      have HO := hide hown
      have HO3 := hide (hown.at hnz.symm)
      have HB := hide hB
      clear hown hB hnz hzs
      go_wp2_with (at_builtin; go_must (refine wpList_append_lies _ rfl (.tmp 33) (.tmp 37) 22 rfl w.heap.size 5 i0 (.int .u8 0) 1 1 Tryz.underlying22 hi hz0 hz1 hz2 rfl (by decide) (.slice ad nz cp) nz (vals zs) rfl (by exact HO3.out.alloc _) ⟨wr.heap.size, 0, none⟩ 1 1 (vals [(k : Int)]) (by rfl) (by rfl) (by exact news_at wr (vals [(k : Int)]).toArray 5) (vals_one _) (by omega) (by unfold maxLen; omega) (by omega) (by simp; omega) _ rfl ?_))
      intro g5 c5 w5 ho5 hg5 _ _
      have H5 := hide (Bys.app (zs := zs) (ys := [(k : Int)]) HNZ.out rfl HO.out.bytes (one_bytes k (by omega)) ho5)
      have H6 : Hid (Below w.heap.size w w5) := HB.out.trans (Below.app HO.out (by omega) hg5)
      clear ho5 hg5
      generalize wr = wX at *
      go_wp2_with fail
      go_loopw [7, 9] (fun v t wr => ∃ j : Nat, j ≤ k ∧ t = .int .i64 j ∧ Bys w.heap.size wr v (zs ++ [(k : Int)] ++ winsK t0 j) ∧ Below w.heap.size w wr) (fun _ t _ => k - (intOf t).toNat)
      case atStart => exact ⟨0, by omega, rfl, by simpa [winsK] using H5.out, H6.out⟩
      case round =>
        obtain ⟨j, hj, rfl, hown, hB⟩ := hrel
        have hws2 := hB.size
        obtain ⟨ad2, cp2, hv⟩ := hown.slice
        have HLN : Hid ((zs ++ [(k : Int)] ++ winsK t0 j).length = nz + 1 + 3 * j) := by
          show _ = _
          rw [List.length_append, List.length_append, winsK_len, HNZ.out]
          rfl
        rw [HLN.out] at hv
        subst hv
        have HO := hide hown
        have HO3 := hide (hown.at HLN.out)
        have HB := hide hB
        clear hown hB
        by_cases hjk : j < k
        · have HSU := hide (winsK_succ t0 j)
          have hjt : 0 ≤ (j : Int) * t0 ∧ (j : Int) * t0 ≤ 64 := ⟨Int.mul_nonneg (by omega) (by omega), by
            have h1 : (j : Int) * t0 ≤ 4 * t0 := Int.mul_le_mul_of_nonneg_right (by omega) (by omega)
            omega⟩
          have HYB : Hid (Bytes [(j : Int), (j : Int) * t0, t0]) := by
            intro z hz
            simp only [List.mem_cons, List.not_mem_nil, or_false] at hz
            rcases hz with rfl | rfl | rfl <;> omega
          obtain ⟨jt, hjt2⟩ : ∃ jt, jt = (j : Int) * t0 := ⟨_, rfl⟩
          rw [← hjt2] at hjt HYB HSU
          have hjt3 := hjt2.symm
          clear hjt2
          obtain ⟨xs, hxs⟩ : ∃ xs, xs = zs ++ [(k : Int)] ++ winsK t0 j := ⟨_, rfl⟩
          have HXS := hide hxs
          rw [← hxs] at HO HO3 HLN
          clear hxs
          go_wp2_with (at_builtin; go_must (refine wpList_append_lies _ rfl (.tmp 45) (.tmp 54) 22 rfl w.heap.size 5 i0 (.int .u8 0) 1 1 Tryz.underlying22 hi hz0 hz1 hz2 rfl (by decide) (.slice ad2 (nz + 1 + 3 * j) cp2) (nz + 1 + 3 * j) (vals xs) rfl (by exact HO3.out.alloc _) ⟨wr.heap.size, 0, none⟩ 3 3 (vals [(j : Int), jt, t0]) (by rfl) (by rfl) (by exact news_at wr (vals [(j : Int), jt, t0]).toArray 5) (vals_one _) (by omega) (by unfold maxLen; omega) (by omega) (by simp; omega) _ rfl ?_))
          intro g7 c7 w7 ho7 hg7 _ _
          have H7 : Hid (Bys w.heap.size w7 (.slice (some ⟨g7, 0, none⟩) (nz + 1 + 3 * j + 3) c7) (zs ++ [(k : Int)] ++ winsK t0 (j + 1))) := by
            rw [HSU.out, ← List.append_assoc, ← HXS.out]
            exact Bys.app HLN.out rfl HO.out.bytes HYB.out ho7
          have H8 : Hid (Below w.heap.size w w7) := HB.out.trans (Below.app HO.out (by omega) hg7)
          clear ho7 hg7
          go_wp2
          go_roundw
          case rel => exact ⟨j + 1, by omega, by go_num, H7.out, H8.out⟩
          case measure => simp [intOf]; omega
        · obtain rfl : j = k := by omega
          obtain ⟨xs, hxs⟩ : ∃ xs, xs = zs ++ [(j : Int)] ++ winsK t0 j := ⟨_, rfl⟩
          have HXS := hide hxs
          rw [← hxs] at HO HO3 HLN HCK
          clear hxs
          go_wp2_with (at_builtin; go_must (refine wpList_append_lies _ rfl (.tmp 56) (.tmp 57) 22 rfl w.heap.size 5 i0 (.int .u8 0) 1 1 Tryz.underlying22 hi hz0 hz1 hz2 rfl (by decide) (.slice ad2 (nz + 1 + 3 * j) cp2) (nz + 1 + 3 * j) (vals xs) rfl (by exact HO3.out.alloc _) ⟨wr.heap.size, 0, none⟩ 1 1 (vals [0]) (by rfl) (by rfl) (by exact news_at wr (vals [0]).toArray 5) (vals_one _) (by omega) (by unfold maxLen; omega) (by omega) (by simp; omega) _ rfl ?_))
          intro g7 c7 w7 ho7 hg7 _ _
          have h7 := Bys.app (zs := xs) (ys := [0]) HLN.out rfl HO.out.bytes (one_bytes 0 (by omega)) ho7
          have H8 : Hid (Below w.heap.size w w7) := HB.out.trans (Below.app HO.out (by omega) hg7)
          have hs7 := H8.out.size
          have hl7 : (xs ++ [0]).length = nz + 1 + 3 * j + 1 := by rw [List.length_append, HLN.out]; rfl
          have HSE := hide (ksealed_any w.heap.size _ (xs ++ [0]) w7 h7 (by omega) (by omega) hs7)
          clear ho7 hg7 h7 hl7
          go_wp2_with fail
          refine HSE.out.mono ?_
          rintro e w8 ⟨v8, rfl, h9, hb9⟩
          have H9 := hide h9
          have HB9 : Hid (Below w.heap.size w w8) := H8.out.trans hb9
          clear h9 hb9
          go_wp2
          go_ret
          exact ⟨v8, rfl, by rw [HCK.out]; exact H9.out, HB9.out⟩
end Go.Proofs.YtnjlbgolnbdkaaaGreat
/- What the bytes of a configuration are read as. Plain. -/
namespace Go.Proofs.YtnjlbgolnbdkaaaGreat
open Go.RowKit

def encPr (p : Pr) : List Int := [p.prio, (p.code.length : Int)] ++ p.code.flatMap fun x => [x.1, x.2]
def encPt (p : Pt) : List Int := [if p.sys = true then 1 else 0, p.words, p.limit] ++ p.acts ++ [(p.procs.length : Int)] ++ p.procs.flatMap encPr
structure PrFit (p : Pr) : Prop where
  prio : 0 ≤ p.prio ∧ p.prio ≤ 9
  many : 1 ≤ p.code.length ∧ p.code.length ≤ 20
  ins : ∀ x ∈ p.code, (0 ≤ x.1 ∧ x.1 ≤ 13) ∧ 0 ≤ x.2 ∧ x.2 ≤ if x.1 = 4 then (p.code.length : Int) - 1 else 255
structure PtFit (p : Pt) : Prop where
  words : 1 ≤ p.words ∧ p.words ≤ 16
  limit : 0 ≤ p.limit ∧ p.limit ≤ 9
  acts : p.acts.length = 6
  act : ∀ a ∈ p.acts, 1 ≤ a ∧ a ≤ 7
  last : p.acts.getD 5 0 ≠ 2 ∧ p.acts.getD 5 0 ≠ 3
  many : 1 ≤ p.procs.length ∧ p.procs.length ≤ 2
  procs : ∀ q ∈ p.procs, PrFit q
def At (zs : List Int) (i : Nat) (p : List Int) : Prop := ∃ t, zs.drop i = p ++ t
theorem At.append {zs : List Int} {i : Nat} {p q : List Int} (h : At zs i (p ++ q)) : At zs i p ∧ At zs (i + p.length) q := by
  obtain ⟨t, ht⟩ := h
  refine ⟨⟨q ++ t, by rw [ht, List.append_assoc]⟩, t, ?_⟩
  rw [← List.drop_drop, ht, List.append_assoc, List.drop_left]
theorem At.head {zs : List Int} {i : Nat} {x : Int} {p : List Int} (h : At zs i (x :: p)) : i < zs.length ∧ zs.getD i 0 = x := by
  obtain ⟨t, ht⟩ := h
  have h1 : (zs.drop i)[0]? = some x := by rw [ht]; rfl
  rw [List.getElem?_drop] at h1
  have h2 := List.getElem?_eq_some_iff.1 h1
  obtain ⟨h3, h4⟩ := h2
  refine ⟨by omega, ?_⟩
  rw [List.getD_eq_getElem?_getD]
  simp only [Nat.add_zero] at h1
  rw [h1]
  rfl
theorem At.tail {zs : List Int} {i : Nat} {x : Int} {p : List Int} (h : At zs i (x :: p)) : At zs (i + 1) p := (At.append (p := [x]) h).2
theorem rdB_at {zs : List Int} {i : Nat} {x : Int} {p : List Int} (h : At zs i (x :: p)) (lo hi pl fin : Int) (h1 : lo ≤ x) (h2 : x ≤ hi) : rdB zs lo hi ⟨i, 0, pl, fin⟩ = (x, ⟨i + 1, 0, pl, fin⟩) := by
  obtain ⟨h3, h4⟩ := h.head
  unfold rdB
  simp only
  rw [if_neg (by simp), if_neg (by omega), if_neg (by rw [h4]; omega), h4]
theorem rdTo_list {α : Type} (f : Rd → α × Rd) (l : List α) (R : Nat → Rd) (h0 : ∀ k, k ≤ l.length → (R k).err = 0) (hs : ∀ k (hk : k < l.length), f (R k) = (l[k], R (k + 1))) : rdTo f l.length (R 0) = (l, R l.length) := by
  have key : ∀ k, k ≤ l.length → rdTo f k (R 0) = (l.take k, R k) := by
    intro k
    induction k with
    | zero => intro _; rfl
    | succ k ih =>
      intro hk
      have e := ih (by omega)
      rw [rdTo_go f k (R 0) (by rw [e]; exact h0 k (by omega)), e]
      simp only
      rw [hs k (by omega), List.take_succ_eq_append_getElem (by omega)]
  have := key l.length (Nat.le_refl _)
  rwa [List.take_length] at this
theorem At.each {α : Type} {zs : List Int} {i : Nat} (enc : α → List Int) (l : List α) (h : At zs i (l.flatMap enc)) (k : Nat) (hk : k < l.length) : At zs (i + ((l.take k).flatMap enc).length) (enc l[k]) := by
  have e : l.flatMap enc = (l.take k).flatMap enc ++ (enc l[k] ++ (l.drop (k + 1)).flatMap enc) := by
    conv => lhs; rw [← List.take_append_drop k l, List.drop_eq_getElem_cons hk]
    rw [List.flatMap_append, List.flatMap_cons]
  rw [e] at h
  exact (h.append.2).append.1
theorem take_next {α : Type} (enc : α → List Int) (l : List α) (k : Nat) (hk : k < l.length) : ((l.take (k + 1)).flatMap enc).length = ((l.take k).flatMap enc).length + (enc l[k]).length := by
  rw [List.take_succ_eq_append_getElem hk, List.flatMap_append, List.length_append]
  simp
theorem rdTo_enc {α : Type} {zs : List Int} {i : Nat} (f : Rd → α × Rd) (enc : α → List Int) (l : List α) (pl fin : Int) (h : At zs i (l.flatMap enc)) (hf : ∀ x ∈ l, ∀ j, At zs j (enc x) → f ⟨j, 0, pl, fin⟩ = (x, ⟨j + (enc x).length, 0, pl, fin⟩)) : rdTo f l.length ⟨i, 0, pl, fin⟩ = (l, ⟨i + (l.flatMap enc).length, 0, pl, fin⟩) := by
  have := rdTo_list f l (fun k => ⟨i + ((l.take k).flatMap enc).length, 0, pl, fin⟩) (fun _ _ => rfl) (fun k hk => by
    rw [hf l[k] (List.getElem_mem hk) _ (At.each enc l h k hk), take_next enc l k hk, Nat.add_assoc])
  simpa using this
theorem rdIns_at {zs : List Int} {i : Nat} (n : Int) (x : Int × Int) (pl fin : Int) (h : At zs i [x.1, x.2]) (h1 : 0 ≤ x.1 ∧ x.1 ≤ 13) (h2 : 0 ≤ x.2 ∧ x.2 ≤ if x.1 = 4 then n - 1 else 255) : rdIns zs n ⟨i, 0, pl, fin⟩ = (x, ⟨i + 2, 0, pl, fin⟩) := by
  unfold rdIns
  rw [rdB_at h 0 13 pl fin h1.1 h1.2]
  simp only
  rw [rdB_at h.tail 0 _ pl fin h2.1 h2.2]
theorem rdProc_at {zs : List Int} {i : Nat} (p : Pr) (pl fin : Int) (h : At zs i (encPr p)) (hg : PrFit p) : rdProc zs ⟨i, 0, pl, fin⟩ = (p, ⟨i + (encPr p).length, 0, pl, fin⟩) := by
  have h' : At zs i (p.prio :: (p.code.length : Int) :: p.code.flatMap fun x => [x.1, x.2]) := h
  unfold rdProc
  rw [rdB_at h' 0 9 pl fin hg.prio.1 hg.prio.2]
  simp only
  rw [rdB_at h'.tail 1 20 pl fin (by have := hg.many; omega) (by have := hg.many; omega)]
  simp only [Int.toNat_natCast]
  rw [rdTo_enc (rdIns zs p.code.length) (fun x => [x.1, x.2]) p.code pl fin h'.tail.tail (fun x hx j hj => rdIns_at _ x pl fin hj (hg.ins x hx).1 (hg.ins x hx).2)]
  simp only [encPr, List.length_append, List.length_cons, List.length_nil]
  rw [show i + 1 + 1 + (p.code.flatMap fun x => [x.1, x.2]).length = i + (0 + 1 + 1 + (p.code.flatMap fun x => [x.1, x.2]).length) by omega]
theorem rdActs_next {zs : List Int} {k : Nat} {r r1 r2 : Rd} {l : List Int} {a : Int} (h : rdActs zs k r = (l, r1)) (h2 : rdAct zs k r1 = (a, r2)) : rdActs zs (k + 1) r = (l ++ [a], r2) := by
  show ((rdActs zs k r).1 ++ [(rdAct zs k (rdActs zs k r).2).1], (rdAct zs k (rdActs zs k r).2).2) = _
  rw [h]
  simp only
  rw [h2]
theorem rdAct_at {zs : List Int} {i c : Nat} {a : Int} {p : List Int} (pl fin : Int) (h : At zs i (a :: p)) (ha : 1 ≤ a ∧ a ≤ 7) (hc : c = 5 → a ≠ 2 ∧ a ≠ 3) : rdAct zs c ⟨i, 0, pl, fin⟩ = (a, ⟨i + 1, 0, pl, fin⟩) := by
  unfold rdAct
  rw [rdB_at h 1 7 pl fin ha.1 ha.2]
  simp only
  by_cases h5 : c = 5
  · obtain ⟨h2, h3⟩ := hc h5
    rw [if_pos h5]
    unfold rdNot
    simp [h2, h3]
  · rw [if_neg h5]
theorem rdActs_at {zs : List Int} {i : Nat} (l : List Int) (pl fin : Int) (h : At zs i l) (hl : l.length = 6) (ha : ∀ a ∈ l, 1 ≤ a ∧ a ≤ 7) (h5 : l.getD 5 0 ≠ 2 ∧ l.getD 5 0 ≠ 3) : rdActs zs 6 ⟨i, 0, pl, fin⟩ = (l, ⟨i + 6, 0, pl, fin⟩) := by
  match l, hl with
  | [a0, a1, a2, a3, a4, a5], _ =>
    have hr : ∀ a, a ∈ [a0, a1, a2, a3, a4, a5] → 1 ≤ a ∧ a ≤ 7 := ha
    have r0 := hr a0 (by simp)
    have r1 := hr a1 (by simp)
    have r2 := hr a2 (by simp)
    have r3 := hr a3 (by simp)
    have r4 := hr a4 (by simp)
    have r5 := hr a5 (by simp)
    simp only [List.getD_cons_succ, List.getD_cons_zero] at h5
    have e0 : rdActs zs 0 ⟨i, 0, pl, fin⟩ = ([], ⟨i, 0, pl, fin⟩) := rfl
    have e1 := rdActs_next e0 (rdAct_at pl fin h r0 (by omega))
    have e2 := rdActs_next e1 (rdAct_at pl fin h.tail r1 (by omega))
    have e3 := rdActs_next e2 (rdAct_at pl fin h.tail.tail r2 (by omega))
    have e4 := rdActs_next e3 (rdAct_at pl fin h.tail.tail.tail r3 (by omega))
    have e5 := rdActs_next e4 (rdAct_at pl fin h.tail.tail.tail.tail r4 (by omega))
    have e6 := rdActs_next e5 (rdAct_at pl fin h.tail.tail.tail.tail.tail r5 (fun _ => h5))
    exact e6
theorem rdPart_at {zs : List Int} {i : Nat} (p : Pt) (pl fin : Int) (h : At zs i (encPt p)) (hg : PtFit p) : rdPart zs ⟨i, 0, pl, fin⟩ = (p, ⟨i + (encPt p).length, 0, pl, fin⟩) := by
  obtain ⟨h1, h4⟩ := At.append h
  obtain ⟨h1, h3⟩ := At.append h1
  obtain ⟨h1, h2⟩ := At.append h1
  have hl := hg.acts
  simp only [List.length_append, List.length_cons, List.length_nil, hl] at h2 h3 h4
  obtain ⟨sys, words, limit, acts, procs⟩ := p
  simp only at *
  have hs : rdB zs 0 1 ⟨i, 0, pl, fin⟩ = (if sys = true then 1 else 0, ⟨i + 1, 0, pl, fin⟩) := rdB_at h1 0 1 pl fin (by split <;> omega) (by split <;> omega)
  unfold rdPart
  simp only [hs, rdB_at h1.tail 1 16 pl fin hg.words.1 hg.words.2, rdB_at h1.tail.tail 0 9 pl fin hg.limit.1 hg.limit.2]
  rw [rdActs_at acts pl fin h2 hl hg.act hg.last]
  simp only
  rw [rdB_at (i := i + 1 + 1 + 1 + 6) h3 1 2 pl fin (by have := hg.many; simp only at this; omega) (by have := hg.many; simp only at this; omega)]
  simp only [Int.toNat_natCast]
  rw [rdTo_enc (i := i + 1 + 1 + 1 + 6 + 1) (rdProc zs) encPr procs pl fin h4 (fun x hx j hj => rdProc_at x pl fin hj (hg.procs x hx))]
  simp only [encPt, List.length_append, List.length_cons, List.length_nil, hl]
  refine Prod.ext ?_ ?_
  · cases sys <;> rfl
  · simp only [Rd.mk.injEq]
    exact ⟨by omega, trivial, trivial, trivial⟩
def winsOf (t : Int) (n : Nat) : List Wn := (List.range n).map fun (i : Nat) => ⟨(i : Int), (i : Int) * t, t⟩
theorem rdWins_at {zs : List Int} {i : Nat} (n : Nat) (t : Int) (pl : Int) (h : At zs i (winsK t n)) (ht : 1 ≤ t) : rdTo (rdWin zs n (n * t)) n ⟨i, 0, pl, 0⟩ = (winsOf t n, ⟨i + 3 * n, 0, pl, n * t⟩) := by
  have hl : (winsOf t n).length = n := by simp [winsOf]
  have := rdTo_list (rdWin zs n (n * t)) (winsOf t n) (fun k => ⟨i + 3 * k, 0, pl, k * t⟩) (fun _ _ => rfl) (fun k hk => by
    rw [hl] at hk
    have hA : At zs (i + 3 * k) [(k : Int), (k : Int) * t, t] := by
      have := At.each (fun (i : Nat) => [(i : Int), (i : Int) * t, t]) (List.range n) h k (by simpa using hk)
      rw [List.getElem_range] at this
      have e : ((List.range n).take k).flatMap (fun (i : Nat) => [(i : Int), (i : Int) * t, t]) = winsK t k := by
        rw [List.take_range, Nat.min_eq_left (by omega)]
        rfl
      rw [e, winsK_len] at this
      exact this
    have hk1 : (k : Int) * t + t ≤ n * t := by
      have : ((k : Int) + 1) * t ≤ n * t := Int.mul_le_mul_of_nonneg_right (by omega) (by omega)
      rw [Int.add_mul, Int.one_mul] at this
      exact this
    have e1 := rdB_at hA 0 ((n : Int) - 1) pl (k * t) (by omega) (by omega)
    have e2 := rdB_at hA.tail (k * t) ((n : Int) * t - 1) pl (k * t) (Int.le_refl _) (by omega)
    have e3 := rdB_at hA.tail.tail 1 ((n : Int) * t - k * t) pl (k * t) ht (by omega)
    unfold rdWin
    simp only [e1, e2, e3]
    refine Prod.ext ?_ ?_
    · simp [winsOf]
    · simp only [Rd.mk.injEq]
      refine ⟨by omega, trivial, trivial, ?_⟩
      rw [Int.natCast_succ, Int.add_mul, Int.one_mul])
  rw [hl] at this
  simpa using this
theorem numFrom_at (zs : List Int) (i n : Nat) (h : zs.drop i = be4 n) (hn : n < 4294967296) : numFrom 0 ((zs.drop i).take 4) = n := by
  rw [h]
  exact numFrom_be4 n hn
theorem parse_config (watch : Int) (pts : List Pt) (t : Int) (hw : 0 ≤ watch ∧ watch ≤ 200) (ht : 1 ≤ t) (hn : 1 ≤ pts.length ∧ pts.length ≤ 4) (hf : (pts.length : Int) * t ≤ 64) (hg : ∀ p ∈ pts, PtFit p) :
    parseOf (configK watch (pts.map encPt) t) = (⟨pts.length * t, watch, pts, winsOf t pts.length, []⟩, 0, 0) := by
  have hft : 1 ≤ (pts.length : Int) * t := by
    have : (1 : Int) * 1 ≤ pts.length * t := Int.mul_le_mul (by omega) ht (by omega) (by omega)
    omega
  obtain ⟨zs, hzs⟩ : ∃ zs, zs = configK watch (pts.map encPt) t := ⟨_, rfl⟩
  obtain ⟨bd, hbd⟩ : ∃ bd, bd = bodyK watch (pts.map encPt) t := ⟨_, rfl⟩
  have hz : zs = bd ++ be4 (crcOf bd) := by rw [hzs, hbd]; rfl
  have hb : bd = (72 :: (pts.length : Int) :: (pts.length * t : Int) :: watch :: pts.flatMap encPt) ++ ([(pts.length : Int)] ++ winsK t pts.length) ++ [0] := by
    rw [hbd]
    unfold bodyK headK
    rw [List.length_map, List.flatMap_def]
    simp
  have hA : At zs 0 bd := ⟨be4 (crcOf bd), by rw [hz]; rfl⟩
  have hlen : bd.length = 4 + (pts.flatMap encPt).length + 1 + 3 * pts.length + 1 := by
    rw [hb]
    simp only [List.length_append, List.length_cons, List.length_nil, winsK_len]
    omega
  have hA0 := hA
  rw [hb] at hA0
  obtain ⟨h1, h3⟩ := At.append hA0
  obtain ⟨h1, h2⟩ := At.append h1
  simp only [List.length_append, List.length_cons, List.length_nil, winsK_len] at h2 h3
  have hr : rdConf zs = (⟨pts.length * t, watch, pts, winsOf t pts.length, []⟩, ⟨bd.length, 0, 0, pts.length * t⟩) := by
    unfold rdConf
    simp only [rdB_at h1 72 72 0 0 (Int.le_refl _) (Int.le_refl _), rdB_at h1.tail 1 4 0 0 (by omega) (by omega), rdB_at h1.tail.tail 1 64 0 0 hft hf, rdB_at h1.tail.tail.tail 0 200 0 0 hw.1 hw.2, Int.toNat_natCast]
    rw [rdTo_enc (rdPart zs) encPt pts 0 0 h1.tail.tail.tail.tail (fun x hx j hj => rdPart_at x 0 0 hj (hg x hx))]
    simp only
    have e0 : 0 + 1 + 1 + 1 + 1 + (pts.flatMap encPt).length = 0 + ((pts.flatMap encPt).length + 1 + 1 + 1 + 1) := by omega
    rw [e0, rdB_at h2 1 8 0 0 (by omega) (by omega)]
    simp only [Int.toNat_natCast]
    rw [rdWins_at pts.length t 0 h2.tail ht]
    simp only
    have e1 : 0 + ((pts.flatMap encPt).length + 1 + 1 + 1 + 1) + 1 + 3 * pts.length = 0 + ((pts.flatMap encPt).length + 1 + 1 + 1 + 1 + (0 + 1 + 3 * pts.length)) := by omega
    rw [e1, rdB_at h3 0 4 0 _ (by omega) (by omega)]
    simp only [Int.toNat_zero, rdTo]
    rw [hlen]
    refine Prod.ext rfl ?_
    simp only [Rd.mk.injEq]
    exact ⟨by omega, trivial, trivial, trivial⟩
  have hzl : zs.length = bd.length + 4 := by rw [hz, List.length_append]; rfl
  have hd : zs.drop bd.length = be4 (crcOf bd) := by rw [hz, List.drop_left]
  have htk : zs.take bd.length = bd := by rw [hz, List.take_left]
  rw [← hzs]
  unfold parseOf
  simp only [hr]
  rw [if_neg (by simp), if_neg (by omega), htk, numFrom_at zs _ _ hd (crcOf_lt _), if_neg (by simp), if_neg (by omega)]
end Go.Proofs.YtnjlbgolnbdkaaaGreat
/- Ticks at which nothing is late; the window that is on. Plain. -/
namespace Go.Proofs.YtnjlbgolnbdkaaaGreat
open Go.RowKit

theorem loopB_id {S : Type} (f : Nat → S → Bool × S) (n : Nat) (s : S) (h : ∀ k, k < n → f k s = (true, s)) : loopB f n s = (true, s) := by
  induction n with
  | zero => rfl
  | succ n ih =>
    show andB (loopB f n s) (f n) = _
    rw [ih (fun k hk => h k (by omega)), andB_yes, h n (by omega)]
theorem lateS_quiet (s : SF) (i n : Nat) (h : (s.1.part i).mode = 3 ∨ (s.1.proc i n).stopped = true ∨ (s.1.proc i n).dl < 0 ∨ s.1.now < (s.1.proc i n).dl) : lateS i n s = (true, s) := if_pos h
theorem deadS_quiet (s : SF) (h : ∀ i n, i < s.1.parts.length → n < (s.1.part i).procs.length → (s.1.part i).mode = 3 ∨ (s.1.proc i n).stopped = true ∨ (s.1.proc i n).dl < 0 ∨ s.1.now < (s.1.proc i n).dl) : deadS s = (true, s) :=
  loopB_id _ _ _ fun i hi => loopB_id _ _ _ fun n hn => lateS_quiet s i n (h i n hi hn)
theorem watchesS_off (s : SF) (h : s.1.cf.watch = 0) : watchesS s = (true, s) := if_pos h
theorem watchesS_quiet (s : SF) (h : ∀ i, i < s.1.parts.length → (s.1.part i).mode = 3 ∨ s.1.now - (s.1.part i).watch < s.1.cf.watch) : watchesS s = (true, s) := by
  unfold watchesS
  split
  · rfl
  · exact loopB_id _ _ _ fun i hi => if_pos (h i hi)
def later (s : SF) : SF := ({ s.1 with now := s.1.now + 1 }, s.2)
theorem tickS_of {s s1 s2 s3 : SF} (h1 : deadS s = (true, s1)) (h2 : watchesS s1 = (true, s2)) (h3 : winS s2 = (true, s3)) : tickS s = (true, later s3) := by
  unfold tickS tick1
  rw [h1, andB_yes, h2, andB_yes, h3, andB_yes]
  rfl
theorem ticksTo_next (n : Nat) (s : SF) : ticksTo (n + 1) s = andB (ticksTo n s) tickS := rfl
theorem ticksTo_keep (P : Nat → SF → Prop) (s : SF) (k n : Nat) (h0 : P k s) (hs : ∀ j s, j < k + n → P j s → ∃ s', tickS s = (true, s') ∧ P (j + 1) s') : ∃ s', ticksTo n s = (true, s') ∧ P (k + n) s' := by
  induction n with
  | zero => exact ⟨s, rfl, h0⟩
  | succ n ih =>
    obtain ⟨s1, h1, h2⟩ := ih (fun j s hj => hs j s (by omega))
    obtain ⟨s2, h3, h4⟩ := hs (k + n) s1 (by omega) h2
    exact ⟨s2, by rw [ticksTo_next, h1, andB_yes, h3], h4⟩
theorem doneTo_all (s : SF) (n : Nat) (h : (ticksTo n s).1 = true) : doneTo s n = n := by
  cases n with
  | zero => rfl
  | succ n => exact if_pos h
theorem tickCall_all (s s' : SF) (n : Nat) (hn : n ≤ 1000) (hd : s.1.dead = false) (h : ticksTo n s = (true, s')) (hd' : s'.1.dead = false) : tickCall n s = (((n : Int), (0 : Int)), s') := by
  unfold tickCall
  rw [if_neg (by omega), if_neg (by rw [hd]; simp), Int.toNat_natCast, h, doneTo_all s n (by rw [h])]
  simp only [if_true, withDead, Bool.not_true]
  obtain ⟨⟨a, b, c, d, e⟩, f⟩ := s'
  simp only at hd'
  subst hd'
  rfl
theorem range_find (n : Nat) (p : Nat → Bool) (q : Nat) (hq : q < n) (h1 : p q = true) (h2 : ∀ k, k < q → p k = false) : (List.range n).find? p = some q := by
  rw [List.find?_range_eq_some]
  exact ⟨h1, by simpa using hq, fun j hj => by simp [h2 j hj]⟩
theorem wins_find (n : Nat) (t : Nat) (now : Nat) (ht : 0 < t) (hn : 0 < n) : (winsOf t n).find? (inWin now (n * t)) = some ⟨((now % (n * t) / t : Nat) : Int), ((now % (n * t) / t : Nat) : Int) * t, t⟩ := by
  have hx : now % (n * t) < n * t := Nat.mod_lt _ (Nat.mul_pos hn ht)
  have hm : ((now : Nat) : Int) % ((n : Int) * t) = ((now % (n * t) : Nat) : Int) := by
    rw [← Int.natCast_mul, ← Int.natCast_emod]
  generalize now % (n * t) = x at *
  have hq : x / t < n := (Nat.div_lt_iff_lt_mul ht).2 hx
  unfold winsOf
  rw [List.find?_map, range_find n _ (x / t) hq]
  · rfl
  · simp only [Function.comp, inWin, hm, decide_eq_true_eq]
    have h1 : x / t * t ≤ x := Nat.div_mul_le_self x t
    have h2 : x < x / t * t + t := by
      have := Nat.lt_mul_div_succ x ht
      rw [Nat.mul_add, Nat.mul_one, Nat.mul_comm] at this
      exact this
    constructor
    · exact_mod_cast h1
    · exact_mod_cast h2
  · intro k hk
    simp only [Function.comp, inWin, hm, decide_eq_false_iff_not]
    have h1 : (k + 1) * t ≤ x := Nat.le_trans (Nat.mul_le_mul_right t hk) (Nat.div_mul_le_self x t)
    rw [Nat.add_mul, Nat.one_mul] at h1
    have h2 : (k : Int) * t + t ≤ x := by exact_mod_cast h1
    omega
theorem winS_of (s : SF) (n t now : Nat) (hw : s.1.cf.wins = winsOf t n) (hf : s.1.cf.frame = n * t) (hnow : s.1.now = now) (ht : 0 < t) (hn : 0 < n) : winS s = turnS (now % (n * t) / t) s := by
  unfold winS
  rw [hw, hf, hnow, wins_find n t now ht hn]
  simp only [Int.toNat_natCast]
structure Live (F : Fl) : Prop where
  left : F.left = -1
  dead : F.dead = false
theorem Live.prog {F : Fl} (h : Live F) (a : Nat) (v : Int) : (F.prog a v).1 = true ∧ Live (F.prog a v).2 := by
  unfold Fl.prog
  rw [if_neg (by rw [h.dead]; simp), if_neg (by rw [h.left]; decide)]
  refine ⟨rfl, ⟨?_, h.dead⟩⟩
  show (if 0 < F.left then F.left - 1 else F.left) = -1
  rw [h.left]
  rfl
theorem Live.erase {F : Fl} (h : Live F) (s : Nat) : (F.erase s).1 = true ∧ Live (F.erase s).2 := by
  unfold Fl.erase
  generalize eraTo (fun x => bor8 x F.res) (128 * s) F.bs 128 = A
  generalize eraTo (fun _ => 255) (128 * s) F.bs 128 = B
  rw [if_neg (by rw [h.dead]; simp), if_neg (by rw [h.left]; decide)]
  refine ⟨rfl, ⟨?_, h.dead⟩⟩
  show (if 0 < F.left then F.left - 1 else F.left) = -1
  rw [h.left]
  rfl
theorem andB_live {r : Bool × Fl} {f : Fl → Bool × Fl} (h : r.1 = true ∧ Live r.2) (hf : ∀ F, Live F → (f F).1 = true ∧ Live (f F).2) : (andB r f).1 = true ∧ Live (andB r f).2 := by
  unfold andB
  rw [if_pos h.1]
  exact hf _ h.2
theorem loopB_live (f : Nat → Fl → Bool × Fl) (hf : ∀ k F, Live F → (f k F).1 = true ∧ Live (f k F).2) (n : Nat) (F : Fl) (h : Live F) : (loopB f n F).1 = true ∧ Live (loopB f n F).2 := by
  induction n with
  | zero => exact ⟨rfl, h⟩
  | succ n ih => exact andB_live ih (hf n)
theorem Live.lay {F : Fl} (h : Live F) (a : Nat) (sl : List Int) : (F.lay a sl).1 = true ∧ Live (F.lay a sl).2 :=
  andB_live (loopB_live _ (fun _ _ hF => hF.prog _ _) 15 F h) (fun _ hF => hF.prog _ _)
theorem Live.app {F : Fl} (h : Live F) (part code act : Int) : (F.app part code act).1 = true ∧ Live (F.app part code act).2 := by
  unfold Fl.app
  split
  · exact h.lay _ _
  · exact andB_live (h.erase _) fun _ h1 => andB_live (h1.lay _ _) fun _ h2 => h2.lay _ _
theorem faultS_live (i n code : Nat) (s : SF) (h : Live s.2) : faultS i n code s = (true, s.1.act i n (actionOf s.1 s.2.bs i code), (s.2.app i code (actionOf s.1 s.2.bs i code)).2) := if_pos (h.app _ _ _).1
end Go.Proofs.YtnjlbgolnbdkaaaGreat
/- The flash: NewFlash. -/
namespace Go.Proofs.YtnjlbgolnbdkaaaGreat
open Go.RowKit
attribute [-go_sem] Instr.build

theorem build80 (W : World) : (Instr.build 80 #[(1, .int .i64 (-1))]).run Tryz.prog W = .ok (.agg (flashCells (List.replicate 256 0) (-1) 0 false 0).toArray) W := by kernel_rfl
def fillTo (zs : List Int) : List Int := (List.range 256).map fun i => if i < zs.length then zs.getD i 0 else 255
def fillK (zs : List Int) (k : Nat) : List Int := (List.range 256).map fun i => if i < k then (if i < zs.length then zs.getD i 0 else 255) else 0
theorem fillK_length (zs : List Int) (k : Nat) : (fillK zs k).length = 256 := by simp [fillK]
theorem fillK_all (zs : List Int) : fillK zs 256 = fillTo zs := by
  unfold fillK fillTo
  apply List.map_congr_left
  intro i hi
  rw [if_pos (by simpa using hi)]
theorem map_zero (n : Nat) (f : Nat → Int) (h : ∀ i, f i = 0) : (List.range n).map f = List.replicate n 0 := by
  induction n with
  | zero => rfl
  | succ n ih => rw [List.range_succ, List.map_append, ih, List.replicate_succ', List.map_singleton, h n]
theorem fillK_zero (zs : List Int) : fillK zs 0 = List.replicate 256 0 := map_zero 256 _ (fun i => if_neg (by omega))
theorem fillK_set (zs : List Int) (k : Nat) (z : Int) (hk : k < 256) (hz : z = if k < zs.length then zs.getD k 0 else 255) : (fillK zs k).set k z = fillK zs (k + 1) := by
  unfold fillK
  apply List.ext_getElem?
  intro i
  by_cases h : i < 256
  · rw [List.getElem?_set]
    by_cases hi : k = i
    · subst hi
      simp [hk, hz]
    · rw [if_neg hi]
      simp only [List.getElem?_map, List.getElem?_range h, Option.map_some]
      have e : (i < k) ↔ (i < k + 1) := by omega
      simp only [e]
  · rw [List.getElem?_eq_none (by simp; omega), List.getElem?_eq_none (by simp; omega)]
theorem fillK_bytes (zs : List Int) (hz : Bytes zs) (k : Nat) : Bytes (fillK zs k) := by
  intro z h
  obtain ⟨i, _, rfl⟩ := List.mem_map.1 h
  have := hz.getD i
  split
  · split <;> omega
  · omega
theorem flash_set (bs : List Int) (left res : Int) (dead : Bool) (done : Int) (k : Nat) (z : Int) (hk : k < bs.length) : (flashCells bs left res dead done).toArray.setIfInBounds k (.int .u8 z) = (flashCells (bs.set k z) left res dead done).toArray := by
  apply Array.ext'
  rw [Array.toList_setIfInBounds]
  show (vals bs ++ _).set k _ = vals (bs.set k z) ++ _
  rw [List.set_append_left _ _ (by rw [vals_length]; exact hk)]
  congr 1
  unfold vals
  rw [List.map_set]
theorem FlashAt.put {w : World} {g : Nat} {bs : List Int} {left res : Int} {dead : Bool} {done : Int} (h : FlashAt w g bs left res dead done) (k : Nat) (z : Int) (hk : k < 256) (hz : 0 ≤ z ∧ z < 256) : FlashAt (w.setCell ⟨g, k, none⟩ (.int .u8 z)) g (bs.set k z) left res dead done := by
  refine ⟨?_, by rw [List.length_set]; exact h.len, fun y hy => ?_⟩
  · rw [block_set h.blk k _, flash_set _ _ _ _ _ _ _ (by rw [h.len]; exact hk)]
  · rcases List.mem_or_eq_of_mem_set hy with h1 | rfl
    · exact h.bytes y h1
    · exact hz
set_option maxRecDepth 100000 in
set_option maxHeartbeats 4000000 in
theorem newFlash_any (ao : Option Addr) (n cap : Nat) (zs : List Int) (w : World) (hz : Held w ao n cap zs) (hn : n ≤ 140737488351232) :
    Calls Tryz.prog 13 #[.slice ao n cap] w fun e w' => ∃ g, e = .returned (.pointer (some ⟨g, 0, none⟩)) ∧ w.heap.size ≤ g ∧ FlashAt w' g (fillTo zs) (-1) 0 false 0 ∧ Below w.heap.size w w' := by
  have hbd := build80
  obtain ⟨M, hM⟩ : ∃ M, M = (flashCells (List.replicate 256 0) (-1) 0 false 0).toArray := ⟨_, rfl⟩
  rw [← hM] at hbd
  have HM := hide hM
  have HZ := hide hz
  have hlen := hz.len
  clear hM hz
  go_enter Tryz.func13, Tryz.ntmps13
  go_wp2_with fail
  go_loopw [7] (fun t wr => ∃ k : Nat, k ≤ 256 ∧ t = .int .i64 k ∧ FlashAt wr w.heap.size (fillK zs k) (-1) 0 false 0 ∧ Below w.heap.size w wr) (fun t _ => 256 - (intOf t).toNat)
  case atStart =>
    refine ⟨0, by omega, rfl, ⟨?_, fillK_length zs 0, fillK_bytes zs HZ.out.bytes 0⟩, (Below.refl _ _).alloc (Nat.le_refl _) _⟩
    rw [fillK_zero, ← HM.out]
    exact heap_at rfl
  case round =>
    obtain ⟨k, hk, rfl, hF, hB⟩ := hrel
    by_cases hlt : k < 256
    · have c0 := hF.byte k hlt
      have ff := free_of_block hF.blk k
      have hsz := hF.lt
      generalize (fillK zs k).getD k 0 = u at c0
      by_cases hkn : k < n
      · obtain ⟨b, off, hao, hrow⟩ := held_row HZ.out (by omega)
        subst hao
        have hbl := HZ.out.lt _ rfl (by omega)
        have c1 : wr.cell? ⟨b, off + k, none⟩ = some (.int .u8 (zs.getD k 0)) := (hB.cell (p := ⟨b, off + k, none⟩) hbl).trans (hrow k (by omega))
        have hzb := HZ.out.bytes.getD k
        have hne : ¬ b = w.heap.size := by simp at hbl; omega
        have HEND : Hid (FlashAt ((wr.setCell ⟨w.heap.size, k, none⟩ (.int .u8 255)).setCell ⟨w.heap.size, k, none⟩ (.int .u8 (zs.getD k 0))) w.heap.size (fillK zs (k + 1)) (-1) 0 false 0 ∧ Below w.heap.size w ((wr.setCell ⟨w.heap.size, k, none⟩ (.int .u8 255)).setCell ⟨w.heap.size, k, none⟩ (.int .u8 (zs.getD k 0)))) := by
          have h1 := (hF.put k 255 hlt (by omega)).put k (zs.getD k 0) hlt hzb
          rw [List.set_set, fillK_set zs k _ hlt (by rw [if_pos (by omega)])] at h1
          exact ⟨h1, Below.thenSet (Below.thenSet hB (Nat.le_refl _) _ _) (Nat.le_refl _) _ _⟩
        clear hF hB hrow
        generalize zs.getD k 0 = z at c1 hzb HEND
        go_wp2_with fail
        go_region
        all_goals
          go_wp2
          go_roundw
          case rel => exact ⟨k + 1, by omega, by go_num, HEND.out.1.keep rfl, HEND.out.2.trans ⟨rfl, rfl, rfl, Nat.le_refl _, fun _ _ => rfl⟩⟩
          case measure => simp [intOf]; omega
      · have HEND : Hid (FlashAt (wr.setCell ⟨w.heap.size, k, none⟩ (.int .u8 255)) w.heap.size (fillK zs (k + 1)) (-1) 0 false 0 ∧ Below w.heap.size w (wr.setCell ⟨w.heap.size, k, none⟩ (.int .u8 255))) := by
          have h1 := hF.put k 255 hlt (by omega)
          rw [fillK_set zs k _ hlt (by rw [if_neg (by omega)])] at h1
          exact ⟨h1, Below.thenSet hB (Nat.le_refl _) _ _⟩
        clear hF hB
        go_wp2
        go_roundw
        case rel => exact ⟨k + 1, by omega, by go_num, HEND.out.1, HEND.out.2⟩
        case measure => simp [intOf]; omega
    · obtain rfl : k = 256 := by omega
      rw [fillK_all] at hF
      have HF := hide hF
      have HB := hide hB
      clear hF hB
      go_wp2
      go_ret
      exact ⟨_, rfl, Nat.le_refl _, HF.out, HB.out⟩
end Go.Proofs.YtnjlbgolnbdkaaaGreat
/- The program's machine in memory: what a store into one of its cells makes of it. -/
namespace Go.Proofs.YtnjlbgolnbdkaaaGreat
open Go.RowKit

section
variable {st : RSt} {i j n : Nat} {p : RPart}
theorem RSt.part_set (h : i < st.parts.length) : (st.setPart i p).part i = p := by
  simp [RSt.part, RSt.setPart, List.getD_eq_getElem?_getD, h]
theorem RSt.part_other (h : i ≠ j) : (st.setPart i p).part j = st.part j := by
  simp [RSt.part, RSt.setPart, List.getD_eq_getElem?_getD, List.getElem?_set_ne h]
theorem RSt.setPart_self (st : RSt) (i : Nat) : st.setPart i (st.part i) = st := by
  unfold RSt.setPart RSt.part
  rw [List.getD_eq_getElem?_getD]
  by_cases h : i < st.parts.length
  · rw [List.getElem?_eq_getElem h]
    simp
  · rw [List.set_eq_of_length_le (by omega)]
theorem RSt.setPart_set (st : RSt) (i : Nat) (p q : RPart) : (st.setPart i p).setPart i q = st.setPart i q := by simp [RSt.setPart]
theorem RSt.setPart_len (st : RSt) (i : Nat) (p : RPart) : (st.setPart i p).parts.length = st.parts.length := by simp [RSt.setPart]
end
theorem ne_of_types {w : World} {a b : Nat} {c d : Array Value} {s t : TypeId} (ha : w.heap[a]? = some (.cells c s (0, 0))) (hb : w.heap[b]? = some (.cells d t (0, 0))) (h : s ≠ t) : a ≠ b := by
  rintro rfl
  rw [ha] at hb
  simp at hb
  exact h hb.2
theorem ne_of_chan {w : World} {a b : Nat} {c d : Array Value} {s : TypeId} {n r q : Nat} {x y : Bool} (ha : w.heap[a]? = some (.cells c s (0, 0))) (hb : w.heap[b]? = some (.chan n d x r q y)) : a ≠ b := by
  rintro rfl
  rw [ha] at hb
  simp at hb
theorem MachAt.parts' {w w' : World} {L : MLay} {g : Nat} {st : RSt} (h : MachAt w L g st) (ht : Touch (· = L.pb) w w') (ps : List RPart) (hl : ps.length = st.parts.length)
    (hp : w'.heap[L.pb]? = some (.cells (rowsL ps.length fun i => mpartCells L i (st.cf.parts.getD i default) (ps.getD i default)).toArray 120 (0, 0)))
    (hw : ∀ i, i < st.parts.length → (ps.getD i default).words = (st.parts.getD i default).words) (hq : ∀ i, i < st.parts.length → (ps.getD i default).procs = (st.parts.getD i default).procs) : MachAt w' L g { st with parts := ps } := by
  have keep : ∀ b, b < w.heap.size → L.pb ≠ b → w'.heap[b]? = w.heap[b]? := fun b h1 h2 => ht.block b h1 (fun e => h2 e.symm)
  have kc : ∀ {b : Nat} {c : Array Value} {s : TypeId}, w.heap[b]? = some (.cells c s (0, 0)) → (120 : TypeId) ≠ s → w'.heap[b]? = some (.cells c s (0, 0)) := fun hb hs => (keep _ (lt_of_block hb) (ne_of_types h.parts hb hs)).trans hb
  refine ⟨?_, ?_, fun i hi => ?_, fun i hi => ?_, fun i hi => ?_, kc h.wins (by decide), kc h.chans (by decide), fun j hj => ?_, fun i k hi hk => ?_⟩
  · rw [kc h.mach (by decide)]
    simp only [machObj, hl]
  · exact hp
  · simp only [hl] at hi ⊢
    rw [hw i hi]
    exact kc (h.words i hi) (by decide)
  · simp only [hl] at hi ⊢
    rw [hq i hi]
    exact kc (h.procs i hi) (by decide)
  · simp only [hl] at hi ⊢
    rw [hq i hi]
    exact kc (h.turns i hi) (by decide)
  · obtain ⟨s, r, hc⟩ := h.queue j hj
    exact ⟨s, r, (keep _ (lt_of_block hc) (ne_of_chan h.parts hc)).trans hc⟩
  · simp only [hl] at hi hk ⊢
    rw [hq i hi] at hk
    refine own_keep (h.code i k hi hk) (fun b e => ?_)
    obtain ⟨cur, hc⟩ := own_of (h.code i k hi hk) e
    exact keep b (lt_of_block hc) (ne_of_types h.parts hc (by decide))
theorem MachAt.partCell {w : World} {L : MLay} {g : Nat} {st : RSt} (h : MachAt w L g st) (i k : Nat) (v : Value) (p : RPart) (hi : i < st.parts.length) (hk : k < 14)
    (hc : (mpartCells L i (st.cf.parts.getD i default) (st.part i)).set k v = mpartCells L i (st.cf.parts.getD i default) p) (hw : p.words = (st.part i).words) (hq : p.procs = (st.part i).procs) :
    MachAt (w.setCell ⟨L.pb, i * 14 + k, none⟩ v) L g (st.setPart i p) := by
  have hget : ∀ j, (st.parts.set i p).getD j default = if j = i then p else st.parts.getD j default := fun j => by
    simp only [List.getD_eq_getElem?_getD]
    by_cases e : j = i
    · subst e; rw [if_pos rfl, List.getElem?_set_self hi]; rfl
    · rw [if_neg e, List.getElem?_set_ne (fun h => e h.symm)]
  refine h.parts' (Touch.ofSet w L.pb _ v rfl) (st.parts.set i p) (by simp) ?_ (fun j hj => ?_) (fun j hj => ?_)
  · rw [block_set h.parts _ _]
    congr 2
    apply Array.ext'
    rw [Array.toList_setIfInBounds]
    show (rowsL _ _).set _ _ = rowsL _ _
    rw [rowsL_set st.parts.length 14 _ (fun j _ => rfl) i k v hi hk, List.length_set]
    refine rowsL_congr _ _ _ (fun j hj => ?_)
    rw [hget j]
    by_cases e : j = i
    · subst e
      simp only [if_true]
      exact hc
    · simp only [if_neg e]
  · rw [hget j]
    by_cases e : j = i
    · subst e; simp only [if_true]; exact hw
    · simp only [if_neg e]
  · rw [hget j]
    by_cases e : j = i
    · subst e; simp only [if_true]; exact hq
    · simp only [if_neg e]
theorem MachAt.setMode {w : World} {L : MLay} {g : Nat} {st : RSt} (h : MachAt w L g st) (i : Nat) (m : Int) (hi : i < st.parts.length) : MachAt (w.setCell ⟨L.pb, i * 14 + 9, none⟩ (.int .i64 m)) L g (st.setPart i { st.part i with mode := m }) :=
  h.partCell i 9 _ _ hi (by omega) rfl rfl rfl
theorem MachAt.setWatch {w : World} {L : MLay} {g : Nat} {st : RSt} (h : MachAt w L g st) (i : Nat) (m : Int) (hi : i < st.parts.length) : MachAt (w.setCell ⟨L.pb, i * 14 + 13, none⟩ (.int .i64 m)) L g (st.setPart i { st.part i with watch := m }) :=
  h.partCell i 13 _ _ hi (by omega) rfl rfl rfl
theorem MachAt.procs' {w w' : World} {L : MLay} {g : Nat} {st : RSt} (h : MachAt w L g st) (hL : LayOk L st.parts.length st.cf.chans.length) (i : Nat) (hi : i < st.parts.length) (ht : Touch (· = L.pr i) w w') (xs : List RProc) (hl : xs.length = (st.part i).procs.length)
    (hp : w'.heap[L.pr i]? = some (.cells (rowsL xs.length fun k => mprocCells (L.code i k) (xs.getD k default)).toArray 166 (0, 0))) : MachAt w' L g (st.setPart i { st.part i with procs := xs }) := by
  have keep : ∀ b, b < w.heap.size → L.pr i ≠ b → w'.heap[b]? = w.heap[b]? := fun b h1 h2 => ht.block b h1 (fun e => h2 e.symm)
  have kc : ∀ {b : Nat} {c : Array Value} {s : TypeId}, w.heap[b]? = some (.cells c s (0, 0)) → (166 : TypeId) ≠ s → w'.heap[b]? = some (.cells c s (0, 0)) := fun hb hs => (keep _ (lt_of_block hb) (ne_of_types (h.procs i hi) hb hs)).trans hb
  have hget : ∀ j, (st.parts.set i { st.part i with procs := xs }).getD j default = if j = i then { st.part i with procs := xs } else st.parts.getD j default := fun j => by
    simp only [List.getD_eq_getElem?_getD]
    by_cases e : j = i
    · subst e; rw [if_pos rfl, List.getElem?_set_self hi]; rfl
    · rw [if_neg e, List.getElem?_set_ne (fun h => e h.symm)]
  have hgw : ∀ j, ((st.parts.set i { st.part i with procs := xs }).getD j default).words = (st.parts.getD j default).words := fun j => by
    rw [hget j]; split
    · rename_i e; subst e; rfl
    · rfl
  have hgl : ∀ j, ((st.parts.set i { st.part i with procs := xs }).getD j default).procs.length = (st.parts.getD j default).procs.length := fun j => by
    rw [hget j]; split
    · rename_i e; subst e; exact hl
    · rfl
  unfold RSt.setPart
  refine ⟨?_, ?_, fun j hj => ?_, fun j hj => ?_, fun j hj => ?_, kc h.wins (by decide), kc h.chans (by decide), fun j hj => ?_, fun j k hj hk => ?_⟩
  · rw [kc h.mach (by decide)]
    simp only [machObj, List.length_set]
  · simp only [List.length_set]
    rw [kc h.parts (by decide)]
    congr 3
    refine rowsL_congr _ _ _ (fun j hj => ?_)
    rw [hget j]
    split
    · rename_i e; subst e; simp only [mpartC, hl]; rfl
    · rfl
  · simp only [List.length_set] at hj ⊢
    rw [hgw j]
    exact kc (h.words j hj) (by decide)
  · simp only [List.length_set] at hj ⊢
    rw [hget j]
    by_cases e : j = i
    · subst e; simp only [if_true]; exact hp
    · simp only [if_neg e]
      rw [keep _ (lt_of_block (h.procs j hj)) (fun he => e (hL.prpr i j hi hj he).symm)]
      exact h.procs j hj
  · simp only [List.length_set] at hj ⊢
    rw [hgl j]
    exact kc (h.turns j hj) (by decide)
  · obtain ⟨s, r, hc⟩ := h.queue j hj
    exact ⟨s, r, (keep _ (lt_of_block hc) (ne_of_chan (h.procs i hi) hc)).trans hc⟩
  · simp only [List.length_set] at hj ⊢
    rw [hgl j] at hk
    refine own_keep (h.code j k hj hk) (fun b e => ?_)
    obtain ⟨cur, hc⟩ := own_of (h.code j k hj hk) e
    exact keep b (lt_of_block hc) (ne_of_types (h.procs i hi) hc (by decide))
theorem MachAt.procCell {w : World} {L : MLay} {g : Nat} {st : RSt} (h : MachAt w L g st) (hL : LayOk L st.parts.length st.cf.chans.length) (i n k : Nat) (v : Value) (x : RProc) (hi : i < st.parts.length) (hn : n < (st.part i).procs.length) (hk : k < 6)
    (hc : (mprocCells (L.code i n) (st.proc i n)).set k v = mprocCells (L.code i n) x) : MachAt (w.setCell ⟨L.pr i, n * 6 + k, none⟩ v) L g (st.setProc i n x) := by
  refine h.procs' hL i hi (Touch.ofSet w _ _ v rfl) ((st.part i).procs.set n x) (by simp) ?_
  rw [block_set (h.procs i hi) _ _]
  congr 2
  apply Array.ext'
  rw [Array.toList_setIfInBounds]
  show (rowsL (st.part i).procs.length fun k => mprocCells (L.code i k) ((st.part i).procs.getD k default)).set _ _ = rowsL _ _
  rw [rowsL_set (st.part i).procs.length 6 _ (fun j _ => rfl) n k v hn hk, List.length_set]
  refine rowsL_congr _ _ _ (fun j hj => ?_)
  by_cases e : j = n
  · subst e
    simp only [if_true]
    have e2 : ((st.part i).procs.set j x).getD j default = x := by simp [List.getD_eq_getElem?_getD, hn]
    rw [e2]
    exact hc
  · simp only [if_neg e]
    have e2 : ((st.part i).procs.set n x).getD j default = (st.part i).procs.getD j default := by
      simp only [List.getD_eq_getElem?_getD]
      rw [List.getElem?_set_ne (fun h => e h.symm)]
    rw [e2]
theorem MachAt.wordCell {w : World} {L : MLay} {g : Nat} {st : RSt} (h : MachAt w L g st) (hL : LayOk L st.parts.length st.cf.chans.length) (i : Nat) (hi : i < st.parts.length) (ws : List Int) (w' : World) (ht : Touch (· = L.wd i) w w') (hl : ws.length = (st.part i).words.length)
    (hp : w'.heap[L.wd i]? = some (.cells (ws.map (Value.int .i64)).toArray 3 (0, 0))) : MachAt w' L g (st.setPart i { st.part i with words := ws }) := by
  have keep : ∀ b, b < w.heap.size → L.wd i ≠ b → w'.heap[b]? = w.heap[b]? := fun b h1 h2 => ht.block b h1 (fun e => h2 e.symm)
  have kc : ∀ {b : Nat} {c : Array Value} {s : TypeId}, w.heap[b]? = some (.cells c s (0, 0)) → (3 : TypeId) ≠ s → w'.heap[b]? = some (.cells c s (0, 0)) := fun hb hs => (keep _ (lt_of_block hb) (ne_of_types (h.words i hi) hb hs)).trans hb
  have hget : ∀ j, (st.parts.set i { st.part i with words := ws }).getD j default = if j = i then { st.part i with words := ws } else st.parts.getD j default := fun j => by
    simp only [List.getD_eq_getElem?_getD]
    by_cases e : j = i
    · subst e; rw [if_pos rfl, List.getElem?_set_self hi]; rfl
    · rw [if_neg e, List.getElem?_set_ne (fun h => e h.symm)]
  have hgp : ∀ j, ((st.parts.set i { st.part i with words := ws }).getD j default).procs = (st.parts.getD j default).procs := fun j => by
    rw [hget j]; split
    · rename_i e; subst e; rfl
    · rfl
  unfold RSt.setPart
  refine ⟨?_, ?_, fun j hj => ?_, fun j hj => ?_, fun j hj => ?_, kc h.wins (by decide), kc h.chans (by decide), fun j hj => ?_, fun j k hj hk => ?_⟩
  · rw [kc h.mach (by decide)]
    simp only [machObj, List.length_set]
  · simp only [List.length_set]
    rw [kc h.parts (by decide)]
    congr 3
    refine rowsL_congr _ _ _ (fun j hj => ?_)
    rw [hget j]
    split
    · rename_i e; subst e; simp only [mpartC, hl]; rfl
    · rfl
  · simp only [List.length_set] at hj ⊢
    rw [hget j]
    by_cases e : j = i
    · subst e; simp only [if_true]; exact hp
    · simp only [if_neg e]
      rw [keep _ (lt_of_block (h.words j hj)) (fun he => e (hL.wdwd i j hi hj he).symm)]
      exact h.words j hj
  · simp only [List.length_set] at hj ⊢
    rw [hgp j]
    exact kc (h.procs j hj) (by decide)
  · simp only [List.length_set] at hj ⊢
    rw [hgp j, keep _ (lt_of_block (h.turns j hj)) (hL.wdtn i j hi hj)]
    exact h.turns j hj
  · obtain ⟨s, r, hc⟩ := h.queue j hj
    exact ⟨s, r, (keep _ (lt_of_block hc) (ne_of_chan (h.words i hi) hc)).trans hc⟩
  · simp only [List.length_set] at hj ⊢
    rw [hgp j] at hk
    refine own_keep (h.code j k hj hk) (fun b e => ?_)
    obtain ⟨cur, hc⟩ := own_of (h.code j k hj hk) e
    exact keep b (lt_of_block hc) (ne_of_types (h.words i hi) hc (by decide))
theorem MachAt.setWord {w : World} {L : MLay} {g : Nat} {st : RSt} (h : MachAt w L g st) (hL : LayOk L st.parts.length st.cf.chans.length) (i a : Nat) (z : Int) (hi : i < st.parts.length) : MachAt (w.setCell ⟨L.wd i, a, none⟩ (.int .i64 z)) L g (st.setPart i { st.part i with words := (st.part i).words.set a z }) := by
  refine h.wordCell hL i hi _ _ (Touch.ofSet w _ _ _ rfl) (by simp) ?_
  rw [block_set (h.words i hi) _ _]
  congr 2
  apply Array.ext'
  rw [Array.toList_setIfInBounds]
  show List.set (List.map _ _) _ _ = List.map _ _
  rw [List.map_set]
  rfl
theorem MachAt.mach' {w w' : World} {L : MLay} {g : Nat} {st : RSt} (h : MachAt w L g st) (ht : Touch (· = L.mb) w w') (now : Int) (dead : Bool) (hm : w'.heap[L.mb]? = some (machObj L g { st with now := now, dead := dead })) : MachAt w' L g { st with now := now, dead := dead } := by
  have keep : ∀ b, b < w.heap.size → L.mb ≠ b → w'.heap[b]? = w.heap[b]? := fun b h1 h2 => ht.block b h1 (fun e => h2 e.symm)
  have kc : ∀ {b : Nat} {c : Array Value} {s : TypeId}, w.heap[b]? = some (.cells c s (0, 0)) → (145 : TypeId) ≠ s → w'.heap[b]? = some (.cells c s (0, 0)) := fun hb hs => (keep _ (lt_of_block hb) (ne_of_types h.mach hb hs)).trans hb
  refine ⟨hm, kc h.parts (by decide), fun j hj => kc (h.words j hj) (by decide), fun j hj => kc (h.procs j hj) (by decide), fun j hj => kc (h.turns j hj) (by decide), kc h.wins (by decide), kc h.chans (by decide), fun j hj => ?_, fun j k hj hk => ?_⟩
  · obtain ⟨s, r, hc⟩ := h.queue j hj
    exact ⟨s, r, (keep _ (lt_of_block hc) (ne_of_chan h.mach hc)).trans hc⟩
  · refine own_keep (h.code j k hj hk) (fun b e => ?_)
    obtain ⟨cur, hc⟩ := own_of (h.code j k hj hk) e
    exact keep b (lt_of_block hc) (ne_of_types h.mach hc (by decide))
theorem MachAt.setNow {w : World} {L : MLay} {g : Nat} {st : RSt} (h : MachAt w L g st) (x : Int) : MachAt (w.setCell ⟨L.mb, 6, none⟩ (.int .i64 x)) L g { st with now := x } :=
  h.mach' (Touch.ofSet w _ _ _ rfl) x st.dead (by rw [block_set h.mach 6 _]; rfl)
theorem MachAt.setLost {w : World} {L : MLay} {g : Nat} {st : RSt} (h : MachAt w L g st) (x : Bool) : MachAt (w.setCell ⟨L.mb, 7, none⟩ (.bool x)) L g { st with dead := x } :=
  h.mach' (Touch.ofSet w _ _ _ rfl) st.now x (by rw [block_set h.mach 7 _]; rfl)
theorem MachAt.setQueue {w w' : World} {L : MLay} {g : Nat} {st : RSt} (h : MachAt w L g st) (hL : LayOk L st.parts.length st.cf.chans.length) (j : Nat) (hj : j < st.cf.chans.length) (hq : st.queues.length = st.cf.chans.length) (ht : Touch (· = L.ch j) w w') (q : List Int)
    (hn : ∃ s r, w'.heap[L.ch j]? = some (.chan (st.cf.chans.getD j default).depth.toNat (q.map (Value.int .i64)).toArray false s r false)) : MachAt w' L g { st with queues := st.queues.set j q } := by
  obtain ⟨s0, r0, h0⟩ := h.queue j hj
  have keep : ∀ b, b < w.heap.size → b ≠ L.ch j → w'.heap[b]? = w.heap[b]? := fun b h1 h2 => ht.block b h1 h2
  have kc : ∀ {b : Nat} {c : Array Value} {s : TypeId}, w.heap[b]? = some (.cells c s (0, 0)) → w'.heap[b]? = some (.cells c s (0, 0)) := fun hb => (keep _ (lt_of_block hb) (ne_of_chan hb h0)).trans hb
  refine ⟨kc h.mach, kc h.parts, fun j hj => kc (h.words j hj), fun j hj => kc (h.procs j hj), fun j hj => kc (h.turns j hj), kc h.wins, kc h.chans, fun k hk => ?_, fun i k hi hk => ?_⟩
  · by_cases e : k = j
    · subst e
      simp only [List.getD_eq_getElem?_getD] at hn ⊢
      rw [List.getElem?_set_self (by omega)]
      exact hn
    · obtain ⟨s, r, hc⟩ := h.queue k hk
      refine ⟨s, r, ?_⟩
      simp only [List.getD_eq_getElem?_getD] at hc ⊢
      rw [List.getElem?_set_ne (fun h => e h.symm)]
      exact (keep _ (lt_of_block hc) (fun he => e (hL.chch k j hk hj he))).trans hc
  · refine own_keep (h.code i k hi hk) (fun b e => ?_)
    obtain ⟨cur, hc⟩ := own_of (h.code i k hi hk) e
    exact keep b (lt_of_block hc) (ne_of_chan hc h0)
end Go.Proofs.YtnjlbgolnbdkaaaGreat
