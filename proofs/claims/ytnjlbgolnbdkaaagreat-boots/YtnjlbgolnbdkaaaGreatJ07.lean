/- Texts of the proof of Boots, one behind the other. -/
import Derived.Test.YtnjlbgolnbdkaaaGreatJ06
import Derived.Test.YtnjlbgolnbdkaaaGreatJ04
import Derived.Laws.CopyOwn
/- The document's reader: partition. -/
namespace Go.Proofs.YtnjlbgolnbdkaaaGreat
open Go.RowKit

structure Pt where
  sys : Bool
  words : Int
  limit : Int
  acts : List Int
  procs : List Pr
def rdAct (zs : List Int) (c : Nat) (r : Rd) : Int × Rd := ((rdB zs 1 7 r).1, if c = 5 then rdNot (rdB zs 1 7 r).1 3 (rdNot (rdB zs 1 7 r).1 2 (rdB zs 1 7 r).2) else (rdB zs 1 7 r).2)
def rdActs (zs : List Int) : Nat → Rd → List Int × Rd
  | 0, r => ([], r)
  | k + 1, r => ((rdActs zs k r).1 ++ [(rdAct zs k (rdActs zs k r).2).1], (rdAct zs k (rdActs zs k r).2).2)
def rdPart (zs : List Int) (r : Rd) : Pt × Rd :=
  let r1 := (rdB zs 0 1 r).2
  let r2 := (rdB zs 1 16 r1).2
  let r3 := (rdB zs 0 9 r2).2
  let r4 := (rdActs zs 6 r3).2
  let r5 := (rdB zs 1 2 r4).2
  (⟨(rdB zs 0 1 r).1 == 1, (rdB zs 1 16 r1).1, (rdB zs 0 9 r2).1, (rdActs zs 6 r3).1, (rdTo (rdProc zs) (rdB zs 1 2 r4).1.toNat r5).1⟩, (rdTo (rdProc zs) (rdB zs 1 2 r4).1.toNat r5).2)
theorem rdActs_length (zs : List Int) (k : Nat) (r : Rd) : (rdActs zs k r).1.length = k := by
  induction k with
  | zero => rfl
  | succ k ih => show ((rdActs zs k r).1 ++ [_]).length = k + 1; simp [ih]

theorem Tryz.info190 : (Tryz.prog.info? 190).map (fun i => (i.zero, i.size, i.bytes)) = some (some (.agg #[.int .i64 0, .slice none 0 0]), 2, 32) := by kernel_rfl
def procCells (l : List (Pr × Value)) : List Value := l.flatMap fun p => [.int .i64 p.1.prio, p.2]
theorem procCells_snoc (l : List (Pr × Value)) (p : Pr × Value) : procCells (l ++ [p]) = procCells l ++ [.int .i64 p.1.prio, p.2] := by simp [procCells]
def ProcsV (base : Nat) (v : Value) (ps : List Pr) (w : World) : Prop := ∃ l : List (Pr × Value), l.map Prod.fst = ps ∧ w.ownsRow base 190 2 v l.length (procCells l) ∧ ∀ p ∈ l, CodeV base p.2 p.1.code w

theorem CodeV.keep {base : Nat} {v : Value} {code : List (Int × Int)} {w w' : World} (h : CodeV base v code w) (hs : ∀ b, base ≤ b → b < w.heap.size → (∃ cur, w.heap[b]? = some (.cells cur 210 (0, 0))) → w'.heap[b]? = w.heap[b]?) : CodeV base v code w' := by
  refine own_keep h (fun b e => ?_)
  have hb := World.ownsRow.lt h b e
  refine hs b hb.1 hb.2 ?_
  rcases h.2 with ⟨h1, _⟩ | ⟨g, cap, cur, hv, _, hh, _⟩
  · rw [h1] at e; simp [Value.ownBlock] at e
  · rw [hv] at e; simp [Value.ownBlock] at e; subst e; exact ⟨cur, hh⟩
theorem CodeV.base {base base' : Nat} {v : Value} {code : List (Int × Int)} {w : World} (h : CodeV base v code w) (hb : base' ≤ base) : CodeV base' v code w := by
  obtain ⟨h1, h2⟩ := h
  rcases h2 with h2 | ⟨g', cap, cur, hv, hb', rest⟩
  · exact ⟨h1, .inl h2⟩
  · exact ⟨h1, .inr ⟨g', cap, cur, hv, by omega, rest⟩⟩
theorem ProcsV.keep {base : Nat} {v : Value} {ps : List Pr} {w w' : World} (h : ProcsV base v ps w) (hs : ∀ b, base ≤ b → b < w.heap.size → (∃ cur t, (t = 210 ∨ t = 190) ∧ w.heap[b]? = some (.cells cur t (0, 0))) → w'.heap[b]? = w.heap[b]?) : ProcsV base v ps w' := by
  obtain ⟨l, h1, h2, h3⟩ := h
  refine ⟨l, h1, own_keep h2 (fun b e => ?_), fun p hp => (h3 p hp).keep (fun b h1 h2 ⟨cur, h⟩ => hs b h1 h2 ⟨cur, 210, .inl rfl, h⟩)⟩
  have hb := World.ownsRow.lt h2 b e
  refine hs b hb.1 hb.2 ?_
  rcases h2.2 with ⟨h1, _⟩ | ⟨g, cap, cur, hv, _, hh, _⟩
  · rw [h1] at e; simp [Value.ownBlock] at e
  · rw [hv] at e; simp [Value.ownBlock] at e; subst e; exact ⟨cur, 190, .inr rfl, hh⟩
theorem ProcsV.base {base base' : Nat} {v : Value} {ps : List Pr} {w : World} (h : ProcsV base v ps w) (hb : base' ≤ base) : ProcsV base' v ps w := by
  obtain ⟨l, h1, h2, h3⟩ := h
  refine ⟨l, h1, ?_, fun p hp => (h3 p hp).base hb⟩
  obtain ⟨h1, h2⟩ := h2
  rcases h2 with h2 | ⟨g', cap, cur, hv, hb', rest⟩
  · exact ⟨h1, .inl h2⟩
  · exact ⟨h1, .inr ⟨g', cap, cur, hv, by omega, rest⟩⟩

def ptCells (s : Bool) (wd lm : Int) (a : Nat → Int) (v : Value) : Array Value := #[.bool s, .int .i64 wd, .int .i64 lm, .int .i64 (a 0), .int .i64 (a 1), .int .i64 (a 2), .int .i64 (a 3), .int .i64 (a 4), .int .i64 (a 5), v]

theorem pt_set (s : Bool) (wd lm : Int) (f g : Nat → Int) (v : Value) (k : Nat) (a : Int) (hk6 : k < 6) (hk : g k = a) (h : ∀ i, i ≠ k → g i = f i) : (ptCells s wd lm f v).setIfInBounds (3 + k) (.int .i64 a) = ptCells s wd lm g v := by
  rcases (show k = 0 ∨ k = 1 ∨ k = 2 ∨ k = 3 ∨ k = 4 ∨ k = 5 from by omega) with rfl | rfl | rfl | rfl | rfl | rfl
  · show _ = ptCells s wd lm g v
    unfold ptCells
    rw [hk, h 1 (by decide), h 2 (by decide), h 3 (by decide), h 4 (by decide), h 5 (by decide)]
    rfl
  · show _ = ptCells s wd lm g v
    unfold ptCells
    rw [h 0 (by decide), hk, h 2 (by decide), h 3 (by decide), h 4 (by decide), h 5 (by decide)]
    rfl
  · show _ = ptCells s wd lm g v
    unfold ptCells
    rw [h 0 (by decide), h 1 (by decide), hk, h 3 (by decide), h 4 (by decide), h 5 (by decide)]
    rfl
  · show _ = ptCells s wd lm g v
    unfold ptCells
    rw [h 0 (by decide), h 1 (by decide), h 2 (by decide), hk, h 4 (by decide), h 5 (by decide)]
    rfl
  · show _ = ptCells s wd lm g v
    unfold ptCells
    rw [h 0 (by decide), h 1 (by decide), h 2 (by decide), h 3 (by decide), hk, h 5 (by decide)]
    rfl
  · show _ = ptCells s wd lm g v
    unfold ptCells
    rw [h 0 (by decide), h 1 (by decide), h 2 (by decide), h 3 (by decide), h 4 (by decide), hk]
    rfl
theorem acts_getD (l : List Int) (a : Int) (k : Nat) (hl : l.length = k) : (l ++ [a]).getD k 0 = a ∧ ∀ i, i ≠ k → (l ++ [a]).getD i 0 = l.getD i 0 := by
  subst hl
  refine ⟨by simp, fun i hi => ?_⟩
  simp only [List.getD_eq_getElem?_getD]
  rcases Nat.lt_or_ge i l.length with h | h
  · rw [List.getElem?_append_left h]
  · rw [List.getElem?_eq_none (by simp; omega), List.getElem?_eq_none h]

/- a struct of type T in the making: its block (B + 1), the result's (B), the reader's -/
structure Making (rb : Nat) (ao : Option Addr) (n cap : Nat) (zs : List Int) (T : TypeId) (zero : Array Value) (w : World) (cells : Array Value) (r : Rd) (wr : World) : Prop where
  zero : wr.heap[w.heap.size]? = some (.cells zero T (0, 0))
  cur : wr.heap[w.heap.size + 1]? = some (.cells cells T (0, 0))
  rd : RdAt rb ao n cap zs r wr
  t : Touch (· = rb) w wr
section
variable {rb : Nat} {ao : Option Addr} {n cap : Nat} {zs : List Int} {T : TypeId} {zero : Array Value} {w : World} {cells : Array Value} {r r' : Rd} {wr w' : World}
theorem Making.byte (h : Making rb ao n cap zs T zero w cells r wr) (hrb : rb < w.heap.size) (hr : RdAt rb ao n cap zs r' w') (ht : Touch (· = rb) wr w') : Making rb ao n cap zs T zero w cells r' w' :=
  ⟨(ht.block _ (lt_of_block h.zero) (by omega)).trans h.zero, (ht.block _ (lt_of_block h.cur) (by omega)).trans h.cur, hr, Touch.trans (T := (· = rb)) h.t ht (fun i hi => .inl hi)⟩
theorem Making.set (h : Making rb ao n cap zs T zero w cells r wr) (hrb : rb < w.heap.size) (hlt : ∀ ad, ao = some ad → 0 < n → ad.block < w.heap.size) (o : Nat) (v : Value) : Making rb ao n cap zs T zero w (cells.setIfInBounds o v) r (wr.setCell ⟨w.heap.size + 1, o, none⟩ v) := by
  have t : Touch (· = w.heap.size + 1) wr (wr.setCell ⟨w.heap.size + 1, o, none⟩ v) := Touch.ofSet wr _ o v rfl
  exact ⟨(t.block _ (lt_of_block h.zero) (by omega)).trans h.zero, block_set h.cur o v, ⟨(t.block rb (lt_of_block h.rd.obj) (by omega)).trans h.rd.obj, h.rd.held.touch t (fun ad e hn hs => by have := hlt ad e hn; omega), h.rd.apart, h.rd.small, h.rd.pos⟩, Touch.trans (T := (· = w.heap.size + 1)) h.t t (fun i hi => .inr (by omega))⟩
theorem Making.below (h : Making rb ao n cap zs T zero w cells r wr) (hrb : rb < w.heap.size) (hlt : ∀ ad, ao = some ad → 0 < n → ad.block < w.heap.size) (b : Below (w.heap.size + 2) wr w') : Making rb ao n cap zs T zero w cells r w' :=
  ⟨(b.block _ (by omega)).trans h.zero, (b.block _ (by omega)).trans h.cur, h.rd.touch b (by omega) (fun ad e hn => by have := hlt ad e hn; omega), Touch.trans (T := fun k => w.heap.size + 2 ≤ k) h.t ⟨b.os, b.tape, b.output, b.size, fun k _ hk => b.block k (by omega)⟩ (fun i hi => .inr (by omega))⟩
theorem Making.start (hr : RdAt rb ao n cap zs r w) (zero cells : Array Value) (T : TypeId) : Making rb ao n cap zs T zero w cells r ((w.alloc (.cells zero T)).alloc (.cells cells T)) := by
  have hrb := lt_of_block hr.obj
  have b : Below w.heap.size w ((w.alloc (.cells zero T)).alloc (.cells cells T)) := ((Below.refl _ _).alloc (Nat.le_refl _) _).alloc (by simp) _
  have h2 := heap_alloc_new (w.alloc (.cells zero T)) (.cells cells T)
  rw [show (w.alloc (.cells zero T)).heap.size = w.heap.size + 1 from by simp] at h2
  exact ⟨(Below.heap_alloc _ _ _ (by simp)).trans (heap_alloc_new w _), h2, hr.touch b hrb hr.held.lt, Touch.ofBelow b⟩
end

set_option maxRecDepth 100000 in
set_option maxHeartbeats 4000000 in
theorem partition_any (rb : Nat) (ao : Option Addr) (n cap : Nat) (zs : List Int) (r : Rd) (w : World) (h : RdAt rb ao n cap zs r w) :
    Calls Tryz.prog 133 #[.pointer (some ⟨rb, 0, none⟩)] w fun e w' => ∃ v, e = .returned (.agg (ptCells (rdPart zs r).1.sys (rdPart zs r).1.words (rdPart zs r).1.limit (fun i => (rdPart zs r).1.acts.getD i 0) v)) ∧ ProcsV w.heap.size v (rdPart zs r).1.procs w' ∧ RdAt rb ao n cap zs (rdPart zs r).2 w' ∧ Touch (· = rb) w w' := by
  obtain ⟨i0, hi, hz0, hz1, hz2⟩ := info_parts Tryz.info190
  have hrb := lt_of_block h.obj
  have HLT : Hid (∀ ad, ao = some ad → 0 < n → ad.block < w.heap.size) := h.held.lt
  have HM := hide (Making.start h (ptCells false 0 0 (fun _ => 0) (.slice none 0 0)) (ptCells false 0 0 (fun _ => 0) (.slice none 0 0)) 124)
  clear h
  have HSP : Hid (rdPart zs r = (⟨(rdB zs 0 1 r).1 == 1, (rdB zs 1 16 (rdB zs 0 1 r).2).1, (rdB zs 0 9 (rdB zs 1 16 (rdB zs 0 1 r).2).2).1, (rdActs zs 6 (rdB zs 0 9 (rdB zs 1 16 (rdB zs 0 1 r).2).2).2).1, (rdTo (rdProc zs) (rdB zs 1 2 (rdActs zs 6 (rdB zs 0 9 (rdB zs 1 16 (rdB zs 0 1 r).2).2).2).2).1.toNat (rdB zs 1 2 (rdActs zs 6 (rdB zs 0 9 (rdB zs 1 16 (rdB zs 0 1 r).2).2).2).2).2).1⟩, (rdTo (rdProc zs) (rdB zs 1 2 (rdActs zs 6 (rdB zs 0 9 (rdB zs 1 16 (rdB zs 0 1 r).2).2).2).2).1.toNat (rdB zs 1 2 (rdActs zs 6 (rdB zs 0 9 (rdB zs 1 16 (rdB zs 0 1 r).2).2).2).2).2).2)) := rfl
  have HB1 := hide (byte_any rb ao n cap zs r 0 1 _ HM.out.rd)
  generalize (rdB zs 0 1 r).1 = sy at HSP HB1
  generalize (rdB zs 0 1 r).2 = r1 at HSP HB1
  go_enter Tryz.func133, Tryz.ntmps133
  go_wp2_with fail
  refine HB1.out.mono ?_
  rintro e w1 ⟨rfl, hr1, ht1⟩
  have HM1 := hide (HM.out.byte hrb hr1 ht1)
  have p0 : w1.cell? ⟨w.heap.size + 1, 0, none⟩ = some (.bool false) := by rw [cell_of_row _ _ _ _ _ _ HM1.out.cur]; rfl
  have f0 := free_of_block HM1.out.cur 0
  clear hr1 ht1 HM HB1
  have HM2 : Hid (Making rb ao n cap zs 124 (ptCells false 0 0 (fun _ => 0) (.slice none 0 0)) w (ptCells (sy == 1) 0 0 (fun _ => 0) (.slice none 0 0)) r1 (w1.setCell ⟨w.heap.size + 1, 0, none⟩ (.bool (sy == 1)))) := HM1.out.set hrb HLT.out 0 (.bool (sy == 1))
  have HB2 := hide (byte_any rb ao n cap zs r1 1 16 _ HM2.out.rd)
  generalize (rdB zs 1 16 r1).1 = wd at HSP HB2
  generalize (rdB zs 1 16 r1).2 = r2 at HSP HB2
  go_wp2_with fail
  refine HB2.out.mono ?_
  rintro e w2 ⟨rfl, hr2, ht2⟩
  have HM3 := hide (HM2.out.byte hrb hr2 ht2)
  have p1 : w2.cell? ⟨w.heap.size + 1, 1, none⟩ = some (.int .i64 0) := by rw [cell_of_row _ _ _ _ _ _ HM3.out.cur]; rfl
  have f1 := free_of_block HM3.out.cur 1
  clear hr2 ht2 HM2 HB2 HM1 p0 f0
  have HM4 : Hid (Making rb ao n cap zs 124 (ptCells false 0 0 (fun _ => 0) (.slice none 0 0)) w (ptCells (sy == 1) wd 0 (fun _ => 0) (.slice none 0 0)) r2 (w2.setCell ⟨w.heap.size + 1, 1, none⟩ (.int .i64 wd))) := HM3.out.set hrb HLT.out 1 (.int .i64 wd)
  have HB3 := hide (byte_any rb ao n cap zs r2 0 9 _ HM4.out.rd)
  generalize (rdB zs 0 9 r2).1 = lm at HSP HB3
  generalize (rdB zs 0 9 r2).2 = r3 at HSP HB3
  go_wp2_with fail
  refine HB3.out.mono ?_
  rintro e w3 ⟨rfl, hr3, ht3⟩
  have HM5 := hide (HM4.out.byte hrb hr3 ht3)
  have p2 : w3.cell? ⟨w.heap.size + 1, 2, none⟩ = some (.int .i64 0) := by rw [cell_of_row _ _ _ _ _ _ HM5.out.cur]; rfl
  have f2 := free_of_block HM5.out.cur 2
  clear hr3 ht3 HM4 HB3 HM3 p1 f1
  have HM6 : Hid (Making rb ao n cap zs 124 (ptCells false 0 0 (fun _ => 0) (.slice none 0 0)) w (ptCells (sy == 1) wd lm (fun _ => 0) (.slice none 0 0)) r3 (w3.setCell ⟨w.heap.size + 1, 2, none⟩ (.int .i64 lm))) := HM5.out.set hrb HLT.out 2 (.int .i64 lm)
  go_wp2
  go_loopw [5] (fun i wr => ∃ k : Nat, k ≤ 6 ∧ i = .int .i64 k ∧ Making rb ao n cap zs 124 (ptCells false 0 0 (fun _ => 0) (.slice none 0 0)) w (ptCells (sy == 1) wd lm (fun i => (rdActs zs k r3).1.getD i 0) (.slice none 0 0)) (rdActs zs k r3).2 wr) (fun i _ => 6 - (intOf i).toNat)
  case atStart => exact ⟨0, by omega, rfl, HM6.out⟩
  case round =>
    obtain ⟨k, hk, rfl, hM⟩ := hrel
    by_cases hlt : k < 6
    · have hlen := rdActs_length zs k r3
      have HST : Hid (rdActs zs (k + 1) r3 = ((rdActs zs k r3).1 ++ [(rdB zs 1 7 (rdActs zs k r3).2).1], if k = 5 then rdNot (rdB zs 1 7 (rdActs zs k r3).2).1 3 (rdNot (rdB zs 1 7 (rdActs zs k r3).2).1 2 (rdB zs 1 7 (rdActs zs k r3).2).2) else (rdB zs 1 7 (rdActs zs k r3).2).2)) := rfl
      have HB := hide (byte_any rb ao n cap zs (rdActs zs k r3).2 1 7 wr hM.rd)
      have HM := hide hM
      clear hM
      generalize rdActs zs k r3 = S at HST HB HM hlen
      generalize (rdB zs 1 7 S.2).1 = a at HST HB
      generalize (rdB zs 1 7 S.2).2 = Ra at HST HB
      go_wp2_with fail
      refine HB.out.mono ?_
      rintro e wA ⟨rfl, hrA, htA⟩
      have HMA := hide (HM.out.byte hrb hrA htA)
      have hcurA := HMA.out.cur
      have pk : ∃ u, wA.cell? ⟨w.heap.size + 1, 3 + k, none⟩ = some u := by
        rw [cell_of_row _ _ _ _ _ _ hcurA]
        exact ⟨_, Array.getElem?_eq_getElem (show 3 + k < (ptCells (sy == 1) wd lm (fun i => S.1.getD i 0) (.slice none 0 0)).size from by show 3 + k < 10; omega)⟩
      obtain ⟨u, hu⟩ := pk
      have fk := free_of_block hcurA (3 + k)
      have HMS : Hid (Making rb ao n cap zs 124 (ptCells false 0 0 (fun _ => 0) (.slice none 0 0)) w (ptCells (sy == 1) wd lm (fun i => (S.1 ++ [a]).getD i 0) (.slice none 0 0)) Ra (wA.setCell ⟨w.heap.size + 1, 3 + k, none⟩ (.int .i64 a))) := by
        have := HMA.out.set hrb HLT.out (3 + k) (.int .i64 a)
        obtain ⟨g1, g2⟩ := acts_getD S.1 a k hlen
        rw [pt_set (sy == 1) wd lm (fun i => S.1.getD i 0) (fun i => (S.1 ++ [a]).getD i 0) (.slice none 0 0) k a hlt g1 g2] at this
        exact this
      clear hrA htA HB HM hcurA
      by_cases h5 : k < 5
      · have HE : Hid (rdActs zs (k + 1) r3 = (S.1 ++ [a], Ra)) := by show _ = _; rw [HST.out, if_neg (by omega)]
        go_wp2
        go_roundw
        case rel => exact ⟨k + 1, by omega, by go_num, by rw [HE.out]; exact HMS.out⟩
        case measure => simp [intOf]; omega
      · have HE : Hid (rdActs zs (k + 1) r3 = (S.1 ++ [a], rdNot a 3 (rdNot a 2 Ra))) := by show _ = _; rw [HST.out, if_pos (by omega)]
        have HN1 := hide (not_any rb ao n cap zs Ra a 2 _ HMS.out.rd)
        go_wp2_with fail
        refine HN1.out.mono ?_
        rintro e wN ⟨rfl, hrN, htN⟩
        have HMN := hide (HMS.out.byte hrb hrN htN)
        have pa : wN.cell? ⟨w.heap.size + 1, 3 + k, none⟩ = some (.int .i64 a) := by
          rw [World.cell?_of_block (w := wA.setCell ⟨w.heap.size + 1, 3 + k, none⟩ (.int .i64 a)) (htN.block _ (lt_of_block HMS.out.cur) (by show ¬ w.heap.size + 1 = rb; omega))]
          exact World.cell?_setCell_same _ _ _ hu
        have HN2 := hide (not_any rb ao n cap zs _ a 3 _ HMN.out.rd)
        clear hrN htN HN1
        go_wp2_with fail
        refine HN2.out.mono ?_
        rintro e wO ⟨rfl, hrO, htO⟩
        have HMO := hide (HMN.out.byte hrb hrO htO)
        clear hrO htO HN2
        go_wp2
        go_roundw
        case rel => exact ⟨k + 1, by omega, by go_num, by rw [HE.out]; exact HMO.out⟩
        case measure => simp [intOf]; omega
    · obtain HK : Hid (k = 6) := (by omega : k = 6)
      have HM := hide hM
      clear hM HM5 HM6 p2 f2
      have hM0 : Making rb ao n cap zs 124 (ptCells false 0 0 (fun _ => 0) (.slice none 0 0)) w (ptCells (sy == 1) wd lm (fun i => (rdActs zs 6 r3).1.getD i 0) (.slice none 0 0)) (rdActs zs 6 r3).2 wr := by
        have h6 := HM.out
        rw [HK.out] at h6
        exact h6
      have HB := hide (byte_any rb ao n cap zs (rdActs zs 6 r3).2 1 2 wr hM0.rd)
      have HM0 := hide hM0
      have hN := rdB_val zs 1 2 (rdActs zs 6 r3).2 (by omega)
      generalize rdActs zs 6 r3 = S at HSP HB HM0 hN
      generalize (rdB zs 1 2 S.2).1 = N at HSP HB hN
      generalize (rdB zs 1 2 S.2).2 = r5 at HSP HB
      clear HM HK hM0
      obtain ⟨af, haf⟩ : ∃ af : Nat → Int, af = fun i => S.1.getD i 0 := ⟨_, rfl⟩
      rw [← haf] at HM0
      have HAF := hide haf
      clear haf
      go_wp2_with fail
      refine HB.out.mono ?_
      rintro e wP ⟨rfl, hrP, htP⟩
      have HMP := hide (HM0.out.byte hrb hrP htP)
      clear hrP htP HB HM0
      go_wp2
      go_loopw [7] (fun i wq => ∃ (k : Nat) (v : Value), (k : Int) ≤ N ∧ i = .int .i64 k ∧ Making rb ao n cap zs 124 (ptCells false 0 0 (fun _ => 0) (.slice none 0 0)) w (ptCells (sy == 1) wd lm af v) (rdTo (rdProc zs) k r5).2 wq ∧ ProcsV (w.heap.size + 2) v (rdTo (rdProc zs) k r5).1 wq) (fun i _ => N.toNat - (intOf i).toNat)
      case atStart => exact ⟨0, _, by omega, rfl, HMP.out, [], rfl, World.ownsRow_nil _ _ _ _, fun p hp => by simp at hp⟩
      case round =>
        obtain ⟨j, v, hj, rfl, hM, hV⟩ := hrel
        have hlen := rdTo_length (rdProc zs) j r5
        have c2 : wr.cell? ⟨rb, 2, none⟩ = some (.int .i64 (rdTo (rdProc zs) j r5).2.err) := by rw [cell_of_row _ _ _ _ _ _ hM.rd.obj]; rfl
        have hws : w.heap.size + 1 < wr.heap.size := lt_of_block hM.cur
        by_cases hgo : (j : Int) < N ∧ (rdTo (rdProc zs) j r5).2.err = 0
        · obtain ⟨hlt, he⟩ := hgo
          have HGO := hide (rdTo_go (rdProc zs) j r5 he)
          have b1 : ((rdTo (rdProc zs) j r5).2.err == 0) = true := by simp [he]
          have HPR := hide (process_any rb ao n cap zs (rdTo (rdProc zs) j r5).2 wr hM.rd)
          have H3 := hide (And.intro hM hV)
          clear he hM hV
          generalize rdTo (rdProc zs) j r5 = Q at HGO b1 HPR H3 c2 hlen
          generalize rdProc zs Q.2 = X at HGO HPR
          go_wp2_with fail
          refine HPR.out.mono ?_
          rintro e wA ⟨vc, rfl, hCA, hrA, htA⟩
          obtain ⟨hM, l, hl1, hl2, hl3⟩ := H3.out
          have hsA := htA.size
          have hll : l.length = Q.1.length := by rw [← hl1, List.length_map]
          have hlb : l.length ≤ 100 := by omega
          have HLL := hide hll
          clear hll
          have hMA := hM.byte hrb hrA htA
          have hlA2 : wA.ownsRow (w.heap.size + 2) 190 2 v l.length (procCells l) := own_keep hl2 (fun b e => htA.block b (World.ownsRow.lt hl2 b e).2 (by have := (World.ownsRow.lt hl2 b e).1; omega))
          have hlA3 : ∀ p ∈ l, CodeV (w.heap.size + 2) p.2 p.1.code wA := fun p hp => (hl3 p hp).keep (fun b h1 h2 _ => htA.block b h2 (by omega))
          have p9 : wA.cell? ⟨w.heap.size + 1, 9, none⟩ = some v := by rw [cell_of_row _ _ _ _ _ _ hMA.cur]; rfl
          have hltA : w.heap.size + 1 < wA.heap.size := by omega
          have HA := hide (And.intro hMA (And.intro hlA2 (And.intro hlA3 hCA)))
          have HLA2 := hide hlA2
          have hvc : Hid (∃ ad m c, vc = .slice ad m c) := by
            rcases hCA.2 with ⟨h1, _⟩ | ⟨g', cap', cur, hv, _⟩
            · exact ⟨_, _, _, h1⟩
            · exact ⟨_, _, _, hv⟩
          obtain ⟨adc, mc, cc, rfl⟩ := hvc.out
          clear hM hl2 hl3 hMA hlA2 hlA3 hCA hrA htA hvc H3 HPR
          have HNEW : Hid (∀ W : World, ∀ jj u, [Value.int .i64 X.1.prio, Value.slice adc mc cc][jj]? = some u → ((W.alloc (.cells #[.int .i64 X.1.prio, .slice adc mc cc] 190)).alloc (.cells #[.int .i64 X.1.prio, .slice adc mc cc] 190)).cell? ((⟨W.heap.size + 1, 0, none⟩ : Addr).add jj) = some u) := by
            intro W
            have := news_at (W.alloc (.cells #[.int .i64 X.1.prio, .slice adc mc cc] 190)) #[.int .i64 X.1.prio, .slice adc mc cc] 190
            rw [show (W.alloc (.cells #[.int .i64 X.1.prio, .slice adc mc cc] 190)).heap.size = W.heap.size + 1 from by simp] at this
            exact this
          go_wp2_with (at_builtin; go_must (refine wpList_append_lies _ rfl (.tmp 61) (.tmp 63) 122 rfl (w.heap.size + 2) 190 i0 (.agg #[.int .i64 0, .slice none 0 0]) 2 32 Tryz.underlying122 hi hz0 hz1 hz2 rfl (by decide) v l.length (procCells l) rfl ((HLA2.out.alloc _).alloc _) ⟨wA.heap.size + 1, 0, none⟩ 1 1 [.int .i64 X.1.prio, .slice adc mc cc] (by rfl) rfl (HNEW.out wA) (by intro u hu; simp at hu; rcases hu with rfl | rfl <;> rfl) (by omega) (by unfold maxLen; omega) (by omega) (by simp; omega) _ rfl ?_))
          intro g c w5 hown5 hgrow5 _ _
          obtain ⟨hMA, hlA2, hlA3, hCA⟩ := HA.out
          have hg5 := grown_alloc (grown_alloc hgrow5)
          have hge : ∀ b, v.ownBlock = some b → w.heap.size + 2 ≤ b := fun b e => (World.ownsRow.lt hlA2 b e).1
          have hb5 : Below (w.heap.size + 2) wA w5 := (Below.refl _ _).grown hg5 (by omega) (fun k e => hge k e)
          have hM5 := hMA.below hrb HLT.out hb5
          have hs5 := hg5.size
          have far : ∀ b, b < wA.heap.size → (∃ cur, wA.heap[b]? = some (.cells cur 210 (0, 0))) → w5.heap[b]? = wA.heap[b]? := by
            intro b hb ⟨cur, hcur⟩
            refine hg5.block b hb (fun e => ?_)
            rcases hlA2.2 with ⟨h1, _⟩ | ⟨g', cap', cur', hv, _, hh, _⟩
            · rw [h1] at e; simp [Value.ownBlock] at e
            · rw [hv] at e; simp [Value.ownBlock] at e; subst e; rw [hh] at hcur; simp at hcur
          have hl5 : ∀ p ∈ l ++ [(X.1, Value.slice adc mc cc)], CodeV (w.heap.size + 2) p.2 p.1.code w5 := by
            intro p hp
            rcases List.mem_append.1 hp with hp | hp
            · exact (hlA3 p hp).keep (fun b _ h2 h3 => far b h2 h3)
            · simp at hp; subst hp
              exact (hCA.base (show w.heap.size + 2 ≤ wr.heap.size from by omega)).keep (fun b _ h2 h3 => far b h2 h3)
          have e9 : w5.cell? ⟨w.heap.size + 1, 9, none⟩ = some v := by rw [cell_of_row _ _ _ _ _ _ hM5.cur]; rfl
          have f9 := free_of_block hM5.cur 9
          have H5 := hide (And.intro hM5 (And.intro hown5 hl5))
          clear hMA hlA2 hlA3 hCA hg5 hge hb5 hM5 far hl5 hown5 hgrow5 HA HLA2 p9
          go_wp2
          go_roundw
          case rel =>
            obtain ⟨hM5, hown5, hl5⟩ := H5.out
            have hS := hM5.set hrb HLT.out 9 (.slice (some ⟨g, 0, none⟩) (l.length + 1) c)
            have tS : Touch (· = w.heap.size + 1) w5 (w5.setCell ⟨w.heap.size + 1, 9, none⟩ (.slice (some ⟨g, 0, none⟩) (l.length + 1) c)) := Touch.ofSet w5 _ 9 _ rfl
            refine ⟨j + 1, .slice (some ⟨g, 0, none⟩) (l.length + 1) c, by omega, by go_num, by rw [HGO.out]; exact hS, ?_⟩
            rw [HGO.out]
            refine ⟨l ++ [(X.1, Value.slice adc mc cc)], by simp [hl1], ?_, fun p hp => (hl5 p hp).keep (fun b h1 h2 _ => tS.block b h2 (by omega))⟩
            rw [procCells_snoc, List.length_append]
            exact own_keep hown5 (fun b e => tS.block b (World.ownsRow.lt hown5 b e).2 (by have := (World.ownsRow.lt hown5 b e).1; omega))
          case measure => simp [intOf]; omega
        · have HFIN : Hid (rdTo (rdProc zs) N.toNat r5 = rdTo (rdProc zs) j r5) := by
            by_cases hkn : (j : Int) < N
            · exact rdTo_stop (rdProc zs) j r5 (fun he => hgo ⟨hkn, he⟩) N.toNat (by omega)
            · obtain rfl : j = N.toNat := by omega
              rfl
          have hcase : ((j : Int) < N ∧ ((rdTo (rdProc zs) j r5).2.err == 0) = false) ∨ ¬ (j : Int) < N := by
            by_cases hkn : (j : Int) < N
            · exact .inl ⟨hkn, by simp; exact fun he => hgo ⟨hkn, he⟩⟩
            · exact .inr hkn
          clear hgo
          have hvf : Hid (∃ ad m c, v = .slice ad m c) := by
            obtain ⟨l, _, hl2, _⟩ := hV
            rcases hl2.2 with ⟨h1, _⟩ | ⟨g', cap', cur, hv, _⟩
            · exact ⟨_, _, _, h1⟩
            · exact ⟨_, _, _, hv⟩
          obtain ⟨adv, mv, cv, rfl⟩ := hvf.out
          have hzero := hM.zero
          have hcur := hM.cur
          have x0 : wr.cell? ⟨w.heap.size + 1, 0, none⟩ = some (.bool (sy == 1)) := by rw [cell_of_row _ _ _ _ _ _ hcur]; rfl
          have x1 : wr.cell? ⟨w.heap.size + 1, 1, none⟩ = some (.int .i64 wd) := by rw [cell_of_row _ _ _ _ _ _ hcur]; rfl
          have x2 : wr.cell? ⟨w.heap.size + 1, 2, none⟩ = some (.int .i64 lm) := by rw [cell_of_row _ _ _ _ _ _ hcur]; rfl
          have x3 : wr.cell? ⟨w.heap.size + 1, 3, none⟩ = some (.int .i64 (af 0)) := by rw [cell_of_row _ _ _ _ _ _ hcur]; rfl
          have x4 : wr.cell? ⟨w.heap.size + 1, 4, none⟩ = some (.int .i64 (af 1)) := by rw [cell_of_row _ _ _ _ _ _ hcur]; rfl
          have x5 : wr.cell? ⟨w.heap.size + 1, 5, none⟩ = some (.int .i64 (af 2)) := by rw [cell_of_row _ _ _ _ _ _ hcur]; rfl
          have x6 : wr.cell? ⟨w.heap.size + 1, 6, none⟩ = some (.int .i64 (af 3)) := by rw [cell_of_row _ _ _ _ _ _ hcur]; rfl
          have x7 : wr.cell? ⟨w.heap.size + 1, 7, none⟩ = some (.int .i64 (af 4)) := by rw [cell_of_row _ _ _ _ _ _ hcur]; rfl
          have x8 : wr.cell? ⟨w.heap.size + 1, 8, none⟩ = some (.int .i64 (af 5)) := by rw [cell_of_row _ _ _ _ _ _ hcur]; rfl
          have x9 : wr.cell? ⟨w.heap.size + 1, 9, none⟩ = some (.slice adv mv cv) := by rw [cell_of_row _ _ _ _ _ _ hcur]; rfl
          have HE := hide (And.intro hM hV)
          clear hM hV hcur hvf
          have y0 : wr.cell? ⟨w.heap.size, 0, none⟩ = some (.bool false) := by rw [cell_of_row _ _ _ _ _ _ hzero]; rfl
          have g0 := free_of_block hzero 0
          have y1 : wr.cell? ⟨w.heap.size, 1, none⟩ = some (.int .i64 0) := by rw [cell_of_row _ _ _ _ _ _ hzero]; rfl
          have g1 := free_of_block hzero 1
          have y2 : wr.cell? ⟨w.heap.size, 2, none⟩ = some (.int .i64 0) := by rw [cell_of_row _ _ _ _ _ _ hzero]; rfl
          have g2 := free_of_block hzero 2
          have y3 : wr.cell? ⟨w.heap.size, 3, none⟩ = some (.int .i64 0) := by rw [cell_of_row _ _ _ _ _ _ hzero]; rfl
          have g3 := free_of_block hzero 3
          have y4 : wr.cell? ⟨w.heap.size, 4, none⟩ = some (.int .i64 0) := by rw [cell_of_row _ _ _ _ _ _ hzero]; rfl
          have g4 := free_of_block hzero 4
          have y5 : wr.cell? ⟨w.heap.size, 5, none⟩ = some (.int .i64 0) := by rw [cell_of_row _ _ _ _ _ _ hzero]; rfl
          have g5 := free_of_block hzero 5
          have y6 : wr.cell? ⟨w.heap.size, 6, none⟩ = some (.int .i64 0) := by rw [cell_of_row _ _ _ _ _ _ hzero]; rfl
          have g6 := free_of_block hzero 6
          have y7 : wr.cell? ⟨w.heap.size, 7, none⟩ = some (.int .i64 0) := by rw [cell_of_row _ _ _ _ _ _ hzero]; rfl
          have g7 := free_of_block hzero 7
          have y8 : wr.cell? ⟨w.heap.size, 8, none⟩ = some (.int .i64 0) := by rw [cell_of_row _ _ _ _ _ _ hzero]; rfl
          have g8 := free_of_block hzero 8
          have y9 : wr.cell? ⟨w.heap.size, 9, none⟩ = some (.slice none 0 0) := by rw [cell_of_row _ _ _ _ _ _ hzero]; rfl
          have g9 := free_of_block hzero 9
          have hne : ¬ w.heap.size + 1 = w.heap.size := by omega
          have hne' : ¬ w.heap.size = w.heap.size + 1 := by omega
          clear hzero
          generalize rdTo (rdProc zs) j r5 = Q at *
          rcases hcase with ⟨hkn, be⟩ | hkn
          all_goals
            go_wp2
            refine bodyPost_ret (v := .agg (ptCells (sy == 1) wd lm af (.slice adv mv cv))) (by simp [results, Tryz.results133, go_sem, ptCells, y0, y1, y2, y3, y4, y5, y6, y7, y8, y9]) rfl ?_
            obtain ⟨hM, hV⟩ := HE.out
            have tS : Touch (· = w.heap.size) wr ((((((((((wr.setCell ⟨w.heap.size, 0, none⟩ (.bool (sy == 1))).setCell ⟨w.heap.size, 1, none⟩ (.int .i64 wd)).setCell ⟨w.heap.size, 2, none⟩ (.int .i64 lm)).setCell ⟨w.heap.size, 3, none⟩ (.int .i64 (af 0))).setCell ⟨w.heap.size, 4, none⟩ (.int .i64 (af 1))).setCell ⟨w.heap.size, 5, none⟩ (.int .i64 (af 2))).setCell ⟨w.heap.size, 6, none⟩ (.int .i64 (af 3))).setCell ⟨w.heap.size, 7, none⟩ (.int .i64 (af 4))).setCell ⟨w.heap.size, 8, none⟩ (.int .i64 (af 5))).setCell ⟨w.heap.size, 9, none⟩ (.slice adv mv cv)) := Touch.trans (T := (· = w.heap.size)) (Touch.trans (T := (· = w.heap.size)) (Touch.trans (T := (· = w.heap.size)) (Touch.trans (T := (· = w.heap.size)) (Touch.trans (T := (· = w.heap.size)) (Touch.trans (T := (· = w.heap.size)) (Touch.trans (T := (· = w.heap.size)) (Touch.trans (T := (· = w.heap.size)) (Touch.trans (T := (· = w.heap.size)) (Touch.trans (T := (· = w.heap.size)) (Touch.refl _ _) (Touch.ofSet _ w.heap.size 0 _ rfl) (fun i hi => .inl hi)) (Touch.ofSet _ w.heap.size 1 _ rfl) (fun i hi => .inl hi)) (Touch.ofSet _ w.heap.size 2 _ rfl) (fun i hi => .inl hi)) (Touch.ofSet _ w.heap.size 3 _ rfl) (fun i hi => .inl hi)) (Touch.ofSet _ w.heap.size 4 _ rfl) (fun i hi => .inl hi)) (Touch.ofSet _ w.heap.size 5 _ rfl) (fun i hi => .inl hi)) (Touch.ofSet _ w.heap.size 6 _ rfl) (fun i hi => .inl hi)) (Touch.ofSet _ w.heap.size 7 _ rfl) (fun i hi => .inl hi)) (Touch.ofSet _ w.heap.size 8 _ rfl) (fun i hi => .inl hi)) (Touch.ofSet _ w.heap.size 9 _ rfl) (fun i hi => .inl hi)
            have hpp : rdPart zs r = (⟨sy == 1, wd, lm, S.1, Q.1⟩, Q.2) := by rw [HSP.out, HFIN.out]
            rw [hpp]
            refine ⟨.slice adv mv cv, by rw [HAF.out] <;> rfl, ?_, ?_, Touch.trans (T := (· = w.heap.size)) hM.t tS (fun i hi => .inr (by omega))⟩
            · exact (hV.keep (fun b h1 h2 _ => tS.block b h2 (by omega))).base (by omega)
            · exact ⟨(tS.block rb (by omega) (by omega)).trans hM.rd.obj, hM.rd.held.touch tS (fun ad e hn hs => by have := HLT.out ad e hn; omega), hM.rd.apart, hM.rd.small, hM.rd.pos⟩
end Go.Proofs.YtnjlbgolnbdkaaaGreat
/- What Parse answers, on lists; and how a configuration lies in memory. -/
namespace Go.Proofs.YtnjlbgolnbdkaaaGreat
open Go.RowKit

structure Wn where
  part : Int
  first : Int
  many : Int
structure Ch where
  src : Int
  dst : Int
  depth : Int
structure Cf where
  frame : Int
  watch : Int
  parts : List Pt
  wins : List Wn
  chans : List Ch
def rdWin (zs : List Int) (n frame : Int) (r : Rd) : Wn × Rd :=
  let a := rdB zs 0 (n - 1) r
  let b := rdB zs r.fin (frame - 1) a.2
  let c := rdB zs 1 (frame - b.1) b.2
  (⟨a.1, b.1, c.1⟩, { c.2 with fin := b.1 + c.1 })
def rdChan (zs : List Int) (n : Int) (r : Rd) : Ch × Rd :=
  let a := rdB zs 0 (n - 1) r
  let b := rdB zs 0 (n - 1) a.2
  let c := rdB zs 1 4 (rdNot b.1 a.1 b.2)
  (⟨a.1, b.1, c.1⟩, c.2)
def rdConf (zs : List Int) : Cf × Rd :=
  let r1 := (rdB zs 72 72 ⟨0, 0, 0, 0⟩).2
  let n := rdB zs 1 4 r1
  let f := rdB zs 1 64 n.2
  let wt := rdB zs 0 200 f.2
  let ps := rdTo (rdPart zs) n.1.toNat wt.2
  let m := rdB zs 1 8 ps.2
  let ws := rdTo (rdWin zs n.1 f.1) m.1.toNat { m.2 with fin := 0 }
  let k := rdB zs 0 4 ws.2
  let cs := rdTo (rdChan zs n.1) k.1.toNat k.2
  (⟨f.1, wt.1, ps.1, ws.1, cs.1⟩, cs.2)
def noCf : Cf := ⟨0, 0, [], [], []⟩
/- the configuration, the place, what is wrong -/
def parseOf (zs : List Int) : Cf × Int × Int :=
  let c := rdConf zs
  if c.2.err ≠ 0 then (noCf, c.2.pl, c.2.err)
  else if zs.length < c.2.pos + 4 then (noCf, zs.length, 2)
  else if numFrom 0 ((zs.drop c.2.pos).take 4) ≠ crcOf (zs.take c.2.pos) then (noCf, c.2.pos, 5)
  else if c.2.pos + 4 < zs.length then (noCf, (c.2.pos : Int) + 4, 4)
  else (c.1, 0, 0)

/- in memory -/
def ptsCells (l : List (Pt × Value)) : List Value := l.flatMap fun p => (ptCells p.1.sys p.1.words p.1.limit (fun i => p.1.acts.getD i 0) p.2).toList
theorem ptsCells_snoc (l : List (Pt × Value)) (p : Pt × Value) : ptsCells (l ++ [p]) = ptsCells l ++ (ptCells p.1.sys p.1.words p.1.limit (fun i => p.1.acts.getD i 0) p.2).toList := by simp [ptsCells]
def winCells (l : List Wn) : List Value := l.flatMap fun p => [.int .i64 p.part, .int .i64 p.first, .int .i64 p.many]
theorem winCells_snoc (l : List Wn) (p : Wn) : winCells (l ++ [p]) = winCells l ++ [.int .i64 p.part, .int .i64 p.first, .int .i64 p.many] := by simp [winCells]
def chanCells (l : List Ch) : List Value := l.flatMap fun p => [.int .i64 p.src, .int .i64 p.dst, .int .i64 p.depth]
theorem chanCells_snoc (l : List Ch) (p : Ch) : chanCells (l ++ [p]) = chanCells l ++ [.int .i64 p.src, .int .i64 p.dst, .int .i64 p.depth] := by simp [chanCells]
def PartsV (base : Nat) (v : Value) (ps : List Pt) (w : World) : Prop := ∃ l : List (Pt × Value), l.map Prod.fst = ps ∧ w.ownsRow base 124 10 v l.length (ptsCells l) ∧ ∀ p ∈ l, ProcsV base p.2 p.1.procs w
def WinsV (base : Nat) (v : Value) (l : List Wn) (w : World) : Prop := w.ownsRow base 131 3 v l.length (winCells l)
def ChansV (base : Nat) (v : Value) (l : List Ch) (w : World) : Prop := w.ownsRow base 142 3 v l.length (chanCells l)

/- whose a block is, by the type of its elements -/
def OfType (w : World) (b : Nat) (P : TypeId → Prop) : Prop := ∃ cur t, P t ∧ w.heap[b]? = some (.cells cur t (0, 0))
theorem own_of {w : World} {base : Nat} {e : TypeId} {size : Nat} {v : Value} {n : Nat} {xs : List Value} (h : w.ownsRow base e size v n xs) {b : Nat} (hb : v.ownBlock = some b) : ∃ cur, w.heap[b]? = some (.cells cur e (0, 0)) := by
  rcases h.2 with ⟨h1, _⟩ | ⟨g, cap, cur, hv, _, hh, _⟩
  · rw [h1] at hb; simp [Value.ownBlock] at hb
  · rw [hv] at hb; simp [Value.ownBlock] at hb; subst hb; exact ⟨cur, hh⟩
theorem own_type {w w' : World} {base : Nat} {e : TypeId} {size : Nat} {v : Value} {n : Nat} {xs : List Value} (h : w.ownsRow base e size v n xs) (hs : ∀ b, base ≤ b → b < w.heap.size → OfType w b (· = e) → w'.heap[b]? = w.heap[b]?) : w'.ownsRow base e size v n xs :=
  own_keep h (fun b hb => hs b (World.ownsRow.lt h b hb).1 (World.ownsRow.lt h b hb).2 (by obtain ⟨cur, hc⟩ := own_of h hb; exact ⟨cur, e, rfl, hc⟩))
theorem own_low {w : World} {base base' : Nat} {e : TypeId} {size : Nat} {v : Value} {n : Nat} {xs : List Value} (h : w.ownsRow base e size v n xs) (hb : base' ≤ base) : w.ownsRow base' e size v n xs := by
  obtain ⟨h1, h2⟩ := h
  rcases h2 with h2 | ⟨g', cap, cur, hv, hb', rest⟩
  · exact ⟨h1, .inl h2⟩
  · exact ⟨h1, .inr ⟨g', cap, cur, hv, by omega, rest⟩⟩
theorem PartsV.keep {base : Nat} {v : Value} {ps : List Pt} {w w' : World} (h : PartsV base v ps w) (hs : ∀ b, base ≤ b → b < w.heap.size → OfType w b (fun t => t = 124 ∨ t = 210 ∨ t = 190) → w'.heap[b]? = w.heap[b]?) : PartsV base v ps w' := by
  obtain ⟨l, h1, h2, h3⟩ := h
  refine ⟨l, h1, own_type h2 (fun b hb hl ⟨cur, t, ht, hc⟩ => hs b hb hl ⟨cur, t, .inl ht, hc⟩), fun p hp => (h3 p hp).keep (fun b hb hl ⟨cur, t, ht, hc⟩ => hs b hb hl ⟨cur, t, .inr ht, hc⟩)⟩
theorem PartsV.base {base base' : Nat} {v : Value} {ps : List Pt} {w : World} (h : PartsV base v ps w) (hb : base' ≤ base) : PartsV base' v ps w := by
  obtain ⟨l, h1, h2, h3⟩ := h
  exact ⟨l, h1, own_low h2 hb, fun p hp => (h3 p hp).base hb⟩
theorem parts_nil (base : Nat) (w : World) : PartsV base (.slice none 0 0) [] w := ⟨[], rfl, World.ownsRow_nil _ _ _ _, fun p hp => by simp at hp⟩
theorem own_slice {w : World} {base : Nat} {e : TypeId} {size : Nat} {v : Value} {n : Nat} {xs : List Value} (h : w.ownsRow base e size v n xs) : ∃ ad c, v = .slice ad n c := by
  rcases h.2 with ⟨h1, h2⟩ | ⟨g', cap', cur, hv, _⟩
  · exact ⟨none, 0, by rw [h1, h2]⟩
  · exact ⟨_, _, hv⟩
structure ConfV (base : Nat) (vP vW vC : Value) (cf : Cf) (w : World) : Prop where
  parts : PartsV base vP cf.parts w
  wins : WinsV base vW cf.wins w
  chans : ChansV base vC cf.chans w
theorem conf_nil (base : Nat) (w : World) : ConfV base (.slice none 0 0) (.slice none 0 0) (.slice none 0 0) noCf w := ⟨parts_nil _ _, World.ownsRow_nil _ _ _ _, World.ownsRow_nil _ _ _ _⟩
theorem ConfV.keep {base : Nat} {vP vW vC : Value} {cf : Cf} {w w' : World} (h : ConfV base vP vW vC cf w) (hs : ∀ b, base ≤ b → b < w.heap.size → w'.heap[b]? = w.heap[b]?) : ConfV base vP vW vC cf w' :=
  ⟨h.parts.keep (fun b h1 h2 _ => hs b h1 h2), own_type h.wins (fun b h1 h2 _ => hs b h1 h2), own_type h.chans (fun b h1 h2 _ => hs b h1 h2)⟩
theorem ConfV.base {base base' : Nat} {vP vW vC : Value} {cf : Cf} {w : World} (h : ConfV base vP vW vC cf w) (hb : base' ≤ base) : ConfV base' vP vW vC cf w := ⟨h.parts.base hb, own_low h.wins hb, own_low h.chans hb⟩

/- the values that are read are small -/
theorem rdB_small (zs : List Int) (lo hi : Int) (r : Rd) (hz : ∀ z ∈ zs, 0 ≤ z ∧ z < 256) (h0 : 0 ≤ lo) (h1 : lo ≤ 255) : 0 ≤ (rdB zs lo hi r).1 ∧ (rdB zs lo hi r).1 ≤ 255 := by
  unfold rdB
  split
  · exact ⟨h0, h1⟩
  · split
    · exact ⟨h0, h1⟩
    · rename_i h2
      split
      · exact ⟨h0, h1⟩
      · have := hz (zs.getD r.pos 0) (by rw [List.getD_eq_getElem?_getD, List.getElem?_eq_getElem (by omega)]; simp)
        simp only; omega
theorem rdB_fin (zs : List Int) (lo hi : Int) (r : Rd) : (rdB zs lo hi r).2.fin = r.fin := by
  unfold rdB
  repeat (first | rfl | split)
/- while nothing is wrong, the last window ends within the frame -/
theorem win_fin (zs : List Int) (n frame : Int) (r : Rd) (h0 : r.fin = 0) (hf : 0 ≤ frame) (k : Nat) (h : (rdTo (rdWin zs n frame) k r).2.err = 0) : 0 ≤ (rdTo (rdWin zs n frame) k r).2.fin ∧ (rdTo (rdWin zs n frame) k r).2.fin ≤ frame := by
  induction k with
  | zero => show 0 ≤ r.fin ∧ r.fin ≤ frame; omega
  | succ k ih =>
    by_cases he : (rdTo (rdWin zs n frame) k r).2.err = 0
    · have ih' := ih he
      rw [rdTo_go _ k r he] at h ⊢
      generalize (rdTo (rdWin zs n frame) k r).2 = q at *
      simp only [rdWin] at h ⊢
      obtain ⟨h1, _, e1, l1, u1, _⟩ := rdB_ok _ _ _ _ h
      obtain ⟨_, _, e2, l2, u2, _⟩ := rdB_ok _ _ _ _ h1
      omega
    · have := rdTo_stop (rdWin zs n frame) k r he (k + 1) (by omega)
      rw [this] at h
      exact absurd h he
end Go.Proofs.YtnjlbgolnbdkaaaGreat
/- The flash, and the document's reading of its journal: notions; Bytes, Done, NewFlash; slot, headed. -/
namespace Go.Proofs.YtnjlbgolnbdkaaaGreat
open Go.RowKit

/- a flash in memory: its 256 bytes; how much is left, the residue, is the power lost, how much was done -/
def flashCells (bs : List Int) (left res : Int) (dead : Bool) (done : Int) : List Value := vals bs ++ [.int .i64 left, .int .u8 res, .bool dead, .int .i64 done]
structure FlashAt (w : World) (g : Nat) (bs : List Int) (left res : Int) (dead : Bool) (done : Int) : Prop where
  blk : w.heap[g]? = some (.cells (flashCells bs left res dead done).toArray 80 (0, 0))
  len : bs.length = 256
  bytes : Bytes bs
theorem FlashAt.lt {w : World} {g : Nat} {bs : List Int} {left res : Int} {dead : Bool} {done : Int} (h : FlashAt w g bs left res dead done) : g < w.heap.size := lt_of_block h.blk
theorem FlashAt.keep {w w' : World} {g : Nat} {bs : List Int} {left res : Int} {dead : Bool} {done : Int} (h : FlashAt w g bs left res dead done) (hs : w'.heap[g]? = w.heap[g]?) : FlashAt w' g bs left res dead done := ⟨hs.trans h.blk, h.len, h.bytes⟩
theorem FlashAt.below {w w' : World} {g : Nat} {bs : List Int} {left res : Int} {dead : Bool} {done : Int} (h : FlashAt w g bs left res dead done) (hb : Below w.heap.size w w') : FlashAt w' g bs left res dead done := h.keep (hb.block g h.lt)
theorem FlashAt.byte {w : World} {g : Nat} {bs : List Int} {left res : Int} {dead : Bool} {done : Int} (h : FlashAt w g bs left res dead done) (i : Nat) (hi : i < 256) : w.cell? ⟨g, i, none⟩ = some (.int .u8 (bs.getD i 0)) := by
  have hl : i < bs.length := by rw [h.len]; exact hi
  rw [cell_of_row _ _ _ _ _ _ h.blk]
  simp only [flashCells, List.getElem?_toArray]
  rw [List.getElem?_append_left (by rw [vals_length]; exact hl)]
  simp [vals, List.getD_eq_getElem?_getD, hl]
theorem FlashAt.last {w : World} {g : Nat} {bs : List Int} {left res : Int} {dead : Bool} {done : Int} (h : FlashAt w g bs left res dead done) : w.cell? ⟨g, 256, none⟩ = some (.int .i64 left) ∧ w.cell? ⟨g, 257, none⟩ = some (.int .u8 res) ∧ w.cell? ⟨g, 258, none⟩ = some (.bool dead) ∧ w.cell? ⟨g, 259, none⟩ = some (.int .i64 done) := by
  have key : ∀ i, w.cell? ⟨g, 256 + i, none⟩ = [Value.int .i64 left, .int .u8 res, .bool dead, .int .i64 done][i]? := by
    intro i
    rw [cell_of_row _ _ _ _ _ _ h.blk]
    simp only [flashCells, List.getElem?_toArray]
    rw [List.getElem?_append_right (by rw [vals_length, h.len]; omega), vals_length, h.len]
    rw [show 256 + i - 256 = i from by omega]
  exact ⟨key 0, key 1, key 2, key 3⟩

set_option maxHeartbeats 1000000 in
theorem done_any (g : Nat) (bs : List Int) (left res : Int) (dead : Bool) (done : Int) (w : World) (h : FlashAt w g bs left res dead done) :
    Calls Tryz.prog 64 #[.pointer (some ⟨g, 0, none⟩)] w fun e w' => e = .returned (.int .i64 done) ∧ w' = w := by
  have c := h.last.2.2.2
  clear h
  go_enter Tryz.func64, Tryz.ntmps64
  go_wp2
  go_ret
  exact ⟨rfl, rfl⟩

set_option maxHeartbeats 1000000 in
theorem bytes_any (g : Nat) (bs : List Int) (left res : Int) (dead : Bool) (done : Int) (w : World) (h : FlashAt w g bs left res dead done) :
    Calls Tryz.prog 35 #[.pointer (some ⟨g, 0, none⟩)] w fun e w' => ∃ x cap, e = .returned (.slice (some ⟨x, 0, none⟩) 256 cap) ∧ w'.ownsRow w.heap.size 5 1 (.slice (some ⟨x, 0, none⟩) 256 cap) 256 (vals bs) ∧ Below w.heap.size w w' := by
  obtain ⟨i0, hi, hz0, hz1, hz2⟩ := info_parts Tryz.info5
  have HF := hide h
  clear h
  go_enter Tryz.func35, Tryz.ntmps35
  go_wp2_with (at_builtin; go_must (refine wpList_append_lies _ rfl (.const (.slice none 0 0)) (.tmp 6) 22 rfl w.heap.size 5 i0 (.int .u8 0) 1 1 Tryz.underlying22 hi hz0 hz1 hz2 rfl (by decide) (.slice none 0 0) 0 [] rfl (World.ownsRow_nil _ _ _ _) ⟨g, 0, none⟩ 256 256 (vals bs) (by rfl) (by rw [vals_length, HF.out.len]) (fun j u hu => ?_) (vals_one bs) (by omega) (by decide) (by omega) (by omega) _ rfl ?_))
  · have hj : j < bs.length := by have := (List.getElem?_eq_some_iff.1 hu).1; rwa [vals_length] at this
    have e : (⟨g, 0, none⟩ : Addr).add j = ⟨g, j, none⟩ := by unfold Addr.add; split <;> simp_all
    rw [e, HF.out.byte j (by rw [← HF.out.len]; exact hj), ← hu]
    simp [vals, List.getD_eq_getElem?_getD, hj]
  · intro x cap w' hown hgrow _ _
    have HO := hide hown
    have HG : Hid (Below w.heap.size w w') := (Below.refl _ _).grown hgrow (Nat.le_refl _) (by simp [Value.ownBlock])
    clear hown hgrow
    go_wp2
    go_ret
    exact ⟨x, cap, by simp, by simpa using HO.out, HG.out⟩

theorem Below.thenSet {B : Nat} {a w : World} {g : Nat} (h : Below B a w) (hg : B ≤ g) (o : Nat) (v : Value) : Below B a (w.setCell ⟨g, o, none⟩ v) :=
  h.trans ⟨rfl, rfl, rfl, by simp [World.setCell], fun k hk => Below.heap_setCell w ⟨g, o, none⟩ v k (fun e => by simp at e; omega)⟩

/- the journal, on lists -/
def slotB (bs : List Int) (s i : Nat) : List Int := (bs.drop (128 * s + 16 * i)).take 16
def kindAt (bs : List Int) (s i : Nat) : Int := sortKind (slotB bs s i)
def recOf (bs : List Int) (s i : Nat) : Nat → Int := sortRec (slotB bs s i)
theorem slotB_length (bs : List Int) (s i : Nat) (hl : bs.length = 256) (hs : s < 2) (hi : i < 8) : (slotB bs s i).length = 16 := by
  unfold slotB
  rw [List.length_take, List.length_drop]
  omega

set_option maxHeartbeats 1000000 in
theorem rslotAt_any (x cap : Nat) (bs : List Int) (s i : Nat) (w : World) (hs : s < 2) (hi : i < 8) (hl : bs.length = 256) (hb : Bytes bs) (hr : Row w x 0 bs) (hc1 : 256 ≤ cap) (hc2 : cap ≤ 9223372036854775807) :
    Calls Tryz.prog 177 #[.slice (some ⟨x, 0, none⟩) 256 cap, .int .i64 s, .int .i64 i] w fun e w' => e = .returned (.tuple #[.int .i64 (kindAt bs s i), aggOf (recOf bs s i)]) ∧ Below w.heap.size w w' := by
  have HR := hide hr
  clear hr
  go_enter Tryz.func177, Tryz.ntmps177
  go_wp2_with fail
  refine (rsort_any x (128 * s + 16 * i) (cap - (128 * s + 16 * i)) (slotB bs s i) _ (slotB_length bs s i hl hs hi) ((hb.drop _).take _) (by have := (HR.out.alloc zeros).piece (128 * s + 16 * i) 16; rwa [Nat.zero_add] at this) (by omega) (by omega)).mono ?_
  rintro e w2 ⟨rfl, hb2⟩
  have hz : w2.heap[w.heap.size]? = some zeros := (hb2.block _ (by simp)).trans (heap_alloc_new w _)
  have HB2 : Hid (Below w.heap.size w w2) := ((Below.refl _ _).alloc (Nat.le_refl _) _).trans (hb2.mono (by simp))
  have c0 : w2.cell? ⟨w.heap.size, 0, none⟩ = some (.int .i64 0) := by rw [cell_of_row _ _ _ _ _ _ hz]; rfl
  have c1 : w2.cell? ⟨w.heap.size, 1, none⟩ = some (.int .i64 0) := by rw [cell_of_row _ _ _ _ _ _ hz]; rfl
  have c2 : w2.cell? ⟨w.heap.size, 2, none⟩ = some (.int .i64 0) := by rw [cell_of_row _ _ _ _ _ _ hz]; rfl
  have c3 : w2.cell? ⟨w.heap.size, 3, none⟩ = some (.int .i64 0) := by rw [cell_of_row _ _ _ _ _ _ hz]; rfl
  have c4 : w2.cell? ⟨w.heap.size, 4, none⟩ = some (.int .i64 0) := by rw [cell_of_row _ _ _ _ _ _ hz]; rfl
  have f0 := free_of_block hz 0
  have f1 := free_of_block hz 1
  have f2 := free_of_block hz 2
  have f3 := free_of_block hz 3
  have f4 := free_of_block hz 4
  have hlt : w.heap.size < w2.heap.size := lt_of_block hz
  clear hb2 hz
  simp only [aggOf]
  have HE : Hid ((.int .i64 (kindAt bs s i) : Value) = .int .i64 (sortKind (slotB bs s i)) ∧ aggOf (recOf bs s i) = .agg #[.int .i64 (sortRec (slotB bs s i) 0), .int .i64 (sortRec (slotB bs s i) 1), .int .i64 (sortRec (slotB bs s i) 2), .int .i64 (sortRec (slotB bs s i) 3), .int .i64 (sortRec (slotB bs s i) 4)]) := ⟨rfl, rfl⟩
  generalize sortKind (slotB bs s i) = kk at HE ⊢
  generalize sortRec (slotB bs s i) 0 = r0 at HE ⊢
  generalize sortRec (slotB bs s i) 1 = r1 at HE ⊢
  generalize sortRec (slotB bs s i) 2 = r2 at HE ⊢
  generalize sortRec (slotB bs s i) 3 = r3 at HE ⊢
  generalize sortRec (slotB bs s i) 4 = r4 at HE ⊢
  go_wp2
  refine bodyPost_ret (v := .tuple #[.int .i64 kk, .agg #[.int .i64 r0, .int .i64 r1, .int .i64 r2, .int .i64 r3, .int .i64 r4]]) (by simp [results, Tryz.results177, go_sem, c0, c1, c2, c3, c4]) rfl ?_
  rw [HE.out.1, HE.out.2]
  refine ⟨rfl, ?_⟩
  iterate 5 refine Below.thenSet ?_ (Nat.le_refl _) _ _
  exact HB2.out
end Go.Proofs.YtnjlbgolnbdkaaaGreat
