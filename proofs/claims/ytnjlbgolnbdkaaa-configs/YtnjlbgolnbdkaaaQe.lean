/- The program's reader: partition. -/
import Derived.Test.YtnjlbgolnbdkaaaQd
import Derived.Test.YtnjlbgolnbdkaaaQs
namespace Go.Proofs.Ytnjlbgolnbdkaaa
open Go.RowKit

def pgActs (zs : List Int) : Nat → Rs → List Int × Rs
  | 0, s => ([], s)
  | k + 1, s => ((pgActs zs k s).1 ++ [(pgAct zs k (pgActs zs k s).2).1], (pgAct zs k (pgActs zs k s).2).2)
theorem pgActs_length (zs : List Int) (k : Nat) (s : Rs) : (pgActs zs k s).1.length = k := by
  induction k with
  | zero => rfl
  | succ k ih => show ((pgActs zs k s).1 ++ [_]).length = k + 1; simp [ih]
def pgPart (zs : List Int) (s : Rs) : Pt × Rs :=
  let a := pgB zs 0 1 [] s
  let b := pgB zs 1 16 [] a.2
  let c := pgB zs 0 9 [] b.2
  let d := pgActs zs 6 c.2
  let m := pgB zs 1 2 [] d.2
  let q := pgTo (pgProc zs) m.1.toNat m.2
  (⟨a.1 == 1, b.1, c.1, d.1, q.1⟩, q.2)

/- a struct of type T in the making: its block (B + 1), the result's (B), the reader's -/
structure PMk (rb : Nat) (ao : Option Addr) (n cap : Nat) (zs : List Int) (T : TypeId) (zero : Array Value) (w : World) (cells : Array Value) (s : Rs) (wr : World) : Prop where
  zero : wr.heap[w.heap.size]? = some (.cells zero T (0, 0))
  cur : wr.heap[w.heap.size + 1]? = some (.cells cells T (0, 0))
  rd : PgAt rb ao n cap zs s wr
  t : Touch (· = rb) w wr
section
variable {rb : Nat} {ao : Option Addr} {n cap : Nat} {zs : List Int} {T : TypeId} {zero : Array Value} {w : World} {cells : Array Value} {s s' : Rs} {wr w' : World}
theorem PMk.byte (h : PMk rb ao n cap zs T zero w cells s wr) (hrb : rb < w.heap.size) (hr : PgAt rb ao n cap zs s' w') (ht : Touch (· = rb) wr w') : PMk rb ao n cap zs T zero w cells s' w' :=
  ⟨(ht.block _ (lt_of_block h.zero) (by omega)).trans h.zero, (ht.block _ (lt_of_block h.cur) (by omega)).trans h.cur, hr, h.t.andThen ht⟩
theorem PMk.new (h : PMk rb ao n cap zs T zero w cells s wr) (hrb : rb < w.heap.size) (hlt : ∀ ad, ao = some ad → 0 < n → ad.block < w.heap.size) (t : Touch (fun i => w.heap.size + 2 ≤ i) wr w') : PMk rb ao n cap zs T zero w cells s w' :=
  ⟨(t.block _ (lt_of_block h.zero) (by omega)).trans h.zero, (t.block _ (lt_of_block h.cur) (by omega)).trans h.cur, h.rd.new hrb hlt (t.mono (fun k hk => by omega)), h.t.andNew (t.mono (fun k hk => by omega))⟩
theorem PMk.set (h : PMk rb ao n cap zs T zero w cells s wr) (hrb : rb < w.heap.size) (hlt : ∀ ad, ao = some ad → 0 < n → ad.block < w.heap.size) (o : Nat) (v : Value) : PMk rb ao n cap zs T zero w (cells.setIfInBounds o v) s (wr.setCell ⟨w.heap.size + 1, o, none⟩ v) := by
  have t : Touch (· = w.heap.size + 1) wr (wr.setCell ⟨w.heap.size + 1, o, none⟩ v) := Touch.ofSet wr _ o v rfl
  exact ⟨(t.block _ (lt_of_block h.zero) (by omega)).trans h.zero, block_set h.cur o v, h.rd.new hrb hlt (t.mono (fun k hk => by omega)), h.t.andNew (t.mono (fun k hk => by omega))⟩
theorem PMk.start (hr : PgAt rb ao n cap zs s w) (zero cells : Array Value) (T : TypeId) : PMk rb ao n cap zs T zero w cells s ((w.alloc (.cells zero T)).alloc (.cells cells T)) :=
  ⟨(Below.heap_alloc _ _ _ (by simp)).trans (heap_alloc_new w _), new_two w _ _, (hr.alloc _).alloc _, (touch_alloc _ _).andThen (touch_alloc _ _)⟩
end

theorem Touch.thenSet {S : Nat → Prop} {a b : World} (h : Touch S a b) {g : Nat} (o : Nat) (v : Value) (hg : S g) : Touch S a (b.setCell ⟨g, o, none⟩ v) := h.andThen (Touch.ofSet b g o v hg)
theorem code_touch {base : Nat} {v : Value} {code : List (Int × Int)} {w w' : World} {S : Nat → Prop} (h : CodeV base v code w) (t : Touch S w w') (hS : ∀ b, S b → base ≤ b → ¬ OfType w b (· = 102)) : CodeV base v code w' :=
  h.keep (fun b h1 h2 ⟨cur, hc⟩ => t.block b h2 (fun hs => hS b hs h1 ⟨cur, 102, rfl, hc⟩))
theorem oftype_ne {w : World} {b : Nat} {s t : TypeId} (h : OfType w b (· = s)) (hne : s ≠ t) : ¬ OfType w b (· = t) := by
  rintro ⟨c2, t2, ht2, h2⟩
  obtain ⟨c1, t1, ht1, h1⟩ := h
  subst ht1 ht2
  rw [h1] at h2
  simp at h2
  exact hne h2.2

set_option maxRecDepth 100000 in
set_option maxHeartbeats 4000000 in
theorem pgpartition_any (rb : Nat) (ao : Option Addr) (n cap : Nat) (zs : List Int) (s : Rs) (w : World) (h : PgAt rb ao n cap zs s w) :
    Calls Try.prog 48 #[.pointer (some ⟨rb, 0, none⟩)] w fun e w' => ∃ ad m c, e = .returned (.agg (ptCells (pgPart zs s).1.sys (pgPart zs s).1.words (pgPart zs s).1.limit (fun i => (pgPart zs s).1.acts.getD i 0) (.slice ad m c))) ∧ ProcsIn w.heap.size w'.heap.size (.slice ad m c) (pgPart zs s).1.procs w' ∧ PgAt rb ao n cap zs (pgPart zs s).2 w' ∧ Touch (· = rb) w w' := by
  have hrb := lt_of_block h.obj
  have HLT : Hid (∀ ad, ao = some ad → 0 < n → ad.block < w.heap.size) := h.held.lt
  have HBY := hide h.held.bytes
  have HM := hide (PMk.start h (ptCells false 0 0 (fun _ => 0) (.slice none 0 0)) (ptCells false 0 0 (fun _ => 0) (.slice none 0 0)) 90)
  clear h
  have HSP : Hid (pgPart zs s = (⟨(pgB zs 0 1 [] s).1 == 1, (pgB zs 1 16 [] (pgB zs 0 1 [] s).2).1, (pgB zs 0 9 [] (pgB zs 1 16 [] (pgB zs 0 1 [] s).2).2).1, (pgActs zs 6 (pgB zs 0 9 [] (pgB zs 1 16 [] (pgB zs 0 1 [] s).2).2).2).1, (pgTo (pgProc zs) (pgB zs 1 2 [] (pgActs zs 6 (pgB zs 0 9 [] (pgB zs 1 16 [] (pgB zs 0 1 [] s).2).2).2).2).1.toNat (pgB zs 1 2 [] (pgActs zs 6 (pgB zs 0 9 [] (pgB zs 1 16 [] (pgB zs 0 1 [] s).2).2).2).2).2).1⟩, (pgTo (pgProc zs) (pgB zs 1 2 [] (pgActs zs 6 (pgB zs 0 9 [] (pgB zs 1 16 [] (pgB zs 0 1 [] s).2).2).2).2).1.toNat (pgB zs 1 2 [] (pgActs zs 6 (pgB zs 0 9 [] (pgB zs 1 16 [] (pgB zs 0 1 [] s).2).2).2).2).2).2)) := rfl
  have HB1 := hide (pgnum0 rb ao n cap zs s 0 1 _ HM.out.rd)
  generalize (pgB zs 0 1 [] s).1 = sy at HSP HB1
  generalize (pgB zs 0 1 [] s).2 = r1 at HSP HB1
  go_enter Try.func48, Try.ntmps48
  go_wp2_with fail
  refine HB1.out.mono ?_
  rintro e w1 ⟨rfl, hr1, ht1⟩
  have HM1 := hide (HM.out.byte hrb hr1 ht1)
  have p0 : w1.cell? ⟨w.heap.size + 1, 0, none⟩ = some (.bool false) := by rw [cell_of_row _ _ _ _ _ _ HM1.out.cur]; rfl
  have f0 := free_of_block HM1.out.cur 0
  clear hr1 ht1 HM HB1
  have HM2 : Hid (PMk rb ao n cap zs 90 (ptCells false 0 0 (fun _ => 0) (.slice none 0 0)) w (ptCells (sy == 1) 0 0 (fun _ => 0) (.slice none 0 0)) r1 (w1.setCell ⟨w.heap.size + 1, 0, none⟩ (.bool (sy == 1)))) := HM1.out.set hrb HLT.out 0 (.bool (sy == 1))
  have HB2 := hide (pgnum0 rb ao n cap zs r1 1 16 _ HM2.out.rd)
  generalize (pgB zs 1 16 [] r1).1 = wd at HSP HB2
  generalize (pgB zs 1 16 [] r1).2 = r2 at HSP HB2
  go_wp2_with fail
  refine HB2.out.mono ?_
  rintro e w2 ⟨rfl, hr2, ht2⟩
  have HM3 := hide (HM2.out.byte hrb hr2 ht2)
  have p1 : w2.cell? ⟨w.heap.size + 1, 1, none⟩ = some (.int .i64 0) := by rw [cell_of_row _ _ _ _ _ _ HM3.out.cur]; rfl
  have f1 := free_of_block HM3.out.cur 1
  clear hr2 ht2 HM2 HB2 HM1 p0 f0
  have HM4 : Hid (PMk rb ao n cap zs 90 (ptCells false 0 0 (fun _ => 0) (.slice none 0 0)) w (ptCells (sy == 1) wd 0 (fun _ => 0) (.slice none 0 0)) r2 (w2.setCell ⟨w.heap.size + 1, 1, none⟩ (.int .i64 wd))) := HM3.out.set hrb HLT.out 1 (.int .i64 wd)
  have HB3 := hide (pgnum0 rb ao n cap zs r2 0 9 _ HM4.out.rd)
  generalize (pgB zs 0 9 [] r2).1 = lm at HSP HB3
  generalize (pgB zs 0 9 [] r2).2 = r3 at HSP HB3
  go_wp2_with fail
  refine HB3.out.mono ?_
  rintro e w3 ⟨rfl, hr3, ht3⟩
  have HM5 := hide (HM4.out.byte hrb hr3 ht3)
  have p2 : w3.cell? ⟨w.heap.size + 1, 2, none⟩ = some (.int .i64 0) := by rw [cell_of_row _ _ _ _ _ _ HM5.out.cur]; rfl
  have f2 := free_of_block HM5.out.cur 2
  clear hr3 ht3 HM4 HB3 HM3 p1 f1
  have HM6 : Hid (PMk rb ao n cap zs 90 (ptCells false 0 0 (fun _ => 0) (.slice none 0 0)) w (ptCells (sy == 1) wd lm (fun _ => 0) (.slice none 0 0)) r3 (w3.setCell ⟨w.heap.size + 1, 2, none⟩ (.int .i64 lm))) := HM5.out.set hrb HLT.out 2 (.int .i64 lm)
  go_wp2
  go_loopw [16] (fun i wr => ∃ k : Nat, k ≤ 6 ∧ i = .int .i64 k ∧ PMk rb ao n cap zs 90 (ptCells false 0 0 (fun _ => 0) (.slice none 0 0)) w (ptCells (sy == 1) wd lm (fun i => (pgActs zs k r3).1.getD i 0) (.slice none 0 0)) (pgActs zs k r3).2 wr) (fun i _ => 6 - (intOf i).toNat)
  case atStart => exact ⟨0, by omega, rfl, HM6.out⟩
  case round =>
    obtain ⟨k, hk, rfl, hM⟩ := hrel
    by_cases hlt : k < 6
    · have hlen := pgActs_length zs k r3
      have HST : Hid (pgActs zs (k + 1) r3 = ((pgActs zs k r3).1 ++ [(pgAct zs k (pgActs zs k r3).2).1], (pgAct zs k (pgActs zs k r3).2).2)) := rfl
      have HB := hide (pgaction_any rb ao n cap zs (pgActs zs k r3).2 k wr hM.rd hlt)
      have HM := hide hM
      clear hM
      generalize pgActs zs k r3 = S at HST HB HM hlen
      generalize (pgAct zs k S.2).1 = a at HST HB
      generalize (pgAct zs k S.2).2 = Ra at HST HB
      go_wp2_with fail
      refine HB.out.mono ?_
      rintro e wA ⟨rfl, hrA, htA⟩
      have HMA := hide (HM.out.byte hrb hrA htA)
      have hcurA := HMA.out.cur
      have pk : ∃ u, wA.cell? ⟨w.heap.size + 1, 3 + k, none⟩ = some u := by
        rw [cell_of_row _ _ _ _ _ _ hcurA]
        exact ⟨_, Array.getElem?_eq_getElem (show 3 + k < (ptCells (sy == 1) wd lm (fun i => S.1.getD i 0) (.slice none 0 0)).size from by show 3 + k < 10; omega)⟩
      obtain ⟨u, hu⟩ := pk
      have fk := free_of_block hcurA (3 + k)
      have HMS : Hid (PMk rb ao n cap zs 90 (ptCells false 0 0 (fun _ => 0) (.slice none 0 0)) w (ptCells (sy == 1) wd lm (fun i => (S.1 ++ [a]).getD i 0) (.slice none 0 0)) Ra (wA.setCell ⟨w.heap.size + 1, 3 + k, none⟩ (.int .i64 a))) := by
        have := HMA.out.set hrb HLT.out (3 + k) (.int .i64 a)
        obtain ⟨g1, g2⟩ := acts_getD S.1 a k hlen
        rw [pt_set (sy == 1) wd lm (fun i => S.1.getD i 0) (fun i => (S.1 ++ [a]).getD i 0) (.slice none 0 0) k a hlt g1 g2] at this
        exact this
      clear hrA htA HB HM hcurA
      go_wp2
      go_roundw
      case rel => exact ⟨k + 1, by omega, by go_num, by rw [HST.out]; exact HMS.out⟩
      case measure => simp [intOf]; omega
    · obtain HK : Hid (k = 6) := (by omega : k = 6)
      have HM := hide hM
      clear hM HM5 HM6 p2 f2
      have hM0 : PMk rb ao n cap zs 90 (ptCells false 0 0 (fun _ => 0) (.slice none 0 0)) w (ptCells (sy == 1) wd lm (fun i => (pgActs zs 6 r3).1.getD i 0) (.slice none 0 0)) (pgActs zs 6 r3).2 wr := by
        have h6 := HM.out
        rw [HK.out] at h6
        exact h6
      have HB := hide (pgnum0 rb ao n cap zs (pgActs zs 6 r3).2 1 2 wr hM0.rd)
      have HM0 := hide hM0
      have hN1 := pgB_small zs 1 2 [] (pgActs zs 6 r3).2 HBY.out
      have hN2 := pgB_le zs 1 2 [] (pgActs zs 6 r3).2 (by omega)
      generalize pgActs zs 6 r3 = S at HSP HB HM0 hN1 hN2
      generalize (pgB zs 1 2 [] S.2).1 = N at HSP HB hN1 hN2
      generalize (pgB zs 1 2 [] S.2).2 = r5 at HSP HB
      clear HM HK hM0
      obtain ⟨af, haf⟩ : ∃ af : Nat → Int, af = fun i => S.1.getD i 0 := ⟨_, rfl⟩
      rw [← haf] at HM0
      have HAF := hide haf
      clear haf
      go_wp2_with fail
      refine HB.out.mono ?_
      rintro e wP ⟨rfl, hrP, htP⟩
      have HMP := hide (HM0.out.byte hrb hrP htP)
      have hsP := lt_of_block HMP.out.cur
      clear hrP htP HB HM0
      have hLI := list_proc rb N.toNat (by omega) (· = rb) wP (fun b hb => by omega) (fun j l wr => l.map Prod.fst = (pgTo (pgProc zs) j r5).1 ∧ PgAt rb ao n cap zs (pgTo (pgProc zs) j r5).2 wr ∧ Touch (· = rb) wP wr ∧ (∀ p ∈ l, CodeV wP.heap.size p.2 p.1.code wr) ∧ Aparts l)
        (fun j l wr w' hI t => ⟨hI.1, hI.2.1.new (B := wP.heap.size) (by omega) (fun ad e hn => by have := HLT.out ad e hn; omega) (t.mono (fun k hk => hk.1)), hI.2.2.1.andNew (t.mono (fun k hk => hk.1)), fun p hp => code_touch (hI.2.2.2.1 p hp) t (fun b hb _ => oftype_ne hb.2 (by decide)), hI.2.2.2.2⟩)
        (fun j l wr hj hI => (pgprocess_any rb ao n cap zs _ wr hI.2.1).mono (fun e w' ⟨ad, m, c, he, hc, hp, ht⟩ => ⟨_, ad, m, c, he, ⟨by rw [List.map_append, hI.1]; rfl, hp, hI.2.2.1.andThen ht, fun p hp => by
          rcases List.mem_append.1 hp with hp | hp
          · exact code_touch (hI.2.2.2.1 p hp) ht (fun b hb h2 => by omega)
          · obtain rfl := List.mem_singleton.1 hp
            exact hc.base hI.2.2.1.size, aparts_snoc hI.2.2.2.2 hI.2.2.2.1 hc⟩, ht⟩))
        ⟨rfl, HMP.out.rd, Touch.refl _ _, fun p hp => by simp at hp, List.Pairwise.nil⟩
      rw [show ((N.toNat : Nat) : Int) = N from by omega] at hLI
      have HLI := hide hLI
      clear hLI
      go_wp2_with fail
      refine HLI.out.mono ?_
      rintro e w5 ⟨v, l, rfl, ⟨hl, hp, ht, hco, hap⟩, hll, hV⟩
      have hs5 := ht.size
      have HM5 := hide (HMP.out.byte hrb hp ht)
      obtain ⟨ad, cv, rfl⟩ := own_slice hV
      have HSP2 : Hid (pgPart zs s = (⟨sy == 1, wd, lm, S.1, l.map Prod.fst⟩, (pgTo (pgProc zs) N.toNat r5).2)) := by show _ = _; rw [HSP.out, hl]
      generalize (pgTo (pgProc zs) N.toNat r5).2 = s3 at HSP2 HM5
      have HV : Hid (ProcsIn wP.heap.size w5.heap.size (.slice ad l.length cv) (l.map Prod.fst) w5) := procs_in hV hco hap
      clear hl hp ht hco hap hll hV HLI HMP HSP
      have hcur := HM5.out.cur
      have hzero := HM5.out.zero
      have p0 : w5.cell? ⟨w.heap.size + 1, 0, none⟩ = some (.bool (sy == 1)) := by rw [cell_of_row _ _ _ _ _ _ hcur]; rfl
      have p1 : w5.cell? ⟨w.heap.size + 1, 1, none⟩ = some (.int .i64 wd) := by rw [cell_of_row _ _ _ _ _ _ hcur]; rfl
      have p2 : w5.cell? ⟨w.heap.size + 1, 2, none⟩ = some (.int .i64 lm) := by rw [cell_of_row _ _ _ _ _ _ hcur]; rfl
      have p3 : w5.cell? ⟨w.heap.size + 1, 3, none⟩ = some (.int .i64 (af 0)) := by rw [cell_of_row _ _ _ _ _ _ hcur]; rfl
      have p4 : w5.cell? ⟨w.heap.size + 1, 4, none⟩ = some (.int .i64 (af 1)) := by rw [cell_of_row _ _ _ _ _ _ hcur]; rfl
      have p5 : w5.cell? ⟨w.heap.size + 1, 5, none⟩ = some (.int .i64 (af 2)) := by rw [cell_of_row _ _ _ _ _ _ hcur]; rfl
      have p6 : w5.cell? ⟨w.heap.size + 1, 6, none⟩ = some (.int .i64 (af 3)) := by rw [cell_of_row _ _ _ _ _ _ hcur]; rfl
      have p7 : w5.cell? ⟨w.heap.size + 1, 7, none⟩ = some (.int .i64 (af 4)) := by rw [cell_of_row _ _ _ _ _ _ hcur]; rfl
      have p8 : w5.cell? ⟨w.heap.size + 1, 8, none⟩ = some (.int .i64 (af 5)) := by rw [cell_of_row _ _ _ _ _ _ hcur]; rfl
      have p9 : w5.cell? ⟨w.heap.size + 1, 9, none⟩ = some (.slice none 0 0) := by rw [cell_of_row _ _ _ _ _ _ hcur]; rfl
      have f9 := free_of_block hcur 9
      have q0 : w5.cell? ⟨w.heap.size, 0, none⟩ = some (.bool false) := by rw [cell_of_row _ _ _ _ _ _ hzero]; rfl
      have q1 : w5.cell? ⟨w.heap.size, 1, none⟩ = some (.int .i64 0) := by rw [cell_of_row _ _ _ _ _ _ hzero]; rfl
      have q2 : w5.cell? ⟨w.heap.size, 2, none⟩ = some (.int .i64 0) := by rw [cell_of_row _ _ _ _ _ _ hzero]; rfl
      have q3 : w5.cell? ⟨w.heap.size, 3, none⟩ = some (.int .i64 0) := by rw [cell_of_row _ _ _ _ _ _ hzero]; rfl
      have q4 : w5.cell? ⟨w.heap.size, 4, none⟩ = some (.int .i64 0) := by rw [cell_of_row _ _ _ _ _ _ hzero]; rfl
      have q5 : w5.cell? ⟨w.heap.size, 5, none⟩ = some (.int .i64 0) := by rw [cell_of_row _ _ _ _ _ _ hzero]; rfl
      have q6 : w5.cell? ⟨w.heap.size, 6, none⟩ = some (.int .i64 0) := by rw [cell_of_row _ _ _ _ _ _ hzero]; rfl
      have q7 : w5.cell? ⟨w.heap.size, 7, none⟩ = some (.int .i64 0) := by rw [cell_of_row _ _ _ _ _ _ hzero]; rfl
      have q8 : w5.cell? ⟨w.heap.size, 8, none⟩ = some (.int .i64 0) := by rw [cell_of_row _ _ _ _ _ _ hzero]; rfl
      have q9 : w5.cell? ⟨w.heap.size, 9, none⟩ = some (.slice none 0 0) := by rw [cell_of_row _ _ _ _ _ _ hzero]; rfl
      have g0 := free_of_block hzero 0
      have g1 := free_of_block hzero 1
      have g2 := free_of_block hzero 2
      have g3 := free_of_block hzero 3
      have g4 := free_of_block hzero 4
      have g5 := free_of_block hzero 5
      have g6 := free_of_block hzero 6
      have g7 := free_of_block hzero 7
      have g8 := free_of_block hzero 8
      have g9 := free_of_block hzero 9
      clear hcur hzero
      have HOK : Hid (∀ W', Touch (fun i => i = w.heap.size ∨ i = w.heap.size + 1) w5 W' → ProcsIn w.heap.size W'.heap.size (.slice ad l.length cv) (l.map Prod.fst) W' ∧ PgAt rb ao n cap zs s3 W' ∧ Touch (· = rb) w W') := fun W' t => ⟨((HV.out.keep (fun b h1 _ h2 _ => t.block b h2 (by omega))).base (by omega)).top t.size, HM5.out.rd.new hrb HLT.out (t.mono (fun k hk => by omega)), HM5.out.t.andNew (t.mono (fun k hk => by omega))⟩
      go_wp2
      refine bodyPost_ret (v := .agg (ptCells (sy == 1) wd lm af (.slice ad l.length cv))) (by simp [results, Try.results48, go_sem, ptCells, q0, q1, q2, q3, q4, q5, q6, q7, q8, q9]) rfl ?_
      rw [HSP2.out]
      refine ⟨ad, l.length, cv, by rw [HAF.out], HOK.out _ ?_⟩
      iterate 10 refine Touch.thenSet (g := w.heap.size) ?_ _ _ (.inl rfl)
      refine Touch.thenSet (g := w.heap.size + 1) ?_ _ _ (.inr rfl)
      exact Touch.refl _ _
end Go.Proofs.Ytnjlbgolnbdkaaa
