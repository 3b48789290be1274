/- Texts of the proof of Boots, one behind the other. -/
import Derived.Test.YtnjlbgolnbdkaaaGreatJ12
/- The program's reader: partition. -/
namespace Go.Proofs.YtnjlbgolnbdkaaaGreat
open Go.RowKit

def pgActs (zs : List Int) : Nat → Rs → List Int × Rs
  | 0, s => ([], s)
  | k + 1, s => ((pgActs zs k s).1 ++ [(pgAct zs k (pgActs zs k s).2).1], (pgAct zs k (pgActs zs k s).2).2)
theorem pgActs_length (zs : List Int) (k : Nat) (s : Rs) : (pgActs zs k s).1.length = k := by
  induction k with
  | zero => rfl
  | succ k ih => show ((pgActs zs k s).1 ++ [_]).length = k + 1; simp [ih]
def pgPart (zs : List Int) (s : Rs) : Pt × Rs :=
  let a := pgB zs 0 1 [] s
  let b := pgB zs 1 16 [] a.2
  let c := pgB zs 0 9 [] b.2
  let d := pgActs zs 6 c.2
  let m := pgB zs 1 2 [] d.2
  let q := pgTo (pgProc zs) m.1.toNat m.2
  (⟨a.1 == 1, b.1, c.1, d.1, q.1⟩, q.2)

/- a struct of type T in the making: its block (B + 1), the result's (B), the reader's -/
structure PMk (rb : Nat) (ao : Option Addr) (n cap : Nat) (zs : List Int) (T : TypeId) (zero : Array Value) (w : World) (cells : Array Value) (s : Rs) (wr : World) : Prop where
  zero : wr.heap[w.heap.size]? = some (.cells zero T (0, 0))
  cur : wr.heap[w.heap.size + 1]? = some (.cells cells T (0, 0))
  rd : PgAt rb ao n cap zs s wr
  t : Touch (· = rb) w wr
section
variable {rb : Nat} {ao : Option Addr} {n cap : Nat} {zs : List Int} {T : TypeId} {zero : Array Value} {w : World} {cells : Array Value} {s s' : Rs} {wr w' : World}
theorem PMk.byte (h : PMk rb ao n cap zs T zero w cells s wr) (hrb : rb < w.heap.size) (hr : PgAt rb ao n cap zs s' w') (ht : Touch (· = rb) wr w') : PMk rb ao n cap zs T zero w cells s' w' :=
  ⟨(ht.block _ (lt_of_block h.zero) (by omega)).trans h.zero, (ht.block _ (lt_of_block h.cur) (by omega)).trans h.cur, hr, h.t.andThen ht⟩
theorem PMk.new (h : PMk rb ao n cap zs T zero w cells s wr) (hrb : rb < w.heap.size) (hlt : ∀ ad, ao = some ad → 0 < n → ad.block < w.heap.size) (t : Touch (fun i => w.heap.size + 2 ≤ i) wr w') : PMk rb ao n cap zs T zero w cells s w' :=
  ⟨(t.block _ (lt_of_block h.zero) (by omega)).trans h.zero, (t.block _ (lt_of_block h.cur) (by omega)).trans h.cur, h.rd.new hrb hlt (t.mono (fun k hk => by omega)), h.t.andNew (t.mono (fun k hk => by omega))⟩
theorem PMk.set (h : PMk rb ao n cap zs T zero w cells s wr) (hrb : rb < w.heap.size) (hlt : ∀ ad, ao = some ad → 0 < n → ad.block < w.heap.size) (o : Nat) (v : Value) : PMk rb ao n cap zs T zero w (cells.setIfInBounds o v) s (wr.setCell ⟨w.heap.size + 1, o, none⟩ v) := by
  have t : Touch (· = w.heap.size + 1) wr (wr.setCell ⟨w.heap.size + 1, o, none⟩ v) := Touch.ofSet wr _ o v rfl
  exact ⟨(t.block _ (lt_of_block h.zero) (by omega)).trans h.zero, block_set h.cur o v, h.rd.new hrb hlt (t.mono (fun k hk => by omega)), h.t.andNew (t.mono (fun k hk => by omega))⟩
theorem PMk.start (hr : PgAt rb ao n cap zs s w) (zero cells : Array Value) (T : TypeId) : PMk rb ao n cap zs T zero w cells s ((w.alloc (.cells zero T)).alloc (.cells cells T)) :=
  ⟨(Below.heap_alloc _ _ _ (by simp)).trans (heap_alloc_new w _), new_two w _ _, (hr.alloc _).alloc _, (touch_alloc _ _).andThen (touch_alloc _ _)⟩
end

theorem Touch.thenSet {S : Nat → Prop} {a b : World} (h : Touch S a b) {g : Nat} (o : Nat) (v : Value) (hg : S g) : Touch S a (b.setCell ⟨g, o, none⟩ v) := h.andThen (Touch.ofSet b g o v hg)
theorem code_touch {base : Nat} {v : Value} {code : List (Int × Int)} {w w' : World} {S : Nat → Prop} (h : CodeV base v code w) (t : Touch S w w') (hS : ∀ b, S b → base ≤ b → ¬ OfType w b (· = 210)) : CodeV base v code w' :=
  h.keep (fun b h1 h2 ⟨cur, hc⟩ => t.block b h2 (fun hs => hS b hs h1 ⟨cur, 210, rfl, hc⟩))
theorem oftype_ne {w : World} {b : Nat} {s t : TypeId} (h : OfType w b (· = s)) (hne : s ≠ t) : ¬ OfType w b (· = t) := by
  rintro ⟨c2, t2, ht2, h2⟩
  obtain ⟨c1, t1, ht1, h1⟩ := h
  subst ht1 ht2
  rw [h1] at h2
  simp at h2
  exact hne h2.2

set_option maxRecDepth 100000 in
set_option maxHeartbeats 4000000 in
theorem pgpartition_any (rb : Nat) (ao : Option Addr) (n cap : Nat) (zs : List Int) (s : Rs) (w : World) (h : PgAt rb ao n cap zs s w) :
    Calls Tryz.prog 82 #[.pointer (some ⟨rb, 0, none⟩)] w fun e w' => ∃ ad m c, e = .returned (.agg (ptCells (pgPart zs s).1.sys (pgPart zs s).1.words (pgPart zs s).1.limit (fun i => (pgPart zs s).1.acts.getD i 0) (.slice ad m c))) ∧ ProcsIn w.heap.size w'.heap.size (.slice ad m c) (pgPart zs s).1.procs w' ∧ PgAt rb ao n cap zs (pgPart zs s).2 w' ∧ Touch (· = rb) w w' := by
  have hrb := lt_of_block h.obj
  have HLT : Hid (∀ ad, ao = some ad → 0 < n → ad.block < w.heap.size) := h.held.lt
  have HBY := hide h.held.bytes
  have HM := hide (PMk.start h (ptCells false 0 0 (fun _ => 0) (.slice none 0 0)) (ptCells false 0 0 (fun _ => 0) (.slice none 0 0)) 124)
  clear h
  have HSP : Hid (pgPart zs s = (⟨(pgB zs 0 1 [] s).1 == 1, (pgB zs 1 16 [] (pgB zs 0 1 [] s).2).1, (pgB zs 0 9 [] (pgB zs 1 16 [] (pgB zs 0 1 [] s).2).2).1, (pgActs zs 6 (pgB zs 0 9 [] (pgB zs 1 16 [] (pgB zs 0 1 [] s).2).2).2).1, (pgTo (pgProc zs) (pgB zs 1 2 [] (pgActs zs 6 (pgB zs 0 9 [] (pgB zs 1 16 [] (pgB zs 0 1 [] s).2).2).2).2).1.toNat (pgB zs 1 2 [] (pgActs zs 6 (pgB zs 0 9 [] (pgB zs 1 16 [] (pgB zs 0 1 [] s).2).2).2).2).2).1⟩, (pgTo (pgProc zs) (pgB zs 1 2 [] (pgActs zs 6 (pgB zs 0 9 [] (pgB zs 1 16 [] (pgB zs 0 1 [] s).2).2).2).2).1.toNat (pgB zs 1 2 [] (pgActs zs 6 (pgB zs 0 9 [] (pgB zs 1 16 [] (pgB zs 0 1 [] s).2).2).2).2).2).2)) := rfl
  have HB1 := hide (pgnum0 rb ao n cap zs s 0 1 _ HM.out.rd)
  generalize (pgB zs 0 1 [] s).1 = sy at HSP HB1
  generalize (pgB zs 0 1 [] s).2 = r1 at HSP HB1
  go_enter Tryz.func82, Tryz.ntmps82
  go_wp2_with fail
  refine HB1.out.mono ?_
  rintro e w1 ⟨rfl, hr1, ht1⟩
  have HM1 := hide (HM.out.byte hrb hr1 ht1)
  have p0 : w1.cell? ⟨w.heap.size + 1, 0, none⟩ = some (.bool false) := by rw [cell_of_row _ _ _ _ _ _ HM1.out.cur]; rfl
  have f0 := free_of_block HM1.out.cur 0
  clear hr1 ht1 HM HB1
  have HM2 : Hid (PMk rb ao n cap zs 124 (ptCells false 0 0 (fun _ => 0) (.slice none 0 0)) w (ptCells (sy == 1) 0 0 (fun _ => 0) (.slice none 0 0)) r1 (w1.setCell ⟨w.heap.size + 1, 0, none⟩ (.bool (sy == 1)))) := HM1.out.set hrb HLT.out 0 (.bool (sy == 1))
  have HB2 := hide (pgnum0 rb ao n cap zs r1 1 16 _ HM2.out.rd)
  generalize (pgB zs 1 16 [] r1).1 = wd at HSP HB2
  generalize (pgB zs 1 16 [] r1).2 = r2 at HSP HB2
  go_wp2_with fail
  refine HB2.out.mono ?_
  rintro e w2 ⟨rfl, hr2, ht2⟩
  have HM3 := hide (HM2.out.byte hrb hr2 ht2)
  have p1 : w2.cell? ⟨w.heap.size + 1, 1, none⟩ = some (.int .i64 0) := by rw [cell_of_row _ _ _ _ _ _ HM3.out.cur]; rfl
  have f1 := free_of_block HM3.out.cur 1
  clear hr2 ht2 HM2 HB2 HM1 p0 f0
  have HM4 : Hid (PMk rb ao n cap zs 124 (ptCells false 0 0 (fun _ => 0) (.slice none 0 0)) w (ptCells (sy == 1) wd 0 (fun _ => 0) (.slice none 0 0)) r2 (w2.setCell ⟨w.heap.size + 1, 1, none⟩ (.int .i64 wd))) := HM3.out.set hrb HLT.out 1 (.int .i64 wd)
  have HB3 := hide (pgnum0 rb ao n cap zs r2 0 9 _ HM4.out.rd)
  generalize (pgB zs 0 9 [] r2).1 = lm at HSP HB3
  generalize (pgB zs 0 9 [] r2).2 = r3 at HSP HB3
  go_wp2_with fail
  refine HB3.out.mono ?_
  rintro e w3 ⟨rfl, hr3, ht3⟩
  have HM5 := hide (HM4.out.byte hrb hr3 ht3)
  have p2 : w3.cell? ⟨w.heap.size + 1, 2, none⟩ = some (.int .i64 0) := by rw [cell_of_row _ _ _ _ _ _ HM5.out.cur]; rfl
  have f2 := free_of_block HM5.out.cur 2
  clear hr3 ht3 HM4 HB3 HM3 p1 f1
  have HM6 : Hid (PMk rb ao n cap zs 124 (ptCells false 0 0 (fun _ => 0) (.slice none 0 0)) w (ptCells (sy == 1) wd lm (fun _ => 0) (.slice none 0 0)) r3 (w3.setCell ⟨w.heap.size + 1, 2, none⟩ (.int .i64 lm))) := HM5.out.set hrb HLT.out 2 (.int .i64 lm)
  go_wp2
  go_loopw [16] (fun i wr => ∃ k : Nat, k ≤ 6 ∧ i = .int .i64 k ∧ PMk rb ao n cap zs 124 (ptCells false 0 0 (fun _ => 0) (.slice none 0 0)) w (ptCells (sy == 1) wd lm (fun i => (pgActs zs k r3).1.getD i 0) (.slice none 0 0)) (pgActs zs k r3).2 wr) (fun i _ => 6 - (intOf i).toNat)
  case atStart => exact ⟨0, by omega, rfl, HM6.out⟩
  case round =>
    obtain ⟨k, hk, rfl, hM⟩ := hrel
    by_cases hlt : k < 6
    · have hlen := pgActs_length zs k r3
      have HST : Hid (pgActs zs (k + 1) r3 = ((pgActs zs k r3).1 ++ [(pgAct zs k (pgActs zs k r3).2).1], (pgAct zs k (pgActs zs k r3).2).2)) := rfl
      have HB := hide (pgaction_any rb ao n cap zs (pgActs zs k r3).2 k wr hM.rd hlt)
      have HM := hide hM
      clear hM
      generalize pgActs zs k r3 = S at HST HB HM hlen
      generalize (pgAct zs k S.2).1 = a at HST HB
      generalize (pgAct zs k S.2).2 = Ra at HST HB
      go_wp2_with fail
      refine HB.out.mono ?_
      rintro e wA ⟨rfl, hrA, htA⟩
      have HMA := hide (HM.out.byte hrb hrA htA)
      have hcurA := HMA.out.cur
      have pk : ∃ u, wA.cell? ⟨w.heap.size + 1, 3 + k, none⟩ = some u := by
        rw [cell_of_row _ _ _ _ _ _ hcurA]
        exact ⟨_, Array.getElem?_eq_getElem (show 3 + k < (ptCells (sy == 1) wd lm (fun i => S.1.getD i 0) (.slice none 0 0)).size from by show 3 + k < 10; omega)⟩
      obtain ⟨u, hu⟩ := pk
      have fk := free_of_block hcurA (3 + k)
      have HMS : Hid (PMk rb ao n cap zs 124 (ptCells false 0 0 (fun _ => 0) (.slice none 0 0)) w (ptCells (sy == 1) wd lm (fun i => (S.1 ++ [a]).getD i 0) (.slice none 0 0)) Ra (wA.setCell ⟨w.heap.size + 1, 3 + k, none⟩ (.int .i64 a))) := by
        have := HMA.out.set hrb HLT.out (3 + k) (.int .i64 a)
        obtain ⟨g1, g2⟩ := acts_getD S.1 a k hlen
        rw [pt_set (sy == 1) wd lm (fun i => S.1.getD i 0) (fun i => (S.1 ++ [a]).getD i 0) (.slice none 0 0) k a hlt g1 g2] at this
        exact this
      clear hrA htA HB HM hcurA
      go_wp2
      go_roundw
      case rel => exact ⟨k + 1, by omega, by go_num, by rw [HST.out]; exact HMS.out⟩
      case measure => simp [intOf]; omega
    · obtain HK : Hid (k = 6) := (by omega : k = 6)
      have HM := hide hM
      clear hM HM5 HM6 p2 f2
      have hM0 : PMk rb ao n cap zs 124 (ptCells false 0 0 (fun _ => 0) (.slice none 0 0)) w (ptCells (sy == 1) wd lm (fun i => (pgActs zs 6 r3).1.getD i 0) (.slice none 0 0)) (pgActs zs 6 r3).2 wr := by
        have h6 := HM.out
        rw [HK.out] at h6
        exact h6
      have HB := hide (pgnum0 rb ao n cap zs (pgActs zs 6 r3).2 1 2 wr hM0.rd)
      have HM0 := hide hM0
      have hN1 := pgB_small zs 1 2 [] (pgActs zs 6 r3).2 HBY.out
      have hN2 := pgB_le zs 1 2 [] (pgActs zs 6 r3).2 (by omega)
      generalize pgActs zs 6 r3 = S at HSP HB HM0 hN1 hN2
      generalize (pgB zs 1 2 [] S.2).1 = N at HSP HB hN1 hN2
      generalize (pgB zs 1 2 [] S.2).2 = r5 at HSP HB
      clear HM HK hM0
      obtain ⟨af, haf⟩ : ∃ af : Nat → Int, af = fun i => S.1.getD i 0 := ⟨_, rfl⟩
      rw [← haf] at HM0
      have HAF := hide haf
      clear haf
      go_wp2_with fail
      refine HB.out.mono ?_
      rintro e wP ⟨rfl, hrP, htP⟩
      have HMP := hide (HM0.out.byte hrb hrP htP)
      have hsP := lt_of_block HMP.out.cur
      clear hrP htP HB HM0
      have hLI := list_proc rb N.toNat (by omega) (· = rb) wP (fun b hb => by omega) (fun j l wr => l.map Prod.fst = (pgTo (pgProc zs) j r5).1 ∧ PgAt rb ao n cap zs (pgTo (pgProc zs) j r5).2 wr ∧ Touch (· = rb) wP wr ∧ (∀ p ∈ l, CodeV wP.heap.size p.2 p.1.code wr) ∧ Aparts l)
        (fun j l wr w' hI t => ⟨hI.1, hI.2.1.new (B := wP.heap.size) (by omega) (fun ad e hn => by have := HLT.out ad e hn; omega) (t.mono (fun k hk => hk.1)), hI.2.2.1.andNew (t.mono (fun k hk => hk.1)), fun p hp => code_touch (hI.2.2.2.1 p hp) t (fun b hb _ => oftype_ne hb.2 (by decide)), hI.2.2.2.2⟩)
        (fun j l wr hj hI => (pgprocess_any rb ao n cap zs _ wr hI.2.1).mono (fun e w' ⟨ad, m, c, he, hc, hp, ht⟩ => ⟨_, ad, m, c, he, ⟨by rw [List.map_append, hI.1]; rfl, hp, hI.2.2.1.andThen ht, fun p hp => by
          rcases List.mem_append.1 hp with hp | hp
          · exact code_touch (hI.2.2.2.1 p hp) ht (fun b hb h2 => by omega)
          · obtain rfl := List.mem_singleton.1 hp
            exact hc.base hI.2.2.1.size, aparts_snoc hI.2.2.2.2 hI.2.2.2.1 hc⟩, ht⟩))
        ⟨rfl, HMP.out.rd, Touch.refl _ _, fun p hp => by simp at hp, List.Pairwise.nil⟩
      rw [show ((N.toNat : Nat) : Int) = N from by omega] at hLI
      have HLI := hide hLI
      clear hLI
      go_wp2_with fail
      refine HLI.out.mono ?_
      rintro e w5 ⟨v, l, rfl, ⟨hl, hp, ht, hco, hap⟩, hll, hV⟩
      have hs5 := ht.size
      have HM5 := hide (HMP.out.byte hrb hp ht)
      obtain ⟨ad, cv, rfl⟩ := own_slice hV
      have HSP2 : Hid (pgPart zs s = (⟨sy == 1, wd, lm, S.1, l.map Prod.fst⟩, (pgTo (pgProc zs) N.toNat r5).2)) := by show _ = _; rw [HSP.out, hl]
      generalize (pgTo (pgProc zs) N.toNat r5).2 = s3 at HSP2 HM5
      have HV : Hid (ProcsIn wP.heap.size w5.heap.size (.slice ad l.length cv) (l.map Prod.fst) w5) := procs_in hV hco hap
      clear hl hp ht hco hap hll hV HLI HMP HSP
      have hcur := HM5.out.cur
      have hzero := HM5.out.zero
      have p0 : w5.cell? ⟨w.heap.size + 1, 0, none⟩ = some (.bool (sy == 1)) := by rw [cell_of_row _ _ _ _ _ _ hcur]; rfl
      have p1 : w5.cell? ⟨w.heap.size + 1, 1, none⟩ = some (.int .i64 wd) := by rw [cell_of_row _ _ _ _ _ _ hcur]; rfl
      have p2 : w5.cell? ⟨w.heap.size + 1, 2, none⟩ = some (.int .i64 lm) := by rw [cell_of_row _ _ _ _ _ _ hcur]; rfl
      have p3 : w5.cell? ⟨w.heap.size + 1, 3, none⟩ = some (.int .i64 (af 0)) := by rw [cell_of_row _ _ _ _ _ _ hcur]; rfl
      have p4 : w5.cell? ⟨w.heap.size + 1, 4, none⟩ = some (.int .i64 (af 1)) := by rw [cell_of_row _ _ _ _ _ _ hcur]; rfl
      have p5 : w5.cell? ⟨w.heap.size + 1, 5, none⟩ = some (.int .i64 (af 2)) := by rw [cell_of_row _ _ _ _ _ _ hcur]; rfl
      have p6 : w5.cell? ⟨w.heap.size + 1, 6, none⟩ = some (.int .i64 (af 3)) := by rw [cell_of_row _ _ _ _ _ _ hcur]; rfl
      have p7 : w5.cell? ⟨w.heap.size + 1, 7, none⟩ = some (.int .i64 (af 4)) := by rw [cell_of_row _ _ _ _ _ _ hcur]; rfl
      have p8 : w5.cell? ⟨w.heap.size + 1, 8, none⟩ = some (.int .i64 (af 5)) := by rw [cell_of_row _ _ _ _ _ _ hcur]; rfl
      have p9 : w5.cell? ⟨w.heap.size + 1, 9, none⟩ = some (.slice none 0 0) := by rw [cell_of_row _ _ _ _ _ _ hcur]; rfl
      have f9 := free_of_block hcur 9
      have q0 : w5.cell? ⟨w.heap.size, 0, none⟩ = some (.bool false) := by rw [cell_of_row _ _ _ _ _ _ hzero]; rfl
      have q1 : w5.cell? ⟨w.heap.size, 1, none⟩ = some (.int .i64 0) := by rw [cell_of_row _ _ _ _ _ _ hzero]; rfl
      have q2 : w5.cell? ⟨w.heap.size, 2, none⟩ = some (.int .i64 0) := by rw [cell_of_row _ _ _ _ _ _ hzero]; rfl
      have q3 : w5.cell? ⟨w.heap.size, 3, none⟩ = some (.int .i64 0) := by rw [cell_of_row _ _ _ _ _ _ hzero]; rfl
      have q4 : w5.cell? ⟨w.heap.size, 4, none⟩ = some (.int .i64 0) := by rw [cell_of_row _ _ _ _ _ _ hzero]; rfl
      have q5 : w5.cell? ⟨w.heap.size, 5, none⟩ = some (.int .i64 0) := by rw [cell_of_row _ _ _ _ _ _ hzero]; rfl
      have q6 : w5.cell? ⟨w.heap.size, 6, none⟩ = some (.int .i64 0) := by rw [cell_of_row _ _ _ _ _ _ hzero]; rfl
      have q7 : w5.cell? ⟨w.heap.size, 7, none⟩ = some (.int .i64 0) := by rw [cell_of_row _ _ _ _ _ _ hzero]; rfl
      have q8 : w5.cell? ⟨w.heap.size, 8, none⟩ = some (.int .i64 0) := by rw [cell_of_row _ _ _ _ _ _ hzero]; rfl
      have q9 : w5.cell? ⟨w.heap.size, 9, none⟩ = some (.slice none 0 0) := by rw [cell_of_row _ _ _ _ _ _ hzero]; rfl
      have g0 := free_of_block hzero 0
      have g1 := free_of_block hzero 1
      have g2 := free_of_block hzero 2
      have g3 := free_of_block hzero 3
      have g4 := free_of_block hzero 4
      have g5 := free_of_block hzero 5
      have g6 := free_of_block hzero 6
      have g7 := free_of_block hzero 7
      have g8 := free_of_block hzero 8
      have g9 := free_of_block hzero 9
      clear hcur hzero
      have HOK : Hid (∀ W', Touch (fun i => i = w.heap.size ∨ i = w.heap.size + 1) w5 W' → ProcsIn w.heap.size W'.heap.size (.slice ad l.length cv) (l.map Prod.fst) W' ∧ PgAt rb ao n cap zs s3 W' ∧ Touch (· = rb) w W') := fun W' t => ⟨((HV.out.keep (fun b h1 _ h2 _ => t.block b h2 (by omega))).base (by omega)).top t.size, HM5.out.rd.new hrb HLT.out (t.mono (fun k hk => by omega)), HM5.out.t.andNew (t.mono (fun k hk => by omega))⟩
      go_wp2
      refine bodyPost_ret (v := .agg (ptCells (sy == 1) wd lm af (.slice ad l.length cv))) (by simp [results, Tryz.results82, go_sem, ptCells, q0, q1, q2, q3, q4, q5, q6, q7, q8, q9]) rfl ?_
      rw [HSP2.out]
      refine ⟨ad, l.length, cv, by rw [HAF.out], HOK.out _ ?_⟩
      iterate 10 refine Touch.thenSet (g := w.heap.size) ?_ _ _ (.inl rfl)
      refine Touch.thenSet (g := w.heap.size + 1) ?_ _ _ (.inr rfl)
      exact Touch.refl _ _
end Go.Proofs.YtnjlbgolnbdkaaaGreat
/- The program's reader: channel, windows. -/
namespace Go.Proofs.YtnjlbgolnbdkaaaGreat
open Go.RowKit

def pgChan (zs : List Int) (N : Int) (s : Rs) : Ch × Rs :=
  let a := pgB zs 0 (N - 1) [] s
  let b := pgB zs 0 (N - 1) [a.1] a.2
  let c := pgB zs 1 4 [] b.2
  (⟨a.1, b.1, c.1⟩, c.2)
def pgWin (zs : List Int) (N fr : Int) (s : Rs × Int) : Wn × (Rs × Int) :=
  let a := pgB zs 0 (N - 1) [] s.1
  let b := pgB zs s.2 (fr - 1) [] a.2
  let c := pgB zs 1 (fr - b.1) [] b.2
  (⟨a.1, b.1, c.1⟩, (c.2, b.1 + c.1))
def three (a b c : Int) : Array Value := #[.int .i64 a, .int .i64 b, .int .i64 c]
theorem one_int (w : World) (a : Int) (T : TypeId) : IntsAt (w.alloc (.cells #[.int .i64 a] T)) (some ⟨w.heap.size, 0, none⟩) [a] := fun i hi => ⟨w.heap.size, 0, rfl, by
  obtain rfl : i = 0 := by simp at hi; omega
  simp⟩

set_option maxRecDepth 100000 in
set_option maxHeartbeats 4000000 in
theorem pgchannel_any (rb : Nat) (ao : Option Addr) (n cap : Nat) (zs : List Int) (s : Rs) (N : Int) (w : World) (h : PgAt rb ao n cap zs s w) (hN : 0 ≤ N ∧ N ≤ 255) :
    Calls Tryz.prog 86 #[.pointer (some ⟨rb, 0, none⟩), .int .i64 N] w fun e w' => e = .returned (.agg #[.int .i64 (pgChan zs N s).1.src, .int .i64 (pgChan zs N s).1.dst, .int .i64 (pgChan zs N s).1.depth]) ∧ PgAt rb ao n cap zs (pgChan zs N s).2 w' ∧ Touch (· = rb) w w' := by
  have hrb := lt_of_block h.obj
  have HLT : Hid (∀ ad, ao = some ad → 0 < n → ad.block < w.heap.size) := h.held.lt
  have HBY := hide h.held.bytes
  have HM := hide (PMk.start h (three 0 0 0) (three 0 0 0) 142)
  clear h
  have HSP : Hid (pgChan zs N s = (⟨(pgB zs 0 (N - 1) [] s).1, (pgB zs 0 (N - 1) [(pgB zs 0 (N - 1) [] s).1] (pgB zs 0 (N - 1) [] s).2).1, (pgB zs 1 4 [] (pgB zs 0 (N - 1) [(pgB zs 0 (N - 1) [] s).1] (pgB zs 0 (N - 1) [] s).2).2).1⟩, (pgB zs 1 4 [] (pgB zs 0 (N - 1) [(pgB zs 0 (N - 1) [] s).1] (pgB zs 0 (N - 1) [] s).2).2).2)) := rfl
  have HB1 := hide (pgnum0 rb ao n cap zs s 0 (N - 1) _ HM.out.rd)
  have ha := pgB_small zs 0 (N - 1) [] s HBY.out
  generalize (pgB zs 0 (N - 1) [] s).1 = a at HSP HB1 ha
  generalize (pgB zs 0 (N - 1) [] s).2 = r1 at HSP HB1
  go_enter Tryz.func86, Tryz.ntmps86
  go_wp2_with fail
  refine HB1.out.mono ?_
  rintro e w1 ⟨rfl, hr1, ht1⟩
  have HM1 := hide (HM.out.byte hrb hr1 ht1)
  have p0 : w1.cell? ⟨w.heap.size + 1, 0, none⟩ = some (.int .i64 0) := by rw [cell_of_row _ _ _ _ _ _ HM1.out.cur]; rfl
  have f0 := free_of_block HM1.out.cur 0
  have hs1 := lt_of_block HM1.out.cur
  clear hr1 ht1 HM HB1
  obtain ⟨w2, hw2⟩ : ∃ w2, w2 = w1.setCell ⟨w.heap.size + 1, 0, none⟩ (.int .i64 a) := ⟨_, rfl⟩
  have hs2 : w2.heap.size = w1.heap.size := by rw [hw2]; simp
  have HM2 : Hid (PMk rb ao n cap zs 142 (three 0 0 0) w (three a 0 0) r1 w2) := by rw [hw2]; exact HM1.out.set hrb HLT.out 0 (.int .i64 a)
  have HM2' : Hid (PMk rb ao n cap zs 142 (three 0 0 0) w (three a 0 0) r1 (w2.alloc (.cells #[.int .i64 a] 3))) := HM2.out.new hrb HLT.out (touch_alloc _ _)
  have HB2 := hide (pgnumber_any rb ao n cap zs r1 0 (N - 1) (some ⟨w2.heap.size, 0, none⟩) 1 [a] _ HM2'.out.rd (one_int w2 a 3) (by simp))
  have hb := pgB_small zs 0 (N - 1) [a] r1 HBY.out
  generalize (pgB zs 0 (N - 1) [a] r1).1 = b at HSP HB2 hb
  generalize (pgB zs 0 (N - 1) [a] r1).2 = r2 at HSP HB2
  rw [hs2, hw2] at HB2
  have HW2 := hide hw2
  have HS2 := hide hs2
  clear hw2 HM1 hs2
  go_wp2_with fail
  refine HB2.out.mono ?_
  rw [← HW2.out]
  rintro e w3 ⟨rfl, hr3, ht3⟩
  have HM3 := hide (HM2'.out.byte hrb hr3 ht3)
  have p1 : w3.cell? ⟨w.heap.size + 1, 1, none⟩ = some (.int .i64 0) := by rw [cell_of_row _ _ _ _ _ _ HM3.out.cur]; rfl
  have f1 := free_of_block HM3.out.cur 1
  clear hr3 ht3 HM2 HM2' HB2 HW2 HS2 p0 f0
  have HM4 : Hid (PMk rb ao n cap zs 142 (three 0 0 0) w (three a b 0) r2 (w3.setCell ⟨w.heap.size + 1, 1, none⟩ (.int .i64 b))) := HM3.out.set hrb HLT.out 1 (.int .i64 b)
  have HB3 := hide (pgnum0 rb ao n cap zs r2 1 4 _ HM4.out.rd)
  have hc := pgB_small zs 1 4 [] r2 HBY.out
  generalize (pgB zs 1 4 [] r2).1 = c at HSP HB3 hc
  generalize (pgB zs 1 4 [] r2).2 = r3 at HSP HB3
  go_wp2_with fail
  refine HB3.out.mono ?_
  rintro e w5 ⟨rfl, hr5, ht5⟩
  have HM5 := hide (HM4.out.byte hrb hr5 ht5)
  have hcur := HM5.out.cur
  have hzero := HM5.out.zero
  have x0 : w5.cell? ⟨w.heap.size + 1, 0, none⟩ = some (.int .i64 a) := by rw [cell_of_row _ _ _ _ _ _ hcur]; rfl
  have x1 : w5.cell? ⟨w.heap.size + 1, 1, none⟩ = some (.int .i64 b) := by rw [cell_of_row _ _ _ _ _ _ hcur]; rfl
  have x2 : w5.cell? ⟨w.heap.size + 1, 2, none⟩ = some (.int .i64 0) := by rw [cell_of_row _ _ _ _ _ _ hcur]; rfl
  have f2 := free_of_block hcur 2
  have q0 : w5.cell? ⟨w.heap.size, 0, none⟩ = some (.int .i64 0) := by rw [cell_of_row _ _ _ _ _ _ hzero]; rfl
  have q1 : w5.cell? ⟨w.heap.size, 1, none⟩ = some (.int .i64 0) := by rw [cell_of_row _ _ _ _ _ _ hzero]; rfl
  have q2 : w5.cell? ⟨w.heap.size, 2, none⟩ = some (.int .i64 0) := by rw [cell_of_row _ _ _ _ _ _ hzero]; rfl
  have g0 := free_of_block hzero 0
  have g1 := free_of_block hzero 1
  have g2 := free_of_block hzero 2
  clear hr5 ht5 HM4 HB3 HM3 p1 f1 hcur hzero
  have HOK : Hid (∀ W', Touch (fun i => i = w.heap.size ∨ i = w.heap.size + 1) w5 W' → PgAt rb ao n cap zs r3 W' ∧ Touch (· = rb) w W') := fun W' t => ⟨HM5.out.rd.new hrb HLT.out (t.mono (fun k hk => by omega)), HM5.out.t.andNew (t.mono (fun k hk => by omega))⟩
  go_wp2
  refine bodyPost_ret (v := .agg #[.int .i64 a, .int .i64 b, .int .i64 c]) (by simp [results, Tryz.results86, go_sem, q0, q1, q2]) rfl ?_
  rw [HSP.out]
  refine ⟨rfl, HOK.out _ ?_⟩
  iterate 3 refine Touch.thenSet (g := w.heap.size) ?_ _ _ (.inl rfl)
  refine Touch.thenSet (g := w.heap.size + 1) ?_ _ _ (.inr rfl)
  exact Touch.refl _ _

set_option maxRecDepth 100000 in
set_option maxHeartbeats 2000000 in
theorem pgchan_lit (p1 p2 : Nat) (rb : Nat) (ao : Option Addr) (n cap : Nat) (zs : List Int) (s : Rs) (N : Int) (w : World) (h : PgAt rb ao n cap zs s w) (hN : 0 ≤ N ∧ N ≤ 255) (h1 : w.heap[p1]? = some (.cells #[.pointer (some ⟨rb, 0, none⟩)] 102 (0, 0))) (h2 : w.heap[p2]? = some (.cells #[.int .i64 N] 3 (0, 0))) :
    Calls Tryz.prog 85 #[.pointer (some ⟨p1, 0, none⟩), .pointer (some ⟨p2, 0, none⟩)] w fun e w' => e = .returned (.agg #[.int .i64 (pgChan zs N s).1.src, .int .i64 (pgChan zs N s).1.dst, .int .i64 (pgChan zs N s).1.depth]) ∧ PgAt rb ao n cap zs (pgChan zs N s).2 w' ∧ Touch (· = rb) w w' := by
  have hrb := lt_of_block h.obj
  have HLT := hide h.held.lt
  have hl1 := lt_of_block h1
  have hl2 := lt_of_block h2
  have c1 : w.cell? ⟨p1, 0, none⟩ = some (.pointer (some ⟨rb, 0, none⟩)) := by rw [cell_of_row _ _ _ _ _ _ h1]; rfl
  have c2 : w.cell? ⟨p2, 0, none⟩ = some (.int .i64 N) := by rw [cell_of_row _ _ _ _ _ _ h2]; rfl
  have HB := hide (pgchannel_any rb ao n cap zs s N _ (h.alloc (.cells (three 0 0 0) 142)) hN)
  clear h h1 h2 hN
  generalize pgChan zs N s = q at HB ⊢
  go_enter Tryz.func85, Tryz.ntmps85
  go_wp2_with fail
  refine HB.out.mono ?_
  rintro e w1 ⟨rfl, hp, ht⟩
  have hs1 := ht.size
  simp at hs1
  have hB1 : w1.heap[w.heap.size]? = some (.cells (three 0 0 0) 142 (0, 0)) := (ht.block _ (by simp) (by omega)).trans (heap_alloc_new w _)
  have q0 : w1.cell? ⟨w.heap.size, 0, none⟩ = some (.int .i64 0) := by rw [cell_of_row _ _ _ _ _ _ hB1]; rfl
  have q1 : w1.cell? ⟨w.heap.size, 1, none⟩ = some (.int .i64 0) := by rw [cell_of_row _ _ _ _ _ _ hB1]; rfl
  have q2 : w1.cell? ⟨w.heap.size, 2, none⟩ = some (.int .i64 0) := by rw [cell_of_row _ _ _ _ _ _ hB1]; rfl
  have g0 := free_of_block hB1 0
  have g1 := free_of_block hB1 1
  have g2 := free_of_block hB1 2
  have H := hide (And.intro hp ((touch_alloc w _).andThen ht))
  clear hp ht hB1 HB
  go_wp2
  refine bodyPost_ret (v := .agg #[.int .i64 q.1.src, .int .i64 q.1.dst, .int .i64 q.1.depth]) (by simp [results, Tryz.results85, go_sem, q0, q1, q2]) rfl ?_
  have HOK : Hid (∀ W', Touch (fun i => i = w.heap.size) w1 W' → PgAt rb ao n cap zs q.2 W' ∧ Touch (· = rb) w W') := fun W' t => ⟨H.out.1.new hrb HLT.out (t.mono (fun k hk => by omega)), H.out.2.andNew (t.mono (fun k hk => by omega))⟩
  refine ⟨rfl, HOK.out _ ?_⟩
  iterate 3 refine Touch.thenSet (g := w.heap.size) ?_ _ _ rfl
  exact Touch.refl _ _
end Go.Proofs.YtnjlbgolnbdkaaaGreat
/- The program's reader: windows. -/
namespace Go.Proofs.YtnjlbgolnbdkaaaGreat
open Go.RowKit

set_option maxRecDepth 100000 in
set_option maxHeartbeats 4000000 in
theorem pgwin_lit (p1 p2 p3 p4 : Nat) (rb : Nat) (ao : Option Addr) (n cap : Nat) (zs : List Int) (s : Rs) (N fr fin : Int) (w : World) (h : PgAt rb ao n cap zs s w) (hN : 0 ≤ N ∧ N ≤ 255) (hfr : 0 ≤ fr ∧ fr ≤ 255)
    (h1 : w.heap[p1]? = some (.cells #[.pointer (some ⟨rb, 0, none⟩)] 102 (0, 0))) (h2 : w.heap[p2]? = some (.cells #[.int .i64 N] 3 (0, 0))) (h3 : w.heap[p3]? = some (.cells #[.int .i64 fin] 3 (0, 0))) (h4 : w.heap[p4]? = some (.cells #[.int .i64 fr] 3 (0, 0)))
    (hr1 : p1 ≠ rb) (hr3 : p3 ≠ rb) (hr4 : p4 ≠ rb) (hz3 : ∀ ad, ao = some ad → 0 < n → ad.block ≠ p3) :
    Calls Tryz.prog 122 #[.pointer (some ⟨p1, 0, none⟩), .pointer (some ⟨p2, 0, none⟩), .pointer (some ⟨p3, 0, none⟩), .pointer (some ⟨p4, 0, none⟩)] w fun e w' => e = .returned (.agg #[.int .i64 (pgWin zs N fr (s, fin)).1.part, .int .i64 (pgWin zs N fr (s, fin)).1.first, .int .i64 (pgWin zs N fr (s, fin)).1.many]) ∧ PgAt rb ao n cap zs (pgWin zs N fr (s, fin)).2.1 w' ∧ w'.heap[p3]? = some (.cells #[.int .i64 (pgWin zs N fr (s, fin)).2.2] 3 (0, 0)) ∧ Touch (fun i => i = rb ∨ i = p3) w w' := by
  have hrb := lt_of_block h.obj
  have hl1 := lt_of_block h1
  have hl2 := lt_of_block h2
  have hl3 := lt_of_block h3
  have hl4 := lt_of_block h4
  have HLT : Hid (∀ ad, ao = some ad → 0 < n → ad.block < w.heap.size) := h.held.lt
  have HZ3 := hide hz3
  have HBY := hide h.held.bytes
  have HM := hide (PMk.start h (three 0 0 0) (three 0 0 0) 131)
  have c1 : w.cell? ⟨p1, 0, none⟩ = some (.pointer (some ⟨rb, 0, none⟩)) := by rw [cell_of_row _ _ _ _ _ _ h1]; rfl
  have c2 : w.cell? ⟨p2, 0, none⟩ = some (.int .i64 N) := by rw [cell_of_row _ _ _ _ _ _ h2]; rfl
  have HP : Hid (∀ W, Touch (· = rb) w W → W.heap[p1]? = some (.cells #[.pointer (some ⟨rb, 0, none⟩)] 102 (0, 0)) ∧ W.heap[p3]? = some (.cells #[.int .i64 fin] 3 (0, 0)) ∧ W.heap[p4]? = some (.cells #[.int .i64 fr] 3 (0, 0))) := fun W t => ⟨(t.block _ hl1 hr1).trans h1, (t.block _ hl3 hr3).trans h3, (t.block _ hl4 hr4).trans h4⟩
  clear h h1 h2 h3 h4 hz3
  have HSP : Hid (pgWin zs N fr (s, fin) = (⟨(pgB zs 0 (N - 1) [] s).1, (pgB zs fin (fr - 1) [] (pgB zs 0 (N - 1) [] s).2).1, (pgB zs 1 (fr - (pgB zs fin (fr - 1) [] (pgB zs 0 (N - 1) [] s).2).1) [] (pgB zs fin (fr - 1) [] (pgB zs 0 (N - 1) [] s).2).2).1⟩, ((pgB zs 1 (fr - (pgB zs fin (fr - 1) [] (pgB zs 0 (N - 1) [] s).2).1) [] (pgB zs fin (fr - 1) [] (pgB zs 0 (N - 1) [] s).2).2).2, (pgB zs fin (fr - 1) [] (pgB zs 0 (N - 1) [] s).2).1 + (pgB zs 1 (fr - (pgB zs fin (fr - 1) [] (pgB zs 0 (N - 1) [] s).2).1) [] (pgB zs fin (fr - 1) [] (pgB zs 0 (N - 1) [] s).2).2).1))) := rfl
  have HB1 := hide (pgnum0 rb ao n cap zs s 0 (N - 1) _ HM.out.rd)
  have ha := pgB_small zs 0 (N - 1) [] s HBY.out
  generalize (pgB zs 0 (N - 1) [] s).1 = a at HSP HB1 ha
  generalize (pgB zs 0 (N - 1) [] s).2 = r1 at HSP HB1
  go_enter Tryz.func122, Tryz.ntmps122
  go_wp2_with fail
  refine HB1.out.mono ?_
  rintro e w1 ⟨rfl, hq1, ht1⟩
  have HM1 := hide (HM.out.byte hrb hq1 ht1)
  have x0 : w1.cell? ⟨w.heap.size + 1, 0, none⟩ = some (.int .i64 0) := by rw [cell_of_row _ _ _ _ _ _ HM1.out.cur]; rfl
  have f0 := free_of_block HM1.out.cur 0
  have hs1 := lt_of_block HM1.out.cur
  clear hq1 ht1 HM HB1 c1 c2
  have d1 : w1.cell? ⟨p1, 0, none⟩ = some (.pointer (some ⟨rb, 0, none⟩)) := by rw [cell_of_row _ _ _ _ _ _ (HP.out _ HM1.out.t).1]; rfl
  have d3 : w1.cell? ⟨p3, 0, none⟩ = some (.int .i64 fin) := by rw [cell_of_row _ _ _ _ _ _ (HP.out _ HM1.out.t).2.1]; rfl
  have d4 : w1.cell? ⟨p4, 0, none⟩ = some (.int .i64 fr) := by rw [cell_of_row _ _ _ _ _ _ (HP.out _ HM1.out.t).2.2]; rfl
  have HM2 : Hid (PMk rb ao n cap zs 131 (three 0 0 0) w (three a 0 0) r1 (w1.setCell ⟨w.heap.size + 1, 0, none⟩ (.int .i64 a))) := HM1.out.set hrb HLT.out 0 (.int .i64 a)
  have HB2 := hide (pgnum0 rb ao n cap zs r1 fin (fr - 1) _ HM2.out.rd)
  have hb := pgB_small zs fin (fr - 1) [] r1 HBY.out
  generalize (pgB zs fin (fr - 1) [] r1).1 = b at HSP HB2 hb
  generalize (pgB zs fin (fr - 1) [] r1).2 = r2 at HSP HB2
  have e1 : ¬ p1 = w.heap.size + 1 := by omega
  have e3 : ¬ p3 = w.heap.size + 1 := by omega
  have e4 : ¬ p4 = w.heap.size + 1 := by omega
  go_wp2_with fail
  refine HB2.out.mono ?_
  rintro e w3 ⟨rfl, hq3, ht3⟩
  have HM3 := hide (HM2.out.byte hrb hq3 ht3)
  have y1 : w3.cell? ⟨w.heap.size + 1, 1, none⟩ = some (.int .i64 0) := by rw [cell_of_row _ _ _ _ _ _ HM3.out.cur]; rfl
  have f1 := free_of_block HM3.out.cur 1
  clear hq3 ht3 HM2 HB2 HM1 x0 f0 d1 d3 d4
  have d1 : w3.cell? ⟨p1, 0, none⟩ = some (.pointer (some ⟨rb, 0, none⟩)) := by rw [cell_of_row _ _ _ _ _ _ (HP.out _ HM3.out.t).1]; rfl
  have d4 : w3.cell? ⟨p4, 0, none⟩ = some (.int .i64 fr) := by rw [cell_of_row _ _ _ _ _ _ (HP.out _ HM3.out.t).2.2]; rfl
  have HM4 : Hid (PMk rb ao n cap zs 131 (three 0 0 0) w (three a b 0) r2 (w3.setCell ⟨w.heap.size + 1, 1, none⟩ (.int .i64 b))) := HM3.out.set hrb HLT.out 1 (.int .i64 b)
  have HB3 := hide (pgnum0 rb ao n cap zs r2 1 (fr - b) _ HM4.out.rd)
  have hc := pgB_small zs 1 (fr - b) [] r2 HBY.out
  generalize (pgB zs 1 (fr - b) [] r2).1 = c at HSP HB3 hc
  generalize (pgB zs 1 (fr - b) [] r2).2 = r3 at HSP HB3
  go_wp2_with fail
  refine HB3.out.mono ?_
  rintro e w5 ⟨rfl, hq5, ht5⟩
  have HM5 := hide (HM4.out.byte hrb hq5 ht5)
  have hcur := HM5.out.cur
  have hzero := HM5.out.zero
  clear d1 d4
  have d3 : w5.cell? ⟨p3, 0, none⟩ = some (.int .i64 fin) := by rw [cell_of_row _ _ _ _ _ _ (HP.out _ HM5.out.t).2.1]; rfl
  have k3 := free_of_block (HP.out _ HM5.out.t).2.1 0
  have x0 : w5.cell? ⟨w.heap.size + 1, 0, none⟩ = some (.int .i64 a) := by rw [cell_of_row _ _ _ _ _ _ hcur]; rfl
  have x1 : w5.cell? ⟨w.heap.size + 1, 1, none⟩ = some (.int .i64 b) := by rw [cell_of_row _ _ _ _ _ _ hcur]; rfl
  have x2 : w5.cell? ⟨w.heap.size + 1, 2, none⟩ = some (.int .i64 0) := by rw [cell_of_row _ _ _ _ _ _ hcur]; rfl
  have f2 := free_of_block hcur 2
  have q0 : w5.cell? ⟨w.heap.size, 0, none⟩ = some (.int .i64 0) := by rw [cell_of_row _ _ _ _ _ _ hzero]; rfl
  have q1 : w5.cell? ⟨w.heap.size, 1, none⟩ = some (.int .i64 0) := by rw [cell_of_row _ _ _ _ _ _ hzero]; rfl
  have q2 : w5.cell? ⟨w.heap.size, 2, none⟩ = some (.int .i64 0) := by rw [cell_of_row _ _ _ _ _ _ hzero]; rfl
  have g0 := free_of_block hzero 0
  have g1 := free_of_block hzero 1
  have g2 := free_of_block hzero 2
  have e5 : ¬ w.heap.size + 1 = p3 := by omega
  have e6 : ¬ w.heap.size = p3 := by omega
  have e7 : ¬ p3 = w.heap.size := by omega
  clear hq5 ht5 HM4 HB3 HM3 y1 f1 hcur hzero
  have HOK : Hid (∀ W1 W2 W3 v, Touch (fun i => i = w.heap.size + 1) w5 W1 → W2 = W1.setCell ⟨p3, 0, none⟩ v → Touch (fun i => i = w.heap.size) W2 W3 → PgAt rb ao n cap zs r3 W3 ∧ W3.heap[p3]? = some (.cells #[v] 3 (0, 0)) ∧ Touch (fun i => i = rb ∨ i = p3) w W3) := by
    intro W1 W2 W3 v t1 hW t2
    have b1 : W1.heap[p3]? = some (.cells #[.int .i64 fin] 3 (0, 0)) := (t1.block _ (lt_of_block (HP.out _ HM5.out.t).2.1) (by omega)).trans (HP.out _ HM5.out.t).2.1
    have tW : Touch (fun i => i = p3) W1 W2 := by rw [hW]; exact Touch.ofSet _ _ _ _ rfl
    have b2 : W2.heap[p3]? = some (.cells #[v] 3 (0, 0)) := by rw [hW]; exact block_set b1 0 _
    have m1 : PgAt rb ao n cap zs r3 W1 := HM5.out.rd.new hrb HLT.out (t1.mono (fun k hk => by omega))
    have m2 : PgAt rb ao n cap zs r3 W2 := m1.keep tW (fun h => hr3 h.symm) (fun ad e hn h => HZ3.out ad e hn h)
    have m3 : PgAt rb ao n cap zs r3 W3 := m2.new hrb HLT.out (t2.mono (fun k hk => by omega))
    refine ⟨m3, (t2.block _ (lt_of_block b2) (by omega)).trans b2, ?_⟩
    have u1 : Touch (fun i => i = rb ∨ i = p3) w W1 := (HM5.out.t.mono (fun k hk => .inl hk)).andNew (t1.mono (fun k hk => by omega))
    exact (u1.andThen (tW.mono (fun k hk => .inr hk))).andNew (t2.mono (fun k hk => by omega))
  go_wp2
  refine bodyPost_ret (v := .agg #[.int .i64 a, .int .i64 b, .int .i64 c]) (by simp [results, Tryz.results122, go_sem, q0, q1, q2]) rfl ?_
  rw [HSP.out]
  refine ⟨rfl, HOK.out (w5.setCell ⟨w.heap.size + 1, 2, none⟩ (.int .i64 c)) ((w5.setCell ⟨w.heap.size + 1, 2, none⟩ (.int .i64 c)).setCell ⟨p3, 0, none⟩ (.int .i64 (b + c))) _ (.int .i64 (b + c)) (Touch.ofSet _ _ _ _ rfl) rfl ?_⟩
  iterate 3 refine Touch.thenSet (g := w.heap.size) ?_ _ _ rfl
  exact Touch.refl _ _

theorem new_four (w : World) (o1 o2 o3 o4 : Obj) : ((((w.alloc o1).alloc o2).alloc o3).alloc o4).heap[w.heap.size + 1 + 1 + 1]? = some o4 := by
  have h := heap_alloc_new (((w.alloc o1).alloc o2).alloc o3) o4
  rw [show (((w.alloc o1).alloc o2).alloc o3).heap.size = w.heap.size + 1 + 1 + 1 from by simp] at h
  exact h

def pgWins (zs : List Int) (N fr : Int) (s : Rs) : List Wn × Rs :=
  let m := pgB zs 1 8 [] s
  let q := pgTo (pgWin zs N fr) m.1.toNat (m.2, 0)
  (q.1, q.2.1)

set_option maxRecDepth 100000 in
set_option maxHeartbeats 4000000 in
theorem pgwindows_any (rb : Nat) (ao : Option Addr) (n cap : Nat) (zs : List Int) (s : Rs) (N fr : Int) (w : World) (h : PgAt rb ao n cap zs s w) (hN : 0 ≤ N ∧ N ≤ 255) (hfr : 0 ≤ fr ∧ fr ≤ 255) :
    Calls Tryz.prog 83 #[.pointer (some ⟨rb, 0, none⟩), .int .i64 N, .int .i64 fr] w fun e w' => ∃ ad m c, e = .returned (.slice ad m c) ∧ WinsV w.heap.size (.slice ad m c) (pgWins zs N fr s).1 w' ∧ PgAt rb ao n cap zs (pgWins zs N fr s).2 w' ∧ Touch (· = rb) w w' := by
  have hrb := lt_of_block h.obj
  have HLT : Hid (∀ ad, ao = some ad → 0 < n → ad.block < w.heap.size) := h.held.lt
  have HBY := hide h.held.bytes
  obtain ⟨w0, hw0⟩ : ∃ w0, w0 = ((((w.alloc (.cells #[.pointer (some ⟨rb, 0, none⟩)] 102)).alloc (.cells #[.int .i64 N] 3)).alloc (.cells #[.int .i64 fr] 3)).alloc (.cells #[.int .i64 0] 3)) := ⟨_, rfl⟩
  have hs0 : w0.heap.size = w.heap.size + 4 := by rw [hw0]; simp
  have hA : w0.heap[w.heap.size]? = some (.cells #[.pointer (some ⟨rb, 0, none⟩)] 102 (0, 0)) := by rw [hw0]; exact (Below.heap_alloc _ _ _ (by simp; omega)).trans ((Below.heap_alloc _ _ _ (by simp; omega)).trans ((Below.heap_alloc _ _ _ (by simp)).trans (heap_alloc_new w _)))
  have hB : w0.heap[w.heap.size + 1]? = some (.cells #[.int .i64 N] 3 (0, 0)) := by rw [hw0]; exact (Below.heap_alloc _ _ _ (by simp)).trans ((Below.heap_alloc _ _ _ (by simp)).trans (new_two w _ _))
  have hC : w0.heap[w.heap.size + 1 + 1]? = some (.cells #[.int .i64 fr] 3 (0, 0)) := by rw [hw0]; exact (Below.heap_alloc _ _ _ (by simp)).trans (new_three w _ _ _)
  have hD : w0.heap[w.heap.size + 1 + 1 + 1]? = some (.cells #[.int .i64 0] 3 (0, 0)) := by rw [hw0]; exact new_four w _ _ _ _
  have hT : Touch (· = rb) w w0 := by rw [hw0]; exact (((touch_alloc _ _).andThen (touch_alloc _ _)).andThen (touch_alloc _ _)).andThen (touch_alloc _ _)
  have hP : PgAt rb ao n cap zs s w0 := by rw [hw0]; exact (((h.alloc _).alloc _).alloc _).alloc _
  have HB := hide (pgnum0 rb ao n cap zs s 1 8 _ hP)
  have HSP : Hid (pgWins zs N fr s = ((pgTo (pgWin zs N fr) (pgB zs 1 8 [] s).1.toNat ((pgB zs 1 8 [] s).2, 0)).1, (pgTo (pgWin zs N fr) (pgB zs 1 8 [] s).1.toNat ((pgB zs 1 8 [] s).2, 0)).2.1)) := rfl
  have hm1 := pgB_small zs 1 8 [] s HBY.out
  have hm2 := pgB_le zs 1 8 [] s (by omega)
  generalize (pgB zs 1 8 [] s).1 = M at HSP HB hm1 hm2
  generalize (pgB zs 1 8 [] s).2 = s1 at HSP HB
  have HW := hide hw0
  have H0 := hide (And.intro hA (And.intro hB (And.intro hC (And.intro hD hT))))
  clear h hA hB hC hD hT hP hw0
  go_enter Tryz.func83, Tryz.ntmps83
  go_wp2_with fail
  rw [← HW.out]
  refine HB.out.mono ?_
  rintro e w1 ⟨rfl, hp, ht⟩
  obtain ⟨hA, hB, hC, hD, hT⟩ := H0.out
  have hs1 := ht.size
  have hA1 := (ht.block _ (by omega) (by omega)).trans hA
  have hB1 := (ht.block _ (by omega) (by omega)).trans hB
  have hC1 := (ht.block _ (by omega) (by omega)).trans hC
  have hD1 := (ht.block _ (by omega) (by omega)).trans hD
  have hT1 := hT.andThen ht
  have H1 := hide (And.intro hA1 (And.intro hB1 (And.intro hC1 (And.intro hD1 (And.intro hT1 hp)))))
  clear hA hB hC hD hT hA1 hB1 hC1 hD1 hT1 hp ht H0 HB HW
  have hLI := list_win w.heap.size (w.heap.size + 1) (w.heap.size + 1 + 1 + 1) (w.heap.size + 1 + 1) M.toNat (by omega) (fun i => i = rb ∨ i = w.heap.size + 1 + 1 + 1) w1 (fun b hb => by omega) (fun j l wr => l = (pgTo (pgWin zs N fr) j (s1, 0)).1 ∧ PgAt rb ao n cap zs (pgTo (pgWin zs N fr) j (s1, 0)).2.1 wr ∧ wr.heap[w.heap.size + 1 + 1 + 1]? = some (.cells #[.int .i64 (pgTo (pgWin zs N fr) j (s1, 0)).2.2] 3 (0, 0)) ∧ Touch (fun i => i = rb ∨ i = w.heap.size + 1 + 1 + 1) w1 wr)
    (fun j l wr w' hI t => ⟨hI.1, hI.2.1.new (B := w1.heap.size) (by omega) (fun ad e hn => by have := HLT.out ad e hn; omega) (t.mono (fun k hk => hk.1)), (t.block _ (lt_of_block hI.2.2.1) (fun hk => by have := hk.1; omega)).trans hI.2.2.1, hI.2.2.2.andNew (t.mono (fun k hk => hk.1))⟩)
    (fun j l wr hj hI => (pgwin_lit w.heap.size (w.heap.size + 1) (w.heap.size + 1 + 1 + 1) (w.heap.size + 1 + 1) rb ao n cap zs _ N fr _ wr hI.2.1 hN hfr ((hI.2.2.2.block _ (by omega) (by omega)).trans H1.out.1) ((hI.2.2.2.block _ (by omega) (by omega)).trans H1.out.2.1) hI.2.2.1 ((hI.2.2.2.block _ (by omega) (by omega)).trans H1.out.2.2.1) (by omega) (by omega) (by omega) (fun ad e hn => by have := HLT.out ad e hn; omega)).mono (fun e w' ⟨he, hp, hf, ht⟩ => ⟨_, he, ⟨by rw [hI.1]; rfl, hp, hf, hI.2.2.2.andThen ht⟩, ht⟩))
    ⟨rfl, H1.out.2.2.2.2.2, H1.out.2.2.2.1, Touch.refl _ _⟩
  rw [show ((M.toNat : Nat) : Int) = M from by omega] at hLI
  have HLI := hide hLI
  clear hLI
  go_wp2_with fail
  refine HLI.out.mono ?_
  rintro e w5 ⟨v, l, rfl, ⟨hl, hp, hf, ht⟩, hll, hV⟩
  obtain ⟨ad, cv, rfl⟩ := own_slice hV
  have HE : Hid (WinsV w.heap.size (.slice ad l.length cv) (pgWins zs N fr s).1 w5 ∧ PgAt rb ao n cap zs (pgWins zs N fr s).2 w5 ∧ Touch (· = rb) w w5) := by
    rw [HSP.out]
    refine ⟨?_, hp, Touch.trans (T := fun i => i = rb ∨ i = w.heap.size + 1 + 1 + 1) H1.out.2.2.2.2.1 ht (fun i hi => by omega)⟩
    rw [← hl]
    exact own_low hV (by omega)
  clear hl hp hf ht hll hV HLI H1
  go_wp2
  go_ret
  exact ⟨ad, l.length, cv, rfl, HE.out⟩
end Go.Proofs.YtnjlbgolnbdkaaaGreat
