/- Texts of the proof of Boots, one behind the other. -/
import Derived.Test.YtnjlbgolnbdkaaaGreatJ23
import Derived.Test.YtnjlbgolnbdkaaaGreatJ19
import Derived.Test.YtnjlbgolnbdkaaaGreatJ12
import Derived.Laws.Rows
import Derived.Deep.MidRow
import Derived.Test.YtnjlbgolnbdkaaaGreatJ09
/- The program's start: a partition. -/
namespace Go.Proofs.YtnjlbgolnbdkaaaGreat
open Go.RowKit

theorem own_cells {w : World} {base : Nat} {e : TypeId} {sz : Nat} {x n : Nat} {xs : List Value} (h : w.ownsRow base e sz (.slice (some ⟨x, 0, none⟩) n n) n xs) : base ≤ x ∧ w.heap[x]? = some (.cells xs.toArray e (0, 0)) := by
  have hlen := h.1
  rcases h.2 with ⟨h1, _⟩ | ⟨g, cap, cur, hv, hb, hh, _, _, hs, ht⟩
  · cases h1
  · simp at hv
    obtain ⟨rfl, rfl⟩ := hv
    refine ⟨hb, ?_⟩
    rw [List.take_of_length_le (by simp [hs])] at ht
    rw [hh, ← ht]

set_option maxHeartbeats 1000000 in
theorem procOne_any (cb q n c j : Nat) (ad : Option Addr) (m cc : Nat) (w : World) (hj : j < n) (h0 : w.cell? ⟨cb, 9, none⟩ = some (.slice (some ⟨q, 0, none⟩) n c)) (h1 : w.cell? ⟨q, j * 2 + 1, none⟩ = some (.slice ad m cc)) :
    Calls Tryz.prog 94 #[.int .i64 j, .pointer (some ⟨cb, 0, none⟩)] w fun e w' => e = .returned (.agg #[.slice ad m cc, .int .i64 0, .int .i64 0, .bool false, .int .i64 0, .int .i64 0]) ∧ Below w.heap.size w w' := by
  have hl0 := lt_of_cell h0
  have hl1 := lt_of_cell h1
  go_enter Tryz.func94, Tryz.ntmps94
  go_wp2
  exact bodyPost_ret (v := .agg #[.slice ad m cc, .int .i64 0, .int .i64 0, .bool false, .int .i64 0, .int .i64 0]) (by simp [results, Tryz.results94, go_sem]) rfl ⟨rfl, (Below.refl _ _).alloc (Nat.le_refl _) _⟩

/- words that are nought -/
theorem words_any (n : Nat) (hn : n ≤ 255) (w : World) :
    Calls Tryz.prog 91 #[.int .i64 n, .func (.func 92) #[] #[]] w fun e w' => ∃ x, e = .returned (.agg #[.slice (some ⟨x, 0, none⟩) n n]) ∧ w.heap.size ≤ x ∧ w'.heap[x]? = some (.cells ((List.replicate n (0 : Int)).map (Value.int .i64)).toArray 3 (0, 0)) ∧ Below w.heap.size w w' := by
  refine (makeInt0_any n hn (fun _ => False) w (fun _ h => h.elim) (fun j l W => l = List.replicate j 0 ∧ Touch (fun b => w.heap.size ≤ b) w W) (fun j l W W' hI t => ⟨hI.1, hI.2.trans t (fun i hi => .inl hi.1)⟩) (fun j l W hj hI hsW => (nought_any j W).mono (fun e w' ⟨he, hw⟩ => ⟨0, he, ⟨by rw [hI.1, List.replicate_succ'], by rw [hw]; exact hI.2⟩, by rw [hw]; exact Touch.refl _ _⟩)) ⟨rfl, Touch.refl _ _⟩).mono ?_
  rintro e w' ⟨x, l, rfl, ⟨rfl, ht⟩, _, hown⟩
  obtain ⟨h1, h2⟩ := own_cells hown
  exact ⟨x, rfl, h1, by rw [h2, mkisC_eq], ht.below (Nat.le_refl _) (fun k hk => hk)⟩

/- a process in the machine's memory -/
def dlOf (d : Int) : Int := if d < 0 then 0 else d
def mprocCells (v : Value) (p : RProc) : List Value := [v, .int .i64 p.next, .int .i64 p.acc, .bool p.stopped, .int .i64 p.til, .int .i64 (dlOf p.dl)]
def elOf : Value → El
  | .slice a n c => ⟨fun _ => 0, false, fun _ => a, fun _ => n, fun _ => c, none⟩
  | _ => ⟨fun _ => 0, false, fun _ => none, fun _ => 0, fun _ => 0, none⟩
theorem mkq_el {v : Value} (h : ∃ a m c, v = .slice a m c) : mkqC (elOf v) = mprocCells v proc0 := by
  obtain ⟨a, m, c, rfl⟩ := h
  rfl
theorem procs_any (cb q c : Nat) (l : List (Pr × Value)) (w : World) (hl : l.length ≤ 2) (hcb : cb < w.heap.size) (hqq : q < w.heap.size) (h0 : w.cell? ⟨cb, 9, none⟩ = some (.slice (some ⟨q, 0, none⟩) l.length c))
    (hq : ∀ k p, l[k]? = some p → (∃ a m cc, p.2 = .slice a m cc) ∧ w.cell? ⟨q, k * 2 + 1, none⟩ = some p.2) :
    Calls Tryz.prog 93 #[.int .i64 l.length, .func (.func 94) #[] #[.pointer (some ⟨cb, 0, none⟩)]] w fun e w' => ∃ x, e = .returned (.agg #[.slice (some ⟨x, 0, none⟩) l.length l.length]) ∧ w.heap.size ≤ x ∧ w'.heap[x]? = some (.cells (l.flatMap fun p => mprocCells p.2 proc0).toArray 166 (0, 0)) ∧ Below w.heap.size w w' := by
  refine (makeProc_any cb l.length (by omega) (fun _ => False) w (fun _ h => h.elim) (fun j r W => r = (l.take j).map (fun p => elOf p.2) ∧ Touch (fun b => w.heap.size ≤ b) w W) (fun j r W W' hI t => ⟨hI.1, hI.2.trans t (fun i hi => .inl hi.1)⟩) (fun j r W hj hI hsW => ?_) ⟨by simp, Touch.refl _ _⟩).mono ?_
  · obtain ⟨⟨a, m, cc, hv⟩, hc⟩ := hq j l[j] (List.getElem?_eq_getElem hj)
    refine (procOne_any cb q l.length c j a m cc W hj ((cell_same (hI.2.block cb hcb (by omega)) 9).trans h0) ((cell_same (hI.2.block q hqq (by omega)) _).trans (hc.trans (by rw [hv])))).mono ?_
    rintro e w' ⟨rfl, hb⟩
    refine ⟨elOf (l[j]).2, by rw [hv]; rfl, ⟨?_, hI.2.trans (Touch.ofBelow (S := fun _ => False) hb) (fun _ h => h.elim)⟩, Touch.ofBelow hb⟩
    rw [hI.1, List.take_add_one, List.getElem?_eq_getElem hj, List.map_append]
    rfl
  · rintro e w' ⟨x, r, rfl, ⟨rfl, ht⟩, _, hown⟩
    obtain ⟨h1, h2⟩ := own_cells hown
    refine ⟨x, rfl, h1, ?_, ht.below (Nat.le_refl _) (fun k hk => hk)⟩
    rw [h2, List.take_length]
    congr 3
    unfold mkqsC
    rw [List.flatMap_map]
    have : ∀ (r : List (Pr × Value)), (∀ p ∈ r, ∃ a m cc, p.2 = .slice a m cc) → (r.flatMap fun p => mkqC (elOf p.2)) = r.flatMap fun p => mprocCells p.2 proc0 := by
      intro r hr
      induction r with
      | nil => rfl
      | cons a r ih =>
        rw [List.flatMap_cons, List.flatMap_cons, mkq_el (hr a (List.mem_cons_self ..)), ih (fun p hp => hr p (List.mem_cons_of_mem _ hp))]
    exact this l (fun p hp => by obtain ⟨i, hi⟩ := List.getElem?_of_mem hp; exact (hq i p hi).1)
end Go.Proofs.YtnjlbgolnbdkaaaGreat
/- Results that lie in memory. -/
namespace Go.Proofs.YtnjlbgolnbdkaaaGreat
open Go.RowKit

theorem res_cell {fn : Func} {p : Tmp} {ty : TypeId} (h : fn.results = #[.cell p ty]) (tmps : Array Value) (P : Program) (w : World) {b : Nat} {cs : Array Value} {t : TypeId} {fr : Nat × Nat} {fs : Array Field}
    (hp : tmps[p]?.getD undef = .pointer (some ⟨b, 0, none⟩)) (hb : w.heap[b]? = some (.cells cs t fr)) (hu : P.underlying ty = some (.struct fs)) (hi : (P.info? ty).map (·.size) = some cs.size) :
    (results fn tmps).run P w = .ok (.agg cs) w := by
  have hl := run_loadVar_row (P := P) w b t ty cs fr (.struct fs) hb hu rfl hi
  simp only [results, h]
  simp [hp, asAddr, hl]
theorem res_cell_tmp {fn : Func} {p u : Tmp} {ty : TypeId} (h : fn.results = #[.cell p ty, .tmp u]) (tmps : Array Value) (P : Program) (w : World) {b : Nat} {cs : Array Value} {t : TypeId} {fr : Nat × Nat} {fs : Array Field}
    (hp : tmps[p]?.getD undef = .pointer (some ⟨b, 0, none⟩)) (hb : w.heap[b]? = some (.cells cs t fr)) (hu : P.underlying ty = some (.struct fs)) (hi : (P.info? ty).map (·.size) = some cs.size) :
    (results fn tmps).run P w = .ok (.tuple #[.agg cs, tmps[u]?.getD undef]) w := by
  have hl := run_loadVar_row (P := P) w b t ty cs fr (.struct fs) hb hu rfl hi
  simp only [results, h]
  simp [hp, asAddr, hl]
/- what is there stays there -/
theorem lt_of_heap {w : World} {x : Nat} {o : Obj} (h : w.heap[x]? = some o) : x < w.heap.size := (Array.getElem?_eq_some_iff.1 h).1
theorem keepB {W w : World} {x : Nat} {o : Obj} (hB : Below W.heap.size W w) (h : W.heap[x]? = some o) : w.heap[x]? = some o := (hB.block x (Array.getElem?_eq_some_iff.1 h).1).trans h
def setA (cs : Array Value) : Nat → List Value → Array Value
  | _, [] => cs
  | o, v :: r => setA (cs.setIfInBounds o v) (o + 1) r
theorem setA_list : ∀ (vs : List Value) (o : Nat) (cs : Array Value), o + vs.length = cs.size → (setA cs o vs).toList = cs.toList.take o ++ vs
  | [], o, cs, h => by
    show cs.toList = _
    rw [List.append_nil, List.take_of_length_le (by simp at h; simp; omega)]
  | v :: r, o, cs, h => by
    have hl : o < cs.toList.length := by simp at h ⊢; omega
    show (setA (cs.setIfInBounds o v) (o + 1) r).toList = _
    rw [setA_list r (o + 1) (cs.setIfInBounds o v) (by simp at h ⊢; omega), Array.toList_setIfInBounds, List.take_add_one, List.take_set_of_le (Nat.le_refl _), List.getElem?_set_self hl]
    simp
theorem setA_all (cs : Array Value) (vs : List Value) (h : vs.length = cs.size) : setA cs 0 vs = vs.toArray := by
  apply Array.ext'
  rw [setA_list vs 0 cs (by omega)]
  simp
theorem setCells_block {b : Nat} {t : TypeId} : ∀ (vs : List Value) (o : Nat) (w : World) (cs : Array Value), w.heap[b]? = some (.cells cs t (0, 0)) → (w.setCells b o vs).heap[b]? = some (.cells (setA cs o vs) t (0, 0))
  | [], _, _, _, h => h
  | v :: r, o, w, _, h => setCells_block r (o + 1) (w.setCell ⟨b, o, none⟩ v) _ (block_set h o v)
theorem setCells_whole {w : World} {b : Nat} {cs : Array Value} {t : TypeId} (vs : List Value) (h : w.heap[b]? = some (.cells cs t (0, 0))) (hl : vs.length = cs.size) : (w.setCells b 0 vs).heap[b]? = some (.cells vs.toArray t (0, 0)) := by
  rw [setCells_block vs 0 w cs h, setA_all cs vs hl]
theorem touch_setCells (b : Nat) : ∀ (vs : List Value) (o : Nat) (w : World), Touch (· = b) w (w.setCells b o vs)
  | [], _, w => Touch.refl _ w
  | v :: r, o, w => (Touch.ofSet (S := (· = b)) w b o v rfl).andThen (touch_setCells b r (o + 1) _)
theorem there_of_block {w : World} {b : Nat} {cs : Array Value} {t : TypeId} (h : w.heap[b]? = some (.cells cs t (0, 0))) (n : Nat) (hn : n ≤ cs.size) : w.there b 0 n := fun j hj => by
  rw [Nat.zero_add]
  refine ⟨?_, free_of_block h j⟩
  rw [cell_of_row _ _ _ _ _ _ h, Array.getElem?_eq_getElem (by omega)]
  rfl
end Go.Proofs.YtnjlbgolnbdkaaaGreat
/- The program's lists of a fixed length: Make of partitions. -/
namespace Go.Proofs.YtnjlbgolnbdkaaaGreat
open Go.RowKit

theorem Tryz.info120 : (Tryz.prog.info? 120).map (fun i => (i.zero, i.size, i.bytes)) = some (some (.agg #[.int .i64 0, .bool false, .int .i64 0, .int .i64 0, .int .i64 0, .int .i64 0, .int .i64 0, .int .i64 0, .int .i64 0, .int .i64 0, .slice none 0 0, .slice none 0 0, .slice none 0 0, .int .i64 0]), 14, 160) := by kernel_rfl
def mkpC (x : El) : List Value := [.int .i64 (x.i 0), .bool x.b, .int .i64 (x.i 1), .int .i64 (x.i 2), .int .i64 (x.i 3), .int .i64 (x.i 4), .int .i64 (x.i 5), .int .i64 (x.i 6), .int .i64 (x.i 7), .int .i64 (x.i 8), .slice (x.ad 0) (x.n 0) (x.c 0), .slice (x.ad 1) (x.n 1) (x.c 1), .slice (x.ad 2) (x.n 2) (x.c 2), .int .i64 (x.i 9)]
def mkpsC (l : List El) : List Value := l.flatMap mkpC
theorem mkpsC_length (l : List El) : (mkpsC l).length = l.length * 14 := by
  induction l with
  | nil => rfl
  | cons a l ih => show (mkpC a ++ mkpsC l).length = _; rw [List.length_append, ih]; show 14 + _ = _; simp; omega
theorem mkp_fill (l : List El) (e : El) (rest : List Value) (hr : 14 ≤ rest.length) : setL (mkpsC l ++ rest) (l.length * 14) (mkpC e) = mkpsC (l ++ [e]) ++ rest.drop 14 := by
  apply List.ext_getElem?
  intro j
  have h1 := mkpsC_length l
  have hx : (mkpC e).length = 14 := rfl
  rw [setL_get _ _ _ (by rw [List.length_append, h1, hx]; omega), hx, show mkpsC (l ++ [e]) = mkpsC l ++ mkpC e from by simp [mkpsC], List.append_assoc]
  by_cases ha : j < l.length * 14
  · rw [if_neg (by omega), List.getElem?_append_left (by omega), List.getElem?_append_left (by omega)]
  · by_cases hb : j < l.length * 14 + 14
    · rw [if_pos (by omega), List.getElem?_append_right (by omega), h1, List.getElem?_append_left (by rw [hx]; omega)]
    · rw [if_neg (by omega), List.getElem?_append_right (by omega), List.getElem?_append_right (by omega), h1, List.getElem?_append_right (by rw [hx]; omega), hx, List.getElem?_drop]
      congr 1
      omega
set_option maxRecDepth 100000 in
set_option maxHeartbeats 4000000 in
theorem makePart_any (cb lb : Nat) (many : Nat) (hm : many ≤ 255) (S : Nat → Prop) (w : World) (hS : ∀ b, S b → b < w.heap.size) (I : Nat → List El → World → Prop)
    (hkeep : ∀ j l wr w', I j l wr → Touch (fun b => w.heap.size ≤ b ∧ b < w.heap.size + 3) wr w' → I j l w')
    (hstep : ∀ j l wr, j < many → I j l wr → w.heap.size + 3 ≤ wr.heap.size → Calls Tryz.prog 50 #[.int .i64 j, .pointer (some ⟨cb, 0, none⟩), .pointer (some ⟨lb, 0, none⟩)] wr fun e w' => ∃ x : El, e = .returned (.agg #[.int .i64 (x.i 0), .bool x.b, .int .i64 (x.i 1), .int .i64 (x.i 2), .int .i64 (x.i 3), .int .i64 (x.i 4), .int .i64 (x.i 5), .int .i64 (x.i 6), .int .i64 (x.i 7), .int .i64 (x.i 8), .slice (x.ad 0) (x.n 0) (x.c 0), .slice (x.ad 1) (x.n 1) (x.c 1), .slice (x.ad 2) (x.n 2) (x.c 2), .int .i64 (x.i 9)]) ∧ I (j + 1) (l ++ [x]) w' ∧ Touch S wr w')
    (h0 : I 0 [] w) : Calls Tryz.prog 49 #[.int .i64 many, .func (.func 50) #[] #[.pointer (some ⟨cb, 0, none⟩), .pointer (some ⟨lb, 0, none⟩)]] w fun e w' => ∃ x l, e = .returned (.agg #[.slice (some ⟨x, 0, none⟩) many many]) ∧ I many l w' ∧ l.length = many ∧ w'.ownsRow w.heap.size 120 14 (.slice (some ⟨x, 0, none⟩) many many) many (mkpsC l) := by
  obtain ⟨i0, hi, hz0, hz1, hz2⟩ := info_parts Tryz.info120
  have hmk : ∀ W : World, (Instr.makeSlice 109 (.int .i64 (many : Int)) (.int .i64 (many : Int))).run Tryz.prog W = .ok (.slice (some ⟨W.heap.size, 0, none⟩) many many) (W.alloc (.cells (madeCells #[.int .i64 0, .bool false, .int .i64 0, .int .i64 0, .int .i64 0, .int .i64 0, .int .i64 0, .int .i64 0, .int .i64 0, .int .i64 0, .slice none 0 0, .slice none 0 0, .slice none 0 0, .int .i64 0] (many * 14)) 120)) := by
    intro W
    have := run_make (P := Tryz.prog) (w := W) 109 120 i0 _ Tryz.underlying109 hi hz0 .i64 .i64 (many : Int) (many : Int) (by omega) (by omega) (by rw [hz2]; omega) (by omega)
    simpa [hz1, Value.cells] using this
  generalize hM : madeCells #[.int .i64 0, .bool false, .int .i64 0, .int .i64 0, .int .i64 0, .int .i64 0, .int .i64 0, .int .i64 0, .int .i64 0, .int .i64 0, .slice none 0 0, .slice none 0 0, .slice none 0 0, .int .i64 0] (many * 14) = M at hmk
  have hMs : M.size = many * 14 := by rw [← hM]; simp [madeCells]
  have HK := hide hkeep
  have HS := hide hS
  have HST := hide hstep
  have H0 := hide h0
  clear hkeep hS hstep h0 hM
  have HINIT : Hid (∀ W, W = (((w.alloc (.cells #[.slice none 0 0] 111)).alloc (.cells M 120)).alloc (.cells #[.slice (some ⟨w.heap.size + 1, 0, none⟩) many many] 111)) → Touch (fun _ => False) w W ∧ W.heap.size = w.heap.size + 3 ∧ W.heap[w.heap.size]? = some (.cells #[.slice none 0 0] 111 (0, 0)) ∧ W.heap[w.heap.size + 2]? = some (.cells #[.slice (some ⟨w.heap.size + 1, 0, none⟩) many many] 111 (0, 0)) ∧ W.ownsRow w.heap.size 120 14 (.slice (some ⟨w.heap.size + 1, 0, none⟩) many many) many M.toList) := by
    rintro W rfl
    have s1 : (w.alloc (.cells #[.slice none 0 0] 111)).heap.size = w.heap.size + 1 := by simp
    have s2 : ((w.alloc (.cells #[.slice none 0 0] 111)).alloc (.cells M 120)).heap.size = w.heap.size + 2 := by simp
    refine ⟨Touch.trans (Touch.trans (Touch.alloc _ _) (Touch.alloc _ _) (fun _ h => .inl h)) (Touch.alloc _ _) (fun _ h => .inl h), by simp, ?_, ?_, ?_⟩
    · rw [Below.heap_alloc _ _ _ (by omega), Below.heap_alloc _ _ _ (by omega)]; exact heap_alloc_new w _
    · have := heap_alloc_new ((w.alloc (.cells #[.slice none 0 0] 111)).alloc (.cells M 120)) (.cells #[.slice (some ⟨w.heap.size + 1, 0, none⟩) many many] 111)
      rwa [s2] at this
    · have hb : (((w.alloc (.cells #[.slice none 0 0] 111)).alloc (.cells M 120)).alloc (.cells #[.slice (some ⟨w.heap.size + 1, 0, none⟩) many many] 111)).heap[w.heap.size + 1]? = some (.cells M 120 (0, 0)) := by
        rw [Below.heap_alloc _ _ _ (by omega)]
        have := heap_alloc_new (w.alloc (.cells #[.slice none 0 0] 111)) (.cells M 120)
        rwa [s1] at this
      exact ⟨by simp [hMs], .inr ⟨w.heap.size + 1, many, M, rfl, by omega, hb, Nat.le_refl _, by unfold maxLen; omega, hMs, by rw [List.take_of_length_le (by simp [hMs])]⟩⟩
  go_enter Tryz.func49, Tryz.ntmps49
  go_wp2
  go_loopw [13] (fun t wr => ∃ (k : Nat) (l : List El) (rest : List Value), k ≤ many ∧ t = .int .i64 k ∧ l.length = k ∧ I k l wr ∧ w.heap.size + 3 ≤ wr.heap.size ∧ wr.heap[w.heap.size]? = some (.cells #[.slice none 0 0] 111 (0, 0)) ∧ wr.heap[w.heap.size + 2]? = some (.cells #[.slice (some ⟨w.heap.size + 1, 0, none⟩) many many] 111 (0, 0)) ∧ wr.ownsRow w.heap.size 120 14 (.slice (some ⟨w.heap.size + 1, 0, none⟩) many many) many (mkpsC l ++ rest) ∧ rest.length = (many - k) * 14) (fun t _ => many - (intOf t).toNat)
  case atStart =>
    obtain ⟨h1, h2, h3, h4, h5⟩ := HINIT.out _ rfl
    exact ⟨0, [], M.toList, by omega, rfl, rfl, HK.out _ _ _ _ H0.out (h1.mono (fun _ h => h.elim)), by omega, h3, h4, h5, by simp [hMs]⟩
  case round =>
    obtain ⟨k, l, rest, hk, rfl, hl, hI, hsz, hres, hbox, hrow, hrest⟩ := hrel
    have bx : wr.cell? ⟨w.heap.size + 2, 0, none⟩ = some (.slice (some ⟨w.heap.size + 1, 0, none⟩) many many) := by rw [cell_of_row _ _ _ _ _ _ hbox]; rfl
    by_cases hlt : k < many
    · have HB := hide (HST.out k l wr.drew hlt (HK.out _ _ _ _ hI ⟨rfl, rfl, rfl, Nat.le_refl _, fun _ _ _ => rfl⟩) (by show w.heap.size + 3 ≤ wr.heap.size; omega))
      have HAF : Hid (∀ (x : El) (w2 : World), I (k + 1) (l ++ [x]) w2 → Touch S wr.drew w2 → w2.cell? ⟨w.heap.size + 2, 0, none⟩ = some (.slice (some ⟨w.heap.size + 1, 0, none⟩) many many) ∧ (∃ u : Nat → Value, ∀ o, o < 14 → w2.cell? ⟨w.heap.size + 1, k * 14 + o, none⟩ = some (u o)) ∧ (∀ o, w2.frozen? ⟨w.heap.size + 1, o, none⟩ = false) ∧
          (I (k + 1) (l ++ [x]) (setW w2 (w.heap.size + 1) (k * 14) (mkpC x)) ∧ w.heap.size + 3 ≤ (setW w2 (w.heap.size + 1) (k * 14) (mkpC x)).heap.size ∧ (setW w2 (w.heap.size + 1) (k * 14) (mkpC x)).heap[w.heap.size]? = some (.cells #[.slice none 0 0] 111 (0, 0)) ∧ (setW w2 (w.heap.size + 1) (k * 14) (mkpC x)).heap[w.heap.size + 2]? = some (.cells #[.slice (some ⟨w.heap.size + 1, 0, none⟩) many many] 111 (0, 0)) ∧ (setW w2 (w.heap.size + 1) (k * 14) (mkpC x)).ownsRow w.heap.size 120 14 (.slice (some ⟨w.heap.size + 1, 0, none⟩) many many) many (mkpsC (l ++ [x]) ++ rest.drop 14))) := by
        intro x w2 hI2 ht
        have ht2 : Touch S wr w2 := ⟨ht.os, ht.tape, ht.output, ht.size, ht.block⟩
        have hs2 := ht2.size
        have hbox2 := (ht2.block _ (by omega) (fun hs => by have := HS.out _ hs; omega)).trans hbox
        have hrow2 : w2.ownsRow w.heap.size 120 14 (.slice (some ⟨w.heap.size + 1, 0, none⟩) many many) many (mkpsC l ++ rest) := own_keep hrow (fun b e => ht2.block b (World.ownsRow.lt hrow b e).2 (fun hs => by have := HS.out _ hs; have := (World.ownsRow.lt hrow b e).1; omega))
        obtain ⟨cur, hcur, hcs⟩ : ∃ cur : Array Value, w2.heap[w.heap.size + 1]? = some (.cells cur 120 (0, 0)) ∧ cur.size = many * 14 := by
          rcases hrow2.2 with ⟨h, _⟩ | ⟨g', cap', cur, hv, _, hh, _, _, hs', _⟩
          · cases h
          · simp at hv
            obtain ⟨rfl, rfl⟩ := hv
            exact ⟨cur, hh, hs'⟩
        have t := touch_setW (w.heap.size + 1) (mkpC x) w2 (k * 14)
        have hres2 := (ht2.block _ (by omega) (fun hs => by have := HS.out _ hs; omega)).trans hres
        refine ⟨by rw [cell_of_row _ _ _ _ _ _ hbox2]; rfl, ⟨fun o => cur[k * 14 + o]?.getD default, fun o ho => ?_⟩, fun o => free_of_block hcur o, HK.out _ _ _ _ hI2 (t.mono (fun b hb => by rw [hb]; omega)), by have := t.size; omega, (t.block _ (by omega) (by omega)).trans hres2, (t.block _ (by omega) (by omega)).trans hbox2, ?_⟩
        · have hlt' : k * 14 + o < cur.size := by omega
          show _ = some (cur[k * 14 + o]?.getD default)
          rw [cell_of_row _ _ _ _ _ _ hcur]
          simp [hlt']
        · have := own_setW (mkpC x) w2 _ (k * 14) hrow2 (by show k * 14 + 14 ≤ many * 14; omega)
          rw [← hl, mkp_fill l x rest (by rw [hrest]; omega)] at this
          rw [← hl]
          exact this
      have HR6 : Hid ((rest.drop 14).length = (many - (k + 1)) * 14) := by show _ = _; rw [List.length_drop, hrest]; omega
      have HLL : Hid (∀ x : El, (l ++ [x]).length = k + 1) := fun x => by rw [List.length_append, hl]; rfl
      clear hI hres hbox hrow hl hrest
      go_wp2_with fail
      go_region_law (go_simp; (with_reducible show Calls Tryz.prog 50 _ _ _); refine HB.out.mono ?_; rintro e w2 ⟨x, rfl, hI2, ht2⟩; obtain ⟨bx2, ⟨u, hu⟩, hff, h5⟩ := HAF.out x w2 hI2 ht2; have H5 := hide h5; have q0 : w2.cell? ⟨w.heap.size + 1, k * 14, none⟩ = some (u 0) := hu 0 (by omega); have q1 := hu 1 (by omega); have q2 := hu 2 (by omega); have q3 := hu 3 (by omega); have q4 := hu 4 (by omega); have q5 := hu 5 (by omega); have q6 := hu 6 (by omega); have q7 := hu 7 (by omega); have q8 := hu 8 (by omega); have q9 := hu 9 (by omega); have q10 := hu 10 (by omega); have q11 := hu 11 (by omega); have q12 := hu 12 (by omega); have q13 := hu 13 (by omega); have f0 := hff (k * 14); have f1 := hff (k * 14 + 1); have f2 := hff (k * 14 + 2); have f3 := hff (k * 14 + 3); have f4 := hff (k * 14 + 4); have f5 := hff (k * 14 + 5); have f6 := hff (k * 14 + 6); have f7 := hff (k * 14 + 7); have f8 := hff (k * 14 + 8); have f9 := hff (k * 14 + 9); have f10 := hff (k * 14 + 10); have f11 := hff (k * 14 + 11); have f12 := hff (k * 14 + 12); have f13 := hff (k * 14 + 13); clear hI2 ht2 hu hff h5)
      all_goals (
        go_wp2
        go_roundw
        case rel => exact ⟨k + 1, l ++ [x], rest.drop 14, by omega, by go_num, HLL.out x, H5.out.1, H5.out.2.1, H5.out.2.2.1, H5.out.2.2.2.1, H5.out.2.2.2.2, HR6.out⟩
        case measure => simp [intOf]; omega)
    · obtain rfl : k = many := by omega
      obtain rfl : rest = [] := List.eq_nil_of_length_eq_zero (by rw [hrest, Nat.sub_self, Nat.zero_mul])
      rw [List.append_nil] at hrow
      have r0 : wr.cell? ⟨w.heap.size, 0, none⟩ = some (.slice none 0 0) := by rw [cell_of_row _ _ _ _ _ _ hres]; rfl
      have fr0 := free_of_block hres 0
      obtain ⟨wF, hwF⟩ : ∃ wF, wF = wr.setCell ⟨w.heap.size, 0, none⟩ (.slice (some ⟨w.heap.size + 1, 0, none⟩) k k) := ⟨_, rfl⟩
      have hFB : wF.heap[w.heap.size]? = some (.cells #[.slice (some ⟨w.heap.size + 1, 0, none⟩) k k] 111 (0, 0)) := by rw [hwF]; exact block_set hres 0 _
      have y0 : wF.cell? ⟨w.heap.size, 0, none⟩ = some (.slice (some ⟨w.heap.size + 1, 0, none⟩) k k) := by rw [cell_of_row _ _ _ _ _ _ hFB]; rfl
      have tF : Touch (· = w.heap.size) wr wF := by rw [hwF]; exact Touch.ofSet _ _ _ _ rfl
      have HEND : Hid (I k l wF ∧ l.length = k ∧ wF.ownsRow w.heap.size 120 14 (.slice (some ⟨w.heap.size + 1, 0, none⟩) k k) k (mkpsC l)) := ⟨HK.out _ _ _ _ hI (tF.mono (fun b hb => by rw [hb]; omega)), hl, own_keep hrow (fun b e => tF.block b (World.ownsRow.lt hrow b e).2 (by simp [Value.ownBlock] at e; omega))⟩
      have HWF := hide hwF
      clear hI hres hbox hrow hl hrest hFB tF hwF
      go_wp2
      rw [← HWF.out]
      refine bodyPost_ret (v := .agg #[.slice (some ⟨w.heap.size + 1, 0, none⟩) k k]) (by simp [results, Tryz.results49, go_sem, y0]) rfl ?_
      exact ⟨_, l, rfl, HEND.out⟩
end Go.Proofs.YtnjlbgolnbdkaaaGreat
