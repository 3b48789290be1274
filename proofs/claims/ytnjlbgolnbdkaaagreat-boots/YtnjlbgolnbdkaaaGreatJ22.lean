/- Texts of the proof of Boots, one behind the other. -/
import Derived.Test.YtnjlbgolnbdkaaaGreatJ21
import Derived.Test.YtnjlbgolnbdkaaaGreatJ10
/- The document's kernel in memory. -/
namespace Go.Proofs.YtnjlbgolnbdkaaaGreat
open Go.RowKit

structure RProc where
  next : Int
  acc : Int
  til : Int
  dl : Int
  stopped : Bool
structure RPart where
  mode : Int
  words : List Int
  procs : List RProc
  watch : Int
structure RSt where
  cf : Cf
  parts : List RPart
  queues : List (List Int)
  now : Int
  dead : Bool
def rprocCells (p : RProc) : List Value := [.int .i64 p.next, .int .i64 p.acc, .int .i64 p.til, .int .i64 p.dl, .bool p.stopped]
def RProcsV (base : Nat) (v : Value) (l : List RProc) (w : World) : Prop := w.ownsRow base 200 5 v l.length (l.flatMap rprocCells)
def IntsV (base : Nat) (v : Value) (l : List Int) (w : World) : Prop := w.ownsRow base 3 1 v l.length (l.map (Value.int .i64))
def rpartCells (p : RPart × Value × Value) : List Value := [.int .i64 p.1.mode, p.2.1, p.2.2, .int .i64 p.1.watch]
def RPartsV (base : Nat) (v : Value) (ps : List RPart) (w : World) : Prop := ∃ l : List (RPart × Value × Value), l.map Prod.fst = ps ∧ w.ownsRow base 198 4 v l.length (l.flatMap rpartCells) ∧ ∀ q ∈ l, IntsV base q.2.1 q.1.words w ∧ RProcsV base q.2.2 q.1.procs w
def QueuesV (base : Nat) (v : Value) (qs : List (List Int)) (w : World) : Prop := ∃ l : List (List Int × Value), l.map Prod.fst = qs ∧ w.ownsRow base 40 1 v l.length (l.map Prod.snd) ∧ ∀ q ∈ l, IntsV base q.2 q.1 w
def rkCells (fr wt : Int) (vP vW vC : Value) (g : Nat) (vR vQ : Value) (now : Int) (dead : Bool) : Array Value := #[.int .i64 fr, .int .i64 wt, vP, vW, vC, .pointer (some ⟨g, 0, none⟩), vR, vQ, .int .i64 now, .bool dead]
structure RefK (base kb g : Nat) (st : RSt) (w : World) : Prop where
  lo : base ≤ kb
  ex : ∃ vP vW vC vR vQ, w.heap[kb]? = some (.cells (rkCells st.cf.frame st.cf.watch vP vW vC g vR vQ st.now st.dead) 151 (0, 0)) ∧ ConfV base vP vW vC st.cf w ∧ RPartsV base vR st.parts w ∧ QueuesV base vQ st.queues w
theorem RPartsV.keep {base : Nat} {v : Value} {ps : List RPart} {w w' : World} (h : RPartsV base v ps w) (hs : ∀ b, base ≤ b → b < w.heap.size → w'.heap[b]? = w.heap[b]?) : RPartsV base v ps w' := by
  obtain ⟨l, h1, h2, h3⟩ := h
  exact ⟨l, h1, own_keep h2 (fun b e => hs b (World.ownsRow.lt h2 b e).1 (World.ownsRow.lt h2 b e).2), fun q hq => ⟨own_keep (h3 q hq).1 (fun b e => hs b (World.ownsRow.lt (h3 q hq).1 b e).1 (World.ownsRow.lt (h3 q hq).1 b e).2), own_keep (h3 q hq).2 (fun b e => hs b (World.ownsRow.lt (h3 q hq).2 b e).1 (World.ownsRow.lt (h3 q hq).2 b e).2)⟩⟩
theorem RPartsV.low {base base' : Nat} {v : Value} {ps : List RPart} {w : World} (h : RPartsV base v ps w) (hb : base' ≤ base) : RPartsV base' v ps w := by
  obtain ⟨l, h1, h2, h3⟩ := h
  exact ⟨l, h1, own_low h2 hb, fun q hq => ⟨own_low (h3 q hq).1 hb, own_low (h3 q hq).2 hb⟩⟩
theorem QueuesV.keep {base : Nat} {v : Value} {qs : List (List Int)} {w w' : World} (h : QueuesV base v qs w) (hs : ∀ b, base ≤ b → b < w.heap.size → w'.heap[b]? = w.heap[b]?) : QueuesV base v qs w' := by
  obtain ⟨l, h1, h2, h3⟩ := h
  exact ⟨l, h1, own_keep h2 (fun b e => hs b (World.ownsRow.lt h2 b e).1 (World.ownsRow.lt h2 b e).2), fun q hq => own_keep (h3 q hq) (fun b e => hs b (World.ownsRow.lt (h3 q hq) b e).1 (World.ownsRow.lt (h3 q hq) b e).2)⟩
theorem QueuesV.low {base base' : Nat} {v : Value} {qs : List (List Int)} {w : World} (h : QueuesV base v qs w) (hb : base' ≤ base) : QueuesV base' v qs w := by
  obtain ⟨l, h1, h2, h3⟩ := h
  exact ⟨l, h1, own_low h2 hb, fun q hq => own_low (h3 q hq) hb⟩
theorem RefK.keep {base kb g : Nat} {st : RSt} {w w' : World} (h : RefK base kb g st w) (hs : ∀ b, base ≤ b → b < w.heap.size → w'.heap[b]? = w.heap[b]?) : RefK base kb g st w' := by
  obtain ⟨h0, vP, vW, vC, vR, vQ, h1, h2, h3, h4⟩ := h
  exact ⟨h0, vP, vW, vC, vR, vQ, (hs kb h0 (lt_of_block h1)).trans h1, h2.keep hs, h3.keep hs, h4.keep hs⟩

/- how a kernel starts -/
def modeStep (i : Int) (m : Int) (r : Nat → Int) : Int := if r 1 = i then (if r 4 = 4 then 2 else if r 4 = 6 then 3 else 1) else m
def modeOf (l : List (Nat → Int)) (i : Int) : Int := l.foldl (modeStep i) 1
def proc0 : RProc := ⟨0, 0, 0, -1, false⟩
def part0 (log : List (Nat → Int)) (i : Nat) (p : Pt) : RPart := ⟨modeOf log i, List.replicate p.words.toNat 0, List.replicate p.procs.length proc0, 0⟩
def partsTo (log : List (Nat → Int)) (ps : List Pt) : Nat → List RPart
  | 0 => []
  | k + 1 => partsTo log ps k ++ (match ps[k]? with | some p => [part0 log k p] | none => [])
def bootSt (cf : Cf) (bs : List Int) : RSt := ⟨cf, partsTo (logOf bs) cf.parts cf.parts.length, List.replicate cf.chans.length [], 0, false⟩
theorem Tryz.info198 : (Tryz.prog.info? 198).map (fun i => (i.zero, i.size, i.bytes)) = some (some (.agg #[.int .i64 0, .slice none 0 0, .slice none 0 0, .int .i64 0]), 4, 64) := by kernel_rfl
theorem Tryz.info200 : (Tryz.prog.info? 200).map (fun i => (i.zero, i.size, i.bytes)) = some (some (.agg #[.int .i64 0, .int .i64 0, .int .i64 0, .int .i64 0, .bool false]), 5, 40) := by kernel_rfl
theorem made_ints (n : Nat) : (madeCells #[Value.int .i64 0] n).toList = (List.replicate n (0 : Int)).map (Value.int .i64) := by
  apply List.ext_getElem?
  intro j
  simp [madeCells]
  by_cases h : j < n
  · simp [h, Nat.mod_one]
  · simp [h]
theorem made_slices (n : Nat) : (madeCells #[Value.slice none 0 0] n).toList = List.replicate n (Value.slice none 0 0) := by
  apply List.ext_getElem?
  intro j
  simp [madeCells]
  by_cases h : j < n
  · simp [h, Nat.mod_one]
  · simp [h]
/- words are few -/
theorem part_words (zs : List Int) (r : Rd) : 1 ≤ (rdPart zs r).1.words ∧ (rdPart zs r).1.words ≤ 16 := rdB_val zs 1 16 _ (by omega)
end Go.Proofs.YtnjlbgolnbdkaaaGreat
/- The program's start: modeBehind; small functions. -/
namespace Go.Proofs.YtnjlbgolnbdkaaaGreat
open Go.RowKit

theorem recs_read2 {base : Nat} {v : Value} {l : List (Nat → Int)} {w : World} (h : RecsV base v l w) : ∃ ad c, v = .slice ad l.length c ∧ ∀ i r, l[i]? = some r → ∃ g, ad = some ⟨g, 0, none⟩ ∧ g < w.heap.size ∧ w.cell? ⟨g, i * 5, none⟩ = some (.int .i64 (r 0)) ∧ w.cell? ⟨g, i * 5 + 1, none⟩ = some (.int .i64 (r 1)) ∧ w.cell? ⟨g, i * 5 + 2, none⟩ = some (.int .i64 (r 2)) ∧ w.cell? ⟨g, i * 5 + 3, none⟩ = some (.int .i64 (r 3)) ∧ w.cell? ⟨g, i * 5 + 4, none⟩ = some (.int .i64 (r 4)) := by
  obtain ⟨ad, c, rfl, hrd⟩ := recs_read h
  refine ⟨ad, c, rfl, fun i r hi => ?_⟩
  obtain ⟨g, h0, h1, h2⟩ := hrd i r hi
  exact ⟨g, h0, lt_of_cell h1, h1, h2⟩

set_option maxRecDepth 100000 in
set_option maxHeartbeats 4000000 in
theorem modeBehind_any (base : Nat) (v : Value) (l : List (Nat → Int)) (i : Nat) (w : World) (hl : l.length ≤ 100) (hv : RecsV base v l w) :
    Calls Tryz.prog 52 #[v, .int .i64 i] w fun e w' => e = .returned (.int .i64 (modeOf l i)) ∧ Below w.heap.size w w' := by
  obtain ⟨ad, c, rfl, hrd⟩ := recs_read2 hv
  have HRD := hide hrd
  have HRES : Hid (modeOf l i = l.foldl (modeStep i) 1) := rfl
  generalize hN : l.length = N at *
  have HN := hide hN
  clear hrd hN hv
  go_enter Tryz.func52, Tryz.ntmps52
  go_wp2
  go_loopw [5, 10] (fun n t wr => ∃ (k : Nat), k ≤ N ∧ t = .int .i64 k ∧ n = .int .i64 ((l.take k).foldl (modeStep i) 1) ∧ Below w.heap.size w wr) (fun _ t _ => N - (intOf t).toNat)
  case atStart => exact ⟨0, by omega, rfl, rfl, Below.refl _ _⟩
  case round =>
    obtain ⟨k, hk, rfl, rfl, hB⟩ := hrel
    by_cases hlt : k < N
    · obtain ⟨r, hr'⟩ : ∃ r, l[k]? = some r := ⟨l[k]'(by rw [HN.out]; exact hlt), List.getElem?_eq_getElem _⟩
      obtain ⟨gg2, had, hgl, x0, x1, x2, x3, x4⟩ := HRD.out k r hr'
      subst had
      have y0 := (hB.cell (p := ⟨gg2, k * 5, none⟩) hgl).trans x0
      have y1 := (hB.cell (p := ⟨gg2, k * 5 + 1, none⟩) hgl).trans x1
      have y2 := (hB.cell (p := ⟨gg2, k * 5 + 2, none⟩) hgl).trans x2
      have y3 := (hB.cell (p := ⟨gg2, k * 5 + 3, none⟩) hgl).trans x3
      have y4 := (hB.cell (p := ⟨gg2, k * 5 + 4, none⟩) hgl).trans x4
      have HT : Hid ((l.take (k + 1)).foldl (modeStep i) 1 = modeStep i ((l.take k).foldl (modeStep i) 1) r) := by
        show _ = _
        rw [List.take_add_one, hr', List.foldl_append]
        rfl
      have HRS : Hid (∀ m, modeStep i m r = if r 1 = i then (if r 4 = 4 then 2 else if r 4 = 6 then 3 else 1) else m) := fun n => rfl
      have HEN : Hid (∀ o, Below w.heap.size w (wr.alloc o)) := fun o => hB.alloc hB.size o
      clear hr' x0 x1 x2 x3 x4 hB
      generalize (l.take k).foldl (modeStep i) 1 = nn at HT ⊢
      generalize r 0 = p0 at y0
      generalize r 1 = p1 at y1 HRS
      generalize r 2 = p2 at y2
      generalize r 3 = p3 at y3
      generalize r 4 = p4 at y4 HRS
      by_cases hp1 : p1 = (i : Int)
      · have hb1 : (p1 != (i : Int)) = false := by simp [hp1]
        have hb1' : (p1 == (i : Int)) = true := by simp [hp1]
        have HP1 := hide hp1
        clear hp1
        by_cases h6 : p4 = 6
        · have h6b : (p4 == 6) = true := by simp [h6]
          have H6 := hide h6
          clear h6
          go_wp2
          go_roundw
          case rel => exact ⟨k + 1, by omega, by go_num, by rw [HT.out, HRS.out, if_pos HP1.out, if_neg (by rw [H6.out]; omega), if_pos H6.out], HEN.out _⟩
          case measure => simp [intOf]; omega
        · have h6b : (p4 == 6) = false := by simp [h6]
          have H6 := hide h6
          clear h6
          by_cases h4 : p4 = 4
          · have h4b : (p4 == 4) = true := by simp [h4]
            have H4 := hide h4
            clear h4
            go_wp2
            go_roundw
            case rel => exact ⟨k + 1, by omega, by go_num, by rw [HT.out, HRS.out, if_pos HP1.out, if_pos H4.out], HEN.out _⟩
            case measure => simp [intOf]; omega
          · have h4b : (p4 == 4) = false := by simp [h4]
            have H4 := hide h4
            clear h4
            go_wp2
            go_roundw
            case rel => exact ⟨k + 1, by omega, by go_num, by rw [HT.out, HRS.out, if_pos HP1.out, if_neg H4.out, if_neg H6.out], HEN.out _⟩
            case measure => simp [intOf]; omega
      · have hb1 : (p1 != (i : Int)) = true := by simp [hp1]
        have hb1' : (p1 == (i : Int)) = false := by simp [hp1]
        have HP1 := hide hp1
        clear hp1
        go_wp2
        go_roundw
        case rel => exact ⟨k + 1, by omega, by go_num, by rw [HT.out, HRS.out, if_neg HP1.out], HEN.out _⟩
        case measure => simp [intOf]; omega
    · obtain rfl : k = N := by omega
      have HT : Hid (l.take k = l) := by show _ = _; rw [← HN.out]; exact List.take_length
      have HEND := hide hB
      clear hB
      go_wp2
      go_ret
      exact ⟨ret_int (by rw [HRES.out, HT.out]), HEND.out⟩

set_option maxHeartbeats 1000000 in
theorem isNaN_any (a : Int) (w : World) : Calls Tryz.prog 174 #[.int .i64 a] w fun e w' => e = .returned (.bool false) ∧ w' = w := by
  have h : (a != a) = false := by simp
  go_enter Tryz.func174, Tryz.ntmps174
  go_wp2
  go_ret
  exact ⟨rfl, rfl⟩
set_option maxHeartbeats 1000000 in
theorem compare_any (a b : Int) (w : World) : Calls Tryz.prog 130 #[.int .i64 a, .int .i64 b] w fun e w' => e = .returned (.int .i64 (if a < b then -1 else if b < a then 1 else 0)) ∧ w' = w := by
  have HN := hide isNaN_any
  by_cases h1 : a < b
  · rw [if_pos h1]
    go_enter Tryz.func130, Tryz.ntmps130
    go_wp2_with (go_at_call 174; refine (HN.out _ _).mono ?_; rintro e w' ⟨rfl, rfl⟩)
    go_ret
    exact ⟨rfl, rfl⟩
  · rw [if_neg h1]
    by_cases h2 : b < a
    · rw [if_pos h2]
      go_enter Tryz.func130, Tryz.ntmps130
      go_wp2_with (go_at_call 174; refine (HN.out _ _).mono ?_; rintro e w' ⟨rfl, rfl⟩)
      go_ret
      exact ⟨rfl, rfl⟩
    · rw [if_neg h2]
      go_enter Tryz.func130, Tryz.ntmps130
      go_wp2_with (go_at_call 174; refine (HN.out _ _).mono ?_; rintro e w' ⟨rfl, rfl⟩)
      go_ret
      exact ⟨rfl, rfl⟩
set_option maxHeartbeats 1000000 in
theorem nought_any (a : Int) (w : World) : Calls Tryz.prog 92 #[.int .i64 a] w fun e w' => e = .returned (.int .i64 0) ∧ w' = w := by
  go_enter Tryz.func92, Tryz.ntmps92
  go_wp2
  go_ret
  exact ⟨rfl, rfl⟩
end Go.Proofs.YtnjlbgolnbdkaaaGreat
/- The program's start: the order of processes. -/
namespace Go.Proofs.YtnjlbgolnbdkaaaGreat
open Go.RowKit

/- the processes of a partition, as far as their order is concerned -/
structure Prios (w : World) (pb : Nat) (q n c : Nat) (prio : Nat → Int) : Prop where
  box : w.cell? ⟨pb, 0, none⟩ = some (.slice (some ⟨q, 0, none⟩) n c)
  cell : ∀ k, k < n → w.cell? ⟨q, k * 2, none⟩ = some (.int .i64 (prio k))
theorem Prios.below {w w' : World} {pb q n c : Nat} {prio : Nat → Int} (h : Prios w pb q n c prio) {B : Nat} (hb : Below B w w') (h1 : pb < B) (h2 : q < B) : Prios w' pb q n c prio :=
  ⟨(hb.cell (p := ⟨pb, 0, none⟩) h1).trans h.box, fun k hk => (hb.cell (p := ⟨q, k * 2, none⟩) h2).trans (h.cell k hk)⟩

set_option maxHeartbeats 1000000 in
theorem cmpTurn_any (pb q n c : Nat) (prio : Nat → Int) (a b : Nat) (w : World) (ha : a < n) (hb : b < n) (h : Prios w pb q n c prio) :
    Calls Tryz.prog 129 #[.int .i64 a, .int .i64 b, .pointer (some ⟨pb, 0, none⟩)] w fun e w' => e = .returned (.int .i64 (if prio b < prio a then -1 else if prio a < prio b then 1 else 0)) ∧ ∃ m, w' = w.drewN m := by
  have c0 := h.box
  have c1 := h.cell a ha
  have c2 := h.cell b hb
  clear h
  generalize prio a = pa at *
  generalize prio b = pb' at *
  go_enter Tryz.func129, Tryz.ntmps129
  go_wp2_with fail
  go_quiet ((go_at_call 130; exact Calls.quiet_of_same (compare_any _ _ _)))
  go_wp2
  all_goals
    go_ret
    exact ⟨rfl, _, rfl⟩

set_option maxRecDepth 100000 in
set_option maxHeartbeats 2000000 in
theorem insert1_any (x pb : Nat) (w : World) :
    Calls Tryz.prog 200 #[.slice (some ⟨x, 0, none⟩) 1 1, .int .i64 0, .int .i64 1, .func (.func 129) #[] #[.pointer (some ⟨pb, 0, none⟩)]] w fun e w' => (∃ v, e = .returned v) ∧ w' = w := by
  go_enter Tryz.func200, Tryz.ntmps200
  go_wp2
  go_loopw [8] (fun i wr => i = .int .i64 1 ∧ w = wr) (fun _ _ => 0)
  case atStart => exact ⟨rfl, rfl⟩
  case round =>
    obtain ⟨rfl, rfl⟩ := hrel
    go_wp2
    go_end0
    exact ⟨⟨_, rfl⟩, rfl⟩

def turned (prio : Nat → Int) : Bool := decide (prio 0 < prio 1)
def turn2 (b : Bool) : Array Value := if b then #[.int .i64 1, .int .i64 0] else #[.int .i64 0, .int .i64 1]
set_option maxRecDepth 100000 in
set_option maxHeartbeats 4000000 in
theorem insert2_any (x pb q c : Nat) (prio : Nat → Int) (w : World) (h : Prios w pb q 2 c prio) (hx : w.heap[x]? = some (.cells #[.int .i64 0, .int .i64 1] 3 (0, 0))) :
    Calls Tryz.prog 200 #[.slice (some ⟨x, 0, none⟩) 2 2, .int .i64 0, .int .i64 2, .func (.func 129) #[] #[.pointer (some ⟨pb, 0, none⟩)]] w fun e w' => (∃ v, e = .returned v) ∧ w'.heap[x]? = some (.cells (turn2 (turned prio)) 3 (0, 0)) ∧ Touch (· = x) w w' := by
  have HX := hide hx
  have HC : Hid (∀ W, Prios W pb q 2 c prio → Calls Tryz.prog 129 #[.int .i64 1, .int .i64 0, .pointer (some ⟨pb, 0, none⟩)] W fun e w' => e = .returned (.int .i64 (if prio 0 < prio 1 then -1 else if prio 1 < prio 0 then 1 else 0)) ∧ ∃ m, w' = W.drewN m) := fun W hW => cmpTurn_any pb q 2 c prio 1 0 W (by omega) (by omega) hW
  have HP := hide h
  clear h hx
  go_enter Tryz.func200, Tryz.ntmps200
  go_wp2
  go_loopw [8] (fun i wr => (i = .int .i64 1 ∧ w = wr) ∨ (i = .int .i64 2 ∧ wr.heap[x]? = some (.cells (turn2 (turned prio)) 3 (0, 0)) ∧ Touch (· = x) w wr)) (fun i _ => 2 - (intOf i).toNat)
  case atStart => exact .inl ⟨rfl, rfl⟩
  case round =>
    rcases hrel with ⟨rfl, rfl⟩ | ⟨rfl, hf, ht⟩
    · have x0 : w.cell? ⟨x, 0, none⟩ = some (.int .i64 0) := by rw [cell_of_row _ _ _ _ _ _ HX.out]; rfl
      have x1 : w.cell? ⟨x, 1, none⟩ = some (.int .i64 1) := by rw [cell_of_row _ _ _ _ _ _ HX.out]; rfl
      have f0 := free_of_block HX.out 0
      have f1 := free_of_block HX.out 1
      go_wp2
      go_loopw [9] (fun j wj => (j = .int .i64 1 ∧ w = wj) ∨ (j = .int .i64 0 ∧ turned prio = true ∧ wj.heap[x]? = some (.cells (turn2 (turned prio)) 3 (0, 0)) ∧ Touch (· = x) w wj)) (fun j _ => (intOf j).toNat)
      case atStart => exact .inl ⟨rfl, rfl⟩
      case round =>
        rcases hrel with ⟨rfl, rfl⟩ | ⟨rfl, hb, hf, ht⟩
        · have HCC : Hid (∀ n, Calls Tryz.prog 129 #[.int .i64 1, .int .i64 0, .pointer (some ⟨pb, 0, none⟩)] (w.drewN n) fun e w' => e = .returned (.int .i64 (if prio 0 < prio 1 then -1 else if prio 1 < prio 0 then 1 else 0)) ∧ ∃ m, w' = (w.drewN n).drewN m) := fun n => HC.out _ ⟨HP.out.box, HP.out.cell⟩
          by_cases hlt : prio 0 < prio 1
          · rw [if_pos hlt] at HCC
            have HB : Hid (turned prio = true) := decide_eq_true hlt
            clear hlt
            go_wp2_with fail
            go_quiet ((go_at_call 129; exact Calls.quiet_of (HCC.out _)))
            go_wp2_with fail
            go_region
            all_goals
              go_wp2
              refine ⟨.inr ⟨rfl, HB.out, ?_, ?_⟩, by simp [intOf]⟩
              · rw [HB.out]
                first | exact block_set (block_set (show (w.drewN _).heap[x]? = _ from HX.out) 1 _) 0 _ | exact block_set (block_set (show (w.drewN _).heap[x]? = _ from HX.out) 0 _) 1 _
              · exact Touch.trans (T := (· = x)) (Touch.trans (T := (· = x)) (Touch.ofBelow (S := (· = x)) (below_drewN (Below.refl _ _) _)) (Touch.ofSet _ _ _ _ rfl) (fun _ h => .inl h)) (Touch.ofSet _ _ _ _ rfl) (fun _ h => .inl h)
          · rw [if_neg hlt] at HCC
            have HB : Hid (turned prio = false) := decide_eq_false hlt
            clear hlt
            have hge : ¬ (if prio 1 < prio 0 then (1 : Int) else 0) < 0 := by split <;> omega
            generalize (if prio 1 < prio 0 then (1 : Int) else 0) = cc at HCC hge
            go_wp2_with fail
            go_quiet ((go_at_call 129; exact Calls.quiet_of (HCC.out _)))
            go_wp2
            refine ⟨.inr ⟨rfl, ?_, Touch.ofBelow (below_drewN (Below.refl _ _) _)⟩, by simp [intOf]⟩
            rw [HB.out]
            exact HX.out
        · have HF := hide hf
          have HT := hide ht
          clear hf ht
          go_wp2_with fail
          go_quiet (fail)
          go_wp2
          exact ⟨.inr ⟨rfl, HF.out, ⟨HT.out.os, HT.out.tape, HT.out.output, HT.out.size, HT.out.block⟩⟩, by simp [intOf]⟩
    · have HF := hide hf
      have HT := hide ht
      clear hf ht
      go_wp2
      go_end0
      exact ⟨⟨_, rfl⟩, HF.out, HT.out⟩
/- the stable sort of one place, of two -/
set_option maxRecDepth 100000 in
set_option maxHeartbeats 4000000 in
theorem sort1_any (x pb : Nat) (w : World) :
    Calls Tryz.prog 128 #[.slice (some ⟨x, 0, none⟩) 1 1, .func (.func 129) #[] #[.pointer (some ⟨pb, 0, none⟩)]] w fun e w' => (∃ v, e = .returned v) ∧ w' = w := by
  have HI := hide (insert1_any x pb w)
  have HS : Hid (Calls Tryz.prog 173 #[.slice (some ⟨x, 0, none⟩) 1 1, .int .i64 1, .func (.func 129) #[] #[.pointer (some ⟨pb, 0, none⟩)]] w fun e w' => (∃ v, e = .returned v) ∧ w' = w) := by
    show Calls _ _ _ _ _
    go_enter Tryz.func173, Tryz.ntmps173
    go_wp2
    go_loopw [7, 8] (fun a b wr => a = .int .i64 0 ∧ b = .int .i64 20 ∧ w = wr) (fun _ _ _ => 0)
    case atStart => exact ⟨rfl, rfl, rfl⟩
    case round =>
      obtain ⟨rfl, rfl, rfl⟩ := hrel
      go_wp2_with fail
      refine HI.out.mono ?_
      rintro e w1 ⟨⟨v, rfl⟩, hq⟩
      have HQ := hide hq
      clear hq
      go_wp2
      go_loopw [6] (fun b wr => b = .int .i64 20 ∧ w1 = wr) (fun _ _ => 0)
      case atStart => exact ⟨rfl, rfl⟩
      case round =>
        obtain ⟨rfl, rfl⟩ := hrel
        go_wp2
        go_end0
        exact ⟨⟨_, rfl⟩, HQ.out⟩
  go_enter Tryz.func128, Tryz.ntmps128
  go_wp2_with fail
  refine HS.out.mono ?_
  rintro e w1 ⟨⟨v, rfl⟩, hq⟩
  have HQ := hide hq
  clear hq
  go_wp2
  go_end0
  exact ⟨⟨_, rfl⟩, HQ.out⟩
set_option maxRecDepth 100000 in
set_option maxHeartbeats 4000000 in
theorem sort2_any (x pb q c : Nat) (prio : Nat → Int) (w : World) (h : Prios w pb q 2 c prio) (hx : w.heap[x]? = some (.cells #[.int .i64 0, .int .i64 1] 3 (0, 0))) :
    Calls Tryz.prog 128 #[.slice (some ⟨x, 0, none⟩) 2 2, .func (.func 129) #[] #[.pointer (some ⟨pb, 0, none⟩)]] w fun e w' => (∃ v, e = .returned v) ∧ w'.heap[x]? = some (.cells (turn2 (turned prio)) 3 (0, 0)) ∧ Touch (· = x) w w' := by
  have HI := hide (insert2_any x pb q c prio w h hx)
  have HS : Hid (Calls Tryz.prog 173 #[.slice (some ⟨x, 0, none⟩) 2 2, .int .i64 2, .func (.func 129) #[] #[.pointer (some ⟨pb, 0, none⟩)]] w fun e w' => (∃ v, e = .returned v) ∧ w'.heap[x]? = some (.cells (turn2 (turned prio)) 3 (0, 0)) ∧ Touch (· = x) w w') := by
    show Calls _ _ _ _ _
    go_enter Tryz.func173, Tryz.ntmps173
    go_wp2
    go_loopw [7, 8] (fun a b wr => a = .int .i64 0 ∧ b = .int .i64 20 ∧ w = wr) (fun _ _ _ => 0)
    case atStart => exact ⟨rfl, rfl, rfl⟩
    case round =>
      obtain ⟨rfl, rfl, rfl⟩ := hrel
      go_wp2_with fail
      refine HI.out.mono ?_
      rintro e w1 ⟨⟨v, rfl⟩, hq⟩
      have HQ := hide hq
      clear hq
      go_wp2
      go_loopw [6] (fun b wr => b = .int .i64 20 ∧ w1 = wr) (fun _ _ => 0)
      case atStart => exact ⟨rfl, rfl⟩
      case round =>
        obtain ⟨rfl, rfl⟩ := hrel
        go_wp2
        go_end0
        exact ⟨⟨_, rfl⟩, HQ.out⟩
  go_enter Tryz.func128, Tryz.ntmps128
  go_wp2_with fail
  refine HS.out.mono ?_
  rintro e w1 ⟨⟨v, rfl⟩, hq⟩
  have HQ := hide hq
  clear hq
  go_wp2
  go_end0
  exact ⟨⟨_, rfl⟩, HQ.out⟩
end Go.Proofs.YtnjlbgolnbdkaaaGreat
