/- Texts of the proof of Boots, one behind the other. -/
import Derived.Test.YtnjlbgolnbdkaaaGreatJ25
import Derived.Deep.AppendLies
/- The program's machine in memory. -/
namespace Go.Proofs.YtnjlbgolnbdkaaaGreat
open Go.RowKit

instance : Inhabited Pt := ⟨⟨false, 0, 0, [], []⟩⟩
instance : Inhabited Pr := ⟨⟨0, []⟩⟩
instance : Inhabited Ch := ⟨⟨0, 0, 0⟩⟩
instance : Inhabited RProc := ⟨proc0⟩
instance : Inhabited RPart := ⟨⟨0, [], [], 0⟩⟩

/- rows of cells, one behind the other -/
def rowsL (n : Nat) (f : Nat → List Value) : List Value := (List.range n).flatMap f
theorem rowsL_succ (n : Nat) (f : Nat → List Value) : rowsL (n + 1) f = rowsL n f ++ f n := by
  unfold rowsL
  rw [List.range_succ, List.flatMap_append]
  simp
theorem rowsL_length (n sz : Nat) (f : Nat → List Value) (hf : ∀ i, i < n → (f i).length = sz) : (rowsL n f).length = n * sz := by
  induction n with
  | zero => simp [rowsL]
  | succ n ih => rw [rowsL_succ, List.length_append, ih (fun i hi => hf i (by omega)), hf n (by omega), Nat.add_mul]; omega
theorem rowsL_get (n sz : Nat) (f : Nat → List Value) (hf : ∀ i, i < n → (f i).length = sz) (i k : Nat) (hi : i < n) (hk : k < sz) : (rowsL n f)[i * sz + k]? = (f i)[k]? := by
  induction n with
  | zero => omega
  | succ n ih =>
    have hl := rowsL_length n sz f (fun i hi => hf i (by omega))
    rw [rowsL_succ]
    by_cases h : i < n
    · have h1 : (i + 1) * sz ≤ n * sz := Nat.mul_le_mul_right sz h
      rw [Nat.add_mul] at h1
      rw [List.getElem?_append_left (by omega)]
      exact ih (fun i hi => hf i (by omega)) h
    · obtain rfl : i = n := by omega
      rw [List.getElem?_append_right (by omega), hl, show i * sz + k - i * sz = k from by omega]
theorem rowsL_congr (n : Nat) (f g : Nat → List Value) (h : ∀ i, i < n → f i = g i) : rowsL n f = rowsL n g := by
  induction n with
  | zero => rfl
  | succ n ih => rw [rowsL_succ, rowsL_succ, ih (fun i hi => h i (by omega)), h n (by omega)]
theorem rowsL_set (n sz : Nat) (f : Nat → List Value) (hf : ∀ i, i < n → (f i).length = sz) (i k : Nat) (v : Value) (hi : i < n) (hk : k < sz) : (rowsL n f).set (i * sz + k) v = rowsL n (fun j => if j = i then (f i).set k v else f j) := by
  have hg : ∀ j, j < n → (if j = i then (f i).set k v else f j).length = sz := fun j hj => by
    split
    · rw [List.length_set]; exact hf i hi
    · exact hf j hj
  apply List.ext_getElem?
  intro a
  by_cases ha : a < n * sz
  · have hsz : 0 < sz := by omega
    have e : a = a / sz * sz + a % sz := by have := Nat.div_add_mod a sz; rw [Nat.mul_comm] at this; omega
    have h1 : a / sz < n := Nat.div_lt_of_lt_mul (by rw [Nat.mul_comm]; exact ha)
    have h2 : a % sz < sz := Nat.mod_lt _ hsz
    generalize a / sz = p at e h1
    generalize a % sz = q at e h2
    subst e
    rw [rowsL_get n sz _ hg p q h1 h2]
    by_cases hp : p = i
    · subst hp
      rw [if_pos rfl]
      by_cases hq : q = k
      · subst hq
        rw [List.getElem?_set_self (by rw [rowsL_length n sz f hf]; exact ha), List.getElem?_set_self (by rw [hf p hi]; exact hk)]
      · rw [List.getElem?_set_ne (by omega), List.getElem?_set_ne (by omega), rowsL_get n sz f hf p q h1 h2]
    · rw [if_neg hp, List.getElem?_set_ne, rowsL_get n sz f hf p q h1 h2]
      intro he
      rcases Nat.lt_or_ge p i with hlt | hge
      · have : (p + 1) * sz ≤ i * sz := Nat.mul_le_mul_right sz hlt
        rw [Nat.add_mul] at this; omega
      · have : (i + 1) * sz ≤ p * sz := Nat.mul_le_mul_right sz (by omega)
        rw [Nat.add_mul] at this; omega
  · rw [List.getElem?_eq_none (by rw [List.length_set, rowsL_length n sz f hf]; omega), List.getElem?_eq_none (by rw [rowsL_length n sz _ hg]; omega)]

/- where the machine's lists lie -/
structure MLay where
  mb : Nat
  pb : Nat
  wb : Nat
  cb : Nat
  wd : Nat → Nat
  pr : Nat → Nat
  tn : Nat → Nat
  code : Nat → Nat → Value
  ch : Nat → Nat
def prioOf (p : Pt) (k : Nat) : Int := (p.procs.getD k default).prio
def mpartC (a b d : Nat) (i : Nat) (c : Pt) (p : RPart) : List Value :=
  [.int .i64 i, .bool c.sys, .int .i64 c.limit, .int .i64 (c.acts.getD 0 0), .int .i64 (c.acts.getD 1 0), .int .i64 (c.acts.getD 2 0), .int .i64 (c.acts.getD 3 0), .int .i64 (c.acts.getD 4 0), .int .i64 (c.acts.getD 5 0), .int .i64 p.mode,
    .slice (some ⟨a, 0, none⟩) p.words.length p.words.length, .slice (some ⟨b, 0, none⟩) p.procs.length p.procs.length, .slice (some ⟨d, 0, none⟩) p.procs.length p.procs.length, .int .i64 p.watch]
abbrev mpartCells (L : MLay) (i : Nat) (c : Pt) (p : RPart) : List Value := mpartC (L.wd i) (L.pr i) (L.tn i) i c p
def mchanCells (L : MLay) (j : Nat) (c : Ch) : List Value := [.int .i64 c.src, .int .i64 c.dst, .chan (some (L.ch j))]
def mwinCells (x : Wn) : List Value := [.int .i64 x.part, .int .i64 x.first, .int .i64 x.many]
def machObj (L : MLay) (g : Nat) (st : RSt) : Obj := .cells #[.pointer (some ⟨g, 0, none⟩), .int .i64 st.cf.frame, .int .i64 st.cf.watch, .slice (some ⟨L.pb, 0, none⟩) st.parts.length st.parts.length, .slice (some ⟨L.wb, 0, none⟩) st.cf.wins.length st.cf.wins.length, .slice (some ⟨L.cb, 0, none⟩) st.cf.chans.length st.cf.chans.length, .int .i64 st.now, .bool st.dead] 145 (0, 0)
structure MachAt (w : World) (L : MLay) (g : Nat) (st : RSt) : Prop where
  mach : w.heap[L.mb]? = some (machObj L g st)
  parts : w.heap[L.pb]? = some (.cells (rowsL st.parts.length fun i => mpartCells L i (st.cf.parts.getD i default) (st.parts.getD i default)).toArray 120 (0, 0))
  words : ∀ i, i < st.parts.length → w.heap[L.wd i]? = some (.cells ((st.parts.getD i default).words.map (Value.int .i64)).toArray 3 (0, 0))
  procs : ∀ i, i < st.parts.length → w.heap[L.pr i]? = some (.cells (rowsL (st.parts.getD i default).procs.length fun k => mprocCells (L.code i k) ((st.parts.getD i default).procs.getD k default)).toArray 166 (0, 0))
  turns : ∀ i, i < st.parts.length → w.heap[L.tn i]? = some (.cells ((turnI (st.parts.getD i default).procs.length (prioOf (st.cf.parts.getD i default))).map (Value.int .i64)).toArray 3 (0, 0))
  wins : w.heap[L.wb]? = some (.cells (st.cf.wins.flatMap mwinCells).toArray 131 (0, 0))
  chans : w.heap[L.cb]? = some (.cells (rowsL st.cf.chans.length fun j => mchanCells L j (st.cf.chans.getD j default)).toArray 139 (0, 0))
  queue : ∀ j, j < st.cf.chans.length → ∃ s r, w.heap[L.ch j]? = some (.chan (st.cf.chans.getD j default).depth.toNat ((st.queues.getD j []).map (Value.int .i64)).toArray false s r false)
  code : ∀ i k, i < st.parts.length → k < (st.parts.getD i default).procs.length → CodeV 0 (L.code i k) ((st.cf.parts.getD i default).procs.getD k default).code w
theorem MachAt.keep {w w' : World} {L : MLay} {g : Nat} {st : RSt} (h : MachAt w L g st) (hk : ∀ (b : Nat) (o : Obj), w.heap[b]? = some o → w'.heap[b]? = some o) : MachAt w' L g st := by
  refine ⟨hk _ _ h.mach, hk _ _ h.parts, fun i hi => hk _ _ (h.words i hi), fun i hi => hk _ _ (h.procs i hi), fun i hi => hk _ _ (h.turns i hi), hk _ _ h.wins, hk _ _ h.chans, fun j hj => ?_, fun i k hi hj => ?_⟩
  · obtain ⟨s, r, hc⟩ := h.queue j hj
    exact ⟨s, r, hk _ _ hc⟩
  · refine own_keep (h.code i k hi hj) (fun b e => ?_)
    obtain ⟨cur, hc⟩ := own_of (h.code i k hi hj) e
    rw [hc]
    exact hk _ _ hc
/- no two of them are one -/
structure LayOk (L : MLay) (n m : Nat) : Prop where
  wdwd : ∀ i j, i < n → j < n → L.wd i = L.wd j → i = j
  prpr : ∀ i j, i < n → j < n → L.pr i = L.pr j → i = j
  wdtn : ∀ i j, i < n → j < n → L.wd i ≠ L.tn j
  chch : ∀ i j, i < m → j < m → L.ch i = L.ch j → i = j
/- what a state is like -/
structure StOk (st : RSt) : Prop where
  good : CfGood st.cf
  len : st.parts.length = st.cf.parts.length
  part : ∀ i, i < st.parts.length → (st.parts.getD i default).words.length = (st.cf.parts.getD i default).words.toNat ∧ (st.parts.getD i default).procs.length = (st.cf.parts.getD i default).procs.length
  qlen : st.queues.length = st.cf.chans.length
end Go.Proofs.YtnjlbgolnbdkaaaGreat
/- The program's machine: small functions. -/
namespace Go.Proofs.YtnjlbgolnbdkaaaGreat
open Go.RowKit

set_option maxHeartbeats 1000000 in
theorem partAt_any (x n i : Nat) (w : World) (hi : i < n) :
    Calls Tryz.prog 73 #[.agg #[.slice (some ⟨x, 0, none⟩) n n], .int .i64 i] w fun e w' => e = .returned (.pointer (some ⟨x, i * 14, none⟩)) ∧ Below w.heap.size w w' := by
  have HB : Hid (Below w.heap.size w (w.alloc (.cells #[.slice (some ⟨x, 0, none⟩) n n] 111))) := (Below.refl _ _).alloc (Nat.le_refl _) _
  go_enter Tryz.func73, Tryz.ntmps73
  go_wp2
  go_ret
  exact ⟨by simp, HB.out⟩
set_option maxHeartbeats 1000000 in
theorem partHas_any (x n : Nat) (i : Int) (w : World) :
    Calls Tryz.prog 72 #[.agg #[.slice (some ⟨x, 0, none⟩) n n], .int .i64 i] w fun e w' => e = .returned (.bool (decide (0 ≤ i) && decide (i < n))) ∧ Below w.heap.size w w' := by
  have HB : Hid (Below w.heap.size w (w.alloc (.cells #[.slice (some ⟨x, 0, none⟩) n n] 111))) := (Below.refl _ _).alloc (Nat.le_refl _) _
  by_cases h : 0 ≤ i
  · go_enter Tryz.func72, Tryz.ntmps72
    go_wp2
    go_ret
    exact ⟨by simp [h], HB.out⟩
  · go_enter Tryz.func72, Tryz.ntmps72
    go_wp2
    go_ret
    exact ⟨by rw [decide_eq_false (show ¬ 0 ≤ i by omega)]; rfl, HB.out⟩
set_option maxHeartbeats 1000000 in
theorem procAt_any (x n i : Nat) (w : World) (hi : i < n) :
    Calls Tryz.prog 79 #[.agg #[.slice (some ⟨x, 0, none⟩) n n], .int .i64 i] w fun e w' => e = .returned (.pointer (some ⟨x, i * 6, none⟩)) ∧ Below w.heap.size w w' := by
  have HB : Hid (Below w.heap.size w (w.alloc (.cells #[.slice (some ⟨x, 0, none⟩) n n] 118))) := (Below.refl _ _).alloc (Nat.le_refl _) _
  go_enter Tryz.func79, Tryz.ntmps79
  go_wp2
  go_ret
  exact ⟨by simp, HB.out⟩
set_option maxHeartbeats 1000000 in
theorem procHas_any (x n : Nat) (i : Int) (w : World) :
    Calls Tryz.prog 76 #[.agg #[.slice (some ⟨x, 0, none⟩) n n], .int .i64 i] w fun e w' => e = .returned (.bool (decide (0 ≤ i) && decide (i < n))) ∧ Below w.heap.size w w' := by
  have HB : Hid (Below w.heap.size w (w.alloc (.cells #[.slice (some ⟨x, 0, none⟩) n n] 118))) := (Below.refl _ _).alloc (Nat.le_refl _) _
  by_cases h : 0 ≤ i
  · go_enter Tryz.func76, Tryz.ntmps76
    go_wp2
    go_ret
    exact ⟨by simp [h], HB.out⟩
  · go_enter Tryz.func76, Tryz.ntmps76
    go_wp2
    go_ret
    exact ⟨by rw [decide_eq_false (show ¬ 0 ≤ i by omega)]; rfl, HB.out⟩
set_option maxHeartbeats 1000000 in
theorem procLen_any (x n : Nat) (w : World) :
    Calls Tryz.prog 109 #[.agg #[.slice (some ⟨x, 0, none⟩) n n]] w fun e w' => e = .returned (.int .i64 n) ∧ Below w.heap.size w w' := by
  have HB : Hid (Below w.heap.size w (w.alloc (.cells #[.slice (some ⟨x, 0, none⟩) n n] 118))) := (Below.refl _ _).alloc (Nat.le_refl _) _
  go_enter Tryz.func109, Tryz.ntmps109
  go_wp2
  go_ret
  exact ⟨by simp, HB.out⟩

/- copies -/
set_option maxRecDepth 100000 in
set_option maxHeartbeats 2000000 in
theorem cloneInts_any (x n : Nat) (vs : List Value) (w : World) (hn : vs.length = n * 1) (hone : ∀ u ∈ vs, u.oneCell' = true) (h1 : 1 ≤ n) (h2 : n ≤ 16) (hx : w.heap[x]? = some (.cells vs.toArray 3 (0, 0))) :
    Calls Tryz.prog 150 #[.slice (some ⟨x, 0, none⟩) n n] w fun e w' => ∃ y cap, e = .returned (.slice (some ⟨y, 0, none⟩) n cap) ∧ w'.ownsRow w.heap.size 3 1 (.slice (some ⟨y, 0, none⟩) n cap) n vs ∧ Below w.heap.size w w' := by
  obtain ⟨i0, hi, hz0, hz1, hz2⟩ := info_parts Tryz.info3
  have he : ∀ W : World, (binOp .eql 40 (.slice (some ⟨x, 0, none⟩) n n) (.slice none 0 0)).run Tryz.prog W = .ok (.bool false) W := fun _ => by rfl
  have HX := hide hx
  have HN := hide hn
  have HO : Hid ((w.alloc (.cells #[] 3)).ownsRow w.heap.size 3 1 (.slice (some ⟨w.heap.size, 0, none⟩) 0 0) 0 []) := ⟨rfl, .inr ⟨w.heap.size, 0, #[], rfl, Nat.le_refl _, heap_alloc_new w _, Nat.le_refl _, by decide, rfl, rfl⟩⟩
  have hlx := lt_of_heap hx
  clear hx hn
  go_enter Tryz.func150, Tryz.ntmps150
  go_wp2_with (at_builtin; go_must (refine wpList_append_lies _ rfl (.tmp 5) (.tmp 6) 40 rfl w.heap.size 3 i0 (.int .i64 0) 1 8 Tryz.underlying40 hi hz0 hz1 hz2 rfl (by decide) (.slice (some ⟨w.heap.size, 0, none⟩) 0 0) 0 [] rfl HO.out ⟨x, 0, none⟩ n n vs (by rfl) HN.out (fun j u hu => ?_) hone (by omega) (by unfold maxLen; omega) (by omega) (by simp) _ rfl ?_))
  · rw [Addr.add_mid, Nat.zero_add, cell_same (Below.heap_alloc w _ x hlx) j, cell_of_row _ _ _ _ _ _ HX.out]
    simpa using hu
  · intro y cap w1 hown1 hgrow _ _
    have H1 : Hid (w1.ownsRow w.heap.size 3 1 (.slice (some ⟨y, 0, none⟩) n cap) n vs) := (by simpa using hown1 : w1.ownsRow w.heap.size 3 1 (.slice (some ⟨y, 0, none⟩) n cap) n vs)
    have H2 : Hid (Below w.heap.size w w1) := (Below.refl _ _).grown (grown_alloc hgrow) (Nat.le_refl _) (by simp [Value.ownBlock])
    clear hown1 hgrow
    go_wp2
    go_ret
    exact ⟨y, cap, by simp, H1.out, H2.out⟩
set_option maxRecDepth 100000 in
set_option maxHeartbeats 2000000 in
theorem cloneStates_any (x n : Nat) (vs : List Value) (w : World) (hn : vs.length = n * 3) (hone : ∀ u ∈ vs, u.oneCell' = true) (h1 : 1 ≤ n) (h2 : n ≤ 16) (hx : w.heap[x]? = some (.cells vs.toArray 47 (0, 0))) :
    Calls Tryz.prog 151 #[.slice (some ⟨x, 0, none⟩) n n] w fun e w' => ∃ y cap, e = .returned (.slice (some ⟨y, 0, none⟩) n cap) ∧ w'.ownsRow w.heap.size 47 3 (.slice (some ⟨y, 0, none⟩) n cap) n vs ∧ Below w.heap.size w w' := by
  obtain ⟨i0, hi, hz0, hz1, hz2⟩ := info_parts Tryz.info47
  have he : ∀ W : World, (binOp .eql 41 (.slice (some ⟨x, 0, none⟩) n n) (.slice none 0 0)).run Tryz.prog W = .ok (.bool false) W := fun _ => by rfl
  have HX := hide hx
  have HN := hide hn
  have HO : Hid ((w.alloc (.cells #[] 47)).ownsRow w.heap.size 47 3 (.slice (some ⟨w.heap.size, 0, none⟩) 0 0) 0 []) := ⟨rfl, .inr ⟨w.heap.size, 0, #[], rfl, Nat.le_refl _, heap_alloc_new w _, Nat.le_refl _, by decide, rfl, rfl⟩⟩
  have hlx := lt_of_heap hx
  clear hx hn
  go_enter Tryz.func151, Tryz.ntmps151
  go_wp2_with (at_builtin; go_must (refine wpList_append_lies _ rfl (.tmp 5) (.tmp 6) 41 rfl w.heap.size 47 i0 _ 3 24 Tryz.underlying41 hi hz0 hz1 hz2 rfl (by decide) (.slice (some ⟨w.heap.size, 0, none⟩) 0 0) 0 [] rfl HO.out ⟨x, 0, none⟩ n n vs (by rfl) HN.out (fun j u hu => ?_) hone (by omega) (by unfold maxLen; omega) (by omega) (by simp) _ rfl ?_))
  · rw [Addr.add_mid, Nat.zero_add, cell_same (Below.heap_alloc w _ x hlx) j, cell_of_row _ _ _ _ _ _ HX.out]
    simpa using hu
  · intro y cap w1 hown1 hgrow _ _
    have H1 : Hid (w1.ownsRow w.heap.size 47 3 (.slice (some ⟨y, 0, none⟩) n cap) n vs) := (by simpa using hown1 : w1.ownsRow w.heap.size 47 3 (.slice (some ⟨y, 0, none⟩) n cap) n vs)
    have H2 : Hid (Below w.heap.size w w1) := (Below.refl _ _).grown (grown_alloc hgrow) (Nat.le_refl _) (by simp [Value.ownBlock])
    clear hown1 hgrow
    go_wp2
    go_ret
    exact ⟨y, cap, by simp, H1.out, H2.out⟩
set_option maxHeartbeats 1000000 in
theorem copyInts_any (x n : Nat) (vs : List Value) (w : World) (hn : vs.length = n * 1) (hone : ∀ u ∈ vs, u.oneCell' = true) (h1 : 1 ≤ n) (h2 : n ≤ 16) (hx : w.heap[x]? = some (.cells vs.toArray 3 (0, 0))) :
    Calls Tryz.prog 111 #[.agg #[.slice (some ⟨x, 0, none⟩) n n]] w fun e w' => ∃ y cap, e = .returned (.slice (some ⟨y, 0, none⟩) n cap) ∧ w'.ownsRow w.heap.size 3 1 (.slice (some ⟨y, 0, none⟩) n cap) n vs ∧ Below w.heap.size w w' := by
  have hb : Below w.heap.size w (w.alloc (.cells #[.slice (some ⟨x, 0, none⟩) n n] 115)) := (Below.refl _ _).alloc (Nat.le_refl _) _
  have HC := hide (cloneInts_any x n vs _ hn hone h1 h2 (keepB hb hx))
  have HB := hide hb
  clear hx hb hone
  go_enter Tryz.func111, Tryz.ntmps111
  go_wp2_with fail
  refine HC.out.mono ?_
  rintro e w1 ⟨y, cap, rfl, ho, hb1⟩
  have HE : Hid (w1.ownsRow w.heap.size 3 1 (.slice (some ⟨y, 0, none⟩) n cap) n vs ∧ Below w.heap.size w w1) := ⟨own_low ho (by simp), HB.out.trans (hb1.mono (by simp))⟩
  clear ho hb1 HC
  go_wp2
  go_ret
  exact ⟨y, cap, rfl, HE.out⟩
set_option maxHeartbeats 1000000 in
theorem copyStates_any (x n : Nat) (vs : List Value) (w : World) (hn : vs.length = n * 3) (hone : ∀ u ∈ vs, u.oneCell' = true) (h1 : 1 ≤ n) (h2 : n ≤ 16) (hx : w.heap[x]? = some (.cells vs.toArray 47 (0, 0))) :
    Calls Tryz.prog 112 #[.agg #[.slice (some ⟨x, 0, none⟩) n n]] w fun e w' => ∃ y cap, e = .returned (.slice (some ⟨y, 0, none⟩) n cap) ∧ w'.ownsRow w.heap.size 47 3 (.slice (some ⟨y, 0, none⟩) n cap) n vs ∧ Below w.heap.size w w' := by
  have hb : Below w.heap.size w (w.alloc (.cells #[.slice (some ⟨x, 0, none⟩) n n] 213)) := (Below.refl _ _).alloc (Nat.le_refl _) _
  have HC := hide (cloneStates_any x n vs _ hn hone h1 h2 (keepB hb hx))
  have HB := hide hb
  clear hx hb hone
  go_enter Tryz.func112, Tryz.ntmps112
  go_wp2_with fail
  refine HC.out.mono ?_
  rintro e w1 ⟨y, cap, rfl, ho, hb1⟩
  have HE : Hid (w1.ownsRow w.heap.size 47 3 (.slice (some ⟨y, 0, none⟩) n cap) n vs ∧ Below w.heap.size w w1) := ⟨own_low ho (by simp), HB.out.trans (hb1.mono (by simp))⟩
  clear ho hb1 HC
  go_wp2
  go_ret
  exact ⟨y, cap, rfl, HE.out⟩
end Go.Proofs.YtnjlbgolnbdkaaaGreat
/- The program's machine: what is told of a partition. -/
namespace Go.Proofs.YtnjlbgolnbdkaaaGreat
open Go.RowKit

theorem getD_at {α : Type} (l : List α) (d : α) (i : Nat) (h : i < l.length) : l.getD i d = l[i] := by rw [List.getD_eq_getElem?_getD, List.getElem?_eq_getElem h]; rfl
section
variable {w w' : World} {L : MLay} {g : Nat} {st : RSt}
theorem MachAt.cellP (h : MachAt w L g st) (i k : Nat) (hi : i < st.parts.length) (hk : k < 14) : w.cell? ⟨L.pb, i * 14 + k, none⟩ = (mpartCells L i (st.cf.parts.getD i default) (st.parts.getD i default))[k]? := by
  rw [cell_of_row _ _ _ _ _ _ h.parts, List.getElem?_toArray]
  exact rowsL_get _ 14 _ (fun _ _ => rfl) i k hi hk
theorem MachAt.cellQ (h : MachAt w L g st) (i k f : Nat) (hi : i < st.parts.length) (hk : k < (st.parts.getD i default).procs.length) (hf : f < 6) : w.cell? ⟨L.pr i, k * 6 + f, none⟩ = (mprocCells (L.code i k) ((st.parts.getD i default).procs.getD k default))[f]? := by
  rw [cell_of_row _ _ _ _ _ _ (h.procs i hi), List.getElem?_toArray]
  exact rowsL_get _ 6 _ (fun _ _ => rfl) k f hk hf
theorem MachAt.below (h : MachAt w L g st) (hb : Below w.heap.size w w') : MachAt w' L g st := h.keep (fun _ _ hb' => keepB hb hb')
theorem StOk.few (h : StOk st) : 1 ≤ st.parts.length ∧ st.parts.length ≤ 4 := by rw [h.len]; exact h.good.few
theorem StOk.getD (h : StOk st) (i : Nat) (hi : i < st.parts.length) : PtGood (st.cf.parts.getD i default) := by
  rw [h.len] at hi
  rw [List.getD_eq_getElem?_getD, List.getElem?_eq_getElem hi]
  exact h.good.parts _ (List.getElem_mem hi)
theorem StOk.np (h : StOk st) (i : Nat) (hi : i < st.parts.length) : 1 ≤ (st.parts.getD i default).procs.length ∧ (st.parts.getD i default).procs.length ≤ 2 := by
  rw [(h.part i hi).2]; exact (h.getD i hi).few
theorem StOk.nw (h : StOk st) (i : Nat) (hi : i < st.parts.length) : 1 ≤ (st.parts.getD i default).words.length ∧ (st.parts.getD i default).words.length ≤ 16 := by
  have := (h.getD i hi).words
  rw [(h.part i hi).1]; omega
end

def stateCells (p : RProc) : List Value := [.int .i64 p.next, .int .i64 p.acc, .bool p.stopped]
def elS (p : RProc) : El := ⟨fun | 0 => p.next | _ => p.acc, p.stopped, fun _ => none, fun _ => 0, fun _ => 0, none⟩
set_option maxHeartbeats 2000000 in
theorem viewOne_any (cb : Nat) (L : MLay) (g : Nat) (st : RSt) (i k : Nat) (w : World) (hm : MachAt w L g st) (hok : StOk st) (hi : i < st.parts.length) (hk : k < (st.parts.getD i default).procs.length) (h0 : w.cell? ⟨cb, 0, none⟩ = some (.pointer (some ⟨L.pb, i * 14, none⟩))) :
    Calls Tryz.prog 110 #[.int .i64 k, .pointer (some ⟨cb, 0, none⟩)] w fun e w' => e = .returned (.agg #[.int .i64 ((st.parts.getD i default).procs.getD k default).next, .int .i64 ((st.parts.getD i default).procs.getD k default).acc, .bool ((st.parts.getD i default).procs.getD k default).stopped]) ∧ Below w.heap.size w w' := by
  have hnp := (hok.np i hi).2
  have c0 : w.cell? ⟨L.pb, i * 14 + 11, none⟩ = some (.slice (some ⟨L.pr i, 0, none⟩) (st.parts.getD i default).procs.length (st.parts.getD i default).procs.length) := by rw [hm.cellP i 11 hi (by omega)]; rfl
  have c1 : w.cell? ⟨L.pr i, k * 6 + 1, none⟩ = some (.int .i64 ((st.parts.getD i default).procs.getD k default).next) := by rw [hm.cellQ i k 1 hi hk (by omega)]; rfl
  have c2 : w.cell? ⟨L.pr i, k * 6 + 2, none⟩ = some (.int .i64 ((st.parts.getD i default).procs.getD k default).acc) := by rw [hm.cellQ i k 2 hi hk (by omega)]; rfl
  have c3 : w.cell? ⟨L.pr i, k * 6 + 3, none⟩ = some (.bool ((st.parts.getD i default).procs.getD k default).stopped) := by rw [hm.cellQ i k 3 hi hk (by omega)]; rfl
  have hl0 := lt_of_cell h0
  have hl1 := lt_of_cell c0
  have hl2 := lt_of_cell c1
  have hb : Below w.heap.size w (w.alloc (.cells #[.int .i64 0, .int .i64 0, .bool false] 47)) := (Below.refl _ _).alloc (Nat.le_refl _) _
  have HAT := hide (procAt_any (L.pr i) (st.parts.getD i default).procs.length k (w.alloc (.cells #[.int .i64 0, .int .i64 0, .bool false] 47)) hk)
  have HB := hide hb
  clear hm hok hb
  generalize (st.parts.getD i default).procs.length = np at *
  generalize ((st.parts.getD i default).procs.getD k default).next = a at *
  generalize ((st.parts.getD i default).procs.getD k default).acc = b at *
  generalize ((st.parts.getD i default).procs.getD k default).stopped = c at *
  go_enter Tryz.func110, Tryz.ntmps110
  go_wp2_with fail
  refine HAT.out.mono ?_
  rintro e w1 ⟨rfl, hb1⟩
  have hs1 := hb1.size
  simp at hs1
  have HB1 : Hid (Below w.heap.size w w1) := HB.out.trans (hb1.mono (by simp))
  have d1 := (HB1.out.cell (p := ⟨L.pr i, k * 6 + 1, none⟩) hl2).trans c1
  have d2 := (HB1.out.cell (p := ⟨L.pr i, k * 6 + 2, none⟩) hl2).trans c2
  have d3 := (HB1.out.cell (p := ⟨L.pr i, k * 6 + 3, none⟩) hl2).trans c3
  have hr1 : w1.heap[w.heap.size]? = some (.cells #[.int .i64 0, .int .i64 0, .bool false] 47 (0, 0)) := (hb1.block _ (by simp)).trans (heap_at rfl)
  have z0 : w1.cell? ⟨w.heap.size, 0, none⟩ = some (.int .i64 0) := by rw [cell_of_row _ _ _ _ _ _ hr1]; rfl
  have z1 : w1.cell? ⟨w.heap.size, 1, none⟩ = some (.int .i64 0) := by rw [cell_of_row _ _ _ _ _ _ hr1]; rfl
  have z2 : w1.cell? ⟨w.heap.size, 2, none⟩ = some (.bool false) := by rw [cell_of_row _ _ _ _ _ _ hr1]; rfl
  have f0 := free_of_block hr1 0
  have f1 := free_of_block hr1 1
  have f2 := free_of_block hr1 2
  obtain ⟨wF, hwF⟩ : ∃ wF, wF = ((w1.setCell ⟨w.heap.size, 0, none⟩ (.int .i64 a)).setCell ⟨w.heap.size, 1, none⟩ (.int .i64 b)).setCell ⟨w.heap.size, 2, none⟩ (.bool c) := ⟨_, rfl⟩
  have HFB : Hid (wF.heap[w.heap.size]? = some (.cells #[.int .i64 a, .int .i64 b, .bool c] 47 (0, 0))) := by show _ = _; rw [hwF]; exact block_set (block_set (block_set hr1 0 _) 1 _) 2 _
  have HEND : Hid (Below w.heap.size w wF) := by
    show Below _ _ _
    rw [hwF]
    iterate 3 refine Below.thenSet ?_ (Nat.le_refl _) _ _
    exact HB1.out
  have HWF := hide hwF
  clear hb1 hr1 hwF HAT
  go_wp2
  rw [← HWF.out]
  exact bodyPost_ret (v := .agg #[.int .i64 a, .int .i64 b, .bool c]) (res_cell Tryz.results110 _ _ _ (by rfl) HFB.out Tryz.underlying47 (by kernel_rfl)) rfl ⟨rfl, HEND.out⟩
theorem states_any (cb : Nat) (L : MLay) (g : Nat) (st : RSt) (i : Nat) (w : World) (hm : MachAt w L g st) (hok : StOk st) (hi : i < st.parts.length) (h0 : w.cell? ⟨cb, 0, none⟩ = some (.pointer (some ⟨L.pb, i * 14, none⟩))) :
    Calls Tryz.prog 108 #[.int .i64 (st.parts.getD i default).procs.length, .func (.func 110) #[] #[.pointer (some ⟨cb, 0, none⟩)]] w fun e w' => ∃ y, e = .returned (.agg #[.slice (some ⟨y, 0, none⟩) (st.parts.getD i default).procs.length (st.parts.getD i default).procs.length]) ∧ w.heap.size ≤ y ∧ w'.heap[y]? = some (.cells ((st.parts.getD i default).procs.flatMap stateCells).toArray 47 (0, 0)) ∧ Below w.heap.size w w' := by
  have hnp := (hok.np i hi).2
  refine (makeState_any cb (st.parts.getD i default).procs.length (by omega) (fun _ => False) w (fun _ h => h.elim) (fun j r W => r.flatMap mksC = ((st.parts.getD i default).procs.take j).flatMap stateCells ∧ Touch (fun b => w.heap.size ≤ b) w W) (fun j r W W' hI t => ⟨hI.1, hI.2.trans t (fun i hi => .inl hi.1)⟩) (fun j r W hj hI hsW => ?_) ⟨by simp, Touch.refl _ _⟩).mono ?_
  · have hB : Below w.heap.size w W := hI.2.below (Nat.le_refl _) (fun k hk => hk)
    refine (viewOne_any cb L g st i j W (hm.below hB) hok hi hj ((cell_same (hB.block cb (lt_of_cell h0)) 0).trans h0)).mono ?_
    rintro e w' ⟨rfl, hb⟩
    refine ⟨elS ((st.parts.getD i default).procs.getD j default), rfl, ⟨?_, hI.2.trans (Touch.ofBelow (S := fun _ => False) hb) (fun _ h => h.elim)⟩, Touch.ofBelow hb⟩
    have hd : (st.parts.getD i default).procs.getD j default = (st.parts.getD i default).procs[j] := getD_at _ _ _ hj
    rw [List.flatMap_append, hI.1, List.take_add_one, List.getElem?_eq_getElem hj, List.flatMap_append, hd]
    rfl
  · rintro e w' ⟨y, r, rfl, ⟨hr, ht⟩, _, hown⟩
    obtain ⟨h1, h2⟩ := own_cells hown
    refine ⟨y, rfl, h1, ?_, ht.below (Nat.le_refl _) (fun k hk => hk)⟩
    rw [h2, show mkssC r = _ from hr, List.take_length]
end Go.Proofs.YtnjlbgolnbdkaaaGreat
