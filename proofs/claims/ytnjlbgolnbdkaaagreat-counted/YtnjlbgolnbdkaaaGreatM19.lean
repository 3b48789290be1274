/- Texts of the proofs of Watched and Clocked, one behind the other. -/
import Derived.Test.YtnjlbgolnbdkaaaGreatM18
import Derived.Deep.RegionHeld
import Derived.Defers
/- The program's machine: the first process that is ready does its next instruction. -/
namespace Go.Proofs.YtnjlbgolnbdkaaaGreat
open Go.RowKit Go.Shelf

attribute [local go_sem] Oper.semAt_some

theorem region_class_round {F : Fence} {n : Nat} {P : Program} {id : Nat} {Q : Exit → Act → World → Prop} {a : Act} {w : World} {l : List Oper} {ι : Type} (f : ι → World) (hd : noDefer l = true) (hm : P.follows .mixedOrders = true) (hB : Region.lexB .any l.toArray = true) (h0 : ∃ i, w.drew = f i)
    (h : wpQuietIn F n P l.toArray (fun w' => ∃ i, w' = f i) (fun a' => ∀ w', (∃ i, w' = f i) → Q .normal a' w') l a) : (Code.region id l.toArray true).wpIn F n P Q a w := by
  simp only [Region.lexB, Bool.and_eq_true] at hB
  refine wpIn_region_any hm (wpAnyIn_of_qR (Q := fun a' => ∀ w', (∃ i, w' = f i) → Q .normal a' w') (C := fun w' => ∃ i, w' = f i) (noDefer_spec hd) (fun _ w' hw' h => h w' hw') _ _ _ _ h0 ?_)
  have := wpAnyQIn_lex (F := F) (n := n) (C := fun w' => ∃ i, w' = f i) (md := .any) hB.1 l 0 (Array.replicate l.toArray.size false) a (by simp) (by simpa using hB.2) h
  simpa using this
def placeOf (st : RSt) (i q : Nat) : Nat := ((turnI (st.part i).procs.length (prioOf (st.cpart i))).getD q 0).toNat
theorem place_lt (st : RSt) (h : StOk st) (i q : Nat) (hi : i < st.parts.length) (hq : q < (st.part i).procs.length) : placeOf st i q < (st.part i).procs.length ∧ (turnI (st.part i).procs.length (prioOf (st.cpart i)))[q]? = some ((placeOf st i q : Nat) : Int) := by
  have h1 := h.one i hi
  unfold placeOf turnI
  generalize (st.part i).procs.length = np at *
  obtain rfl | rfl : np = 1 ∨ np = 2 := by omega
  · obtain rfl : q = 0 := by omega
    exact ⟨show (0 : Nat) < 1 by decide, rfl⟩
  · obtain rfl | rfl : q = 0 ∨ q = 1 := by omega
    · cases turned (prioOf (st.cpart i)) <;> exact ⟨by decide, rfl⟩
    · cases turned (prioOf (st.cpart i)) <;> exact ⟨by decide, rfl⟩
def readyP (i n : Nat) (st : RSt) : Bool := (!(st.proc i n).stopped && decide ((st.proc i n).til ≤ st.now)) && (recvS i n st).1.2
theorem recv_not (i n : Nat) (st : RSt) (h : (recvS i n st).1.2 = false) : (recvS i n st).2 = st := by
  unfold recvS at h ⊢
  split
  · rename_i h1
    rw [if_pos h1] at h
    split at h
    · rfl
    · cases h
  · rename_i h1
    rfl
theorem recv_like (i n : Nat) (st : RSt) : Lk st (recvS i n st).2 := by
  unfold recvS
  split
  · split
    · exact Lk.refl _
    · exact ⟨rfl, rfl, rfl⟩
  · exact Lk.refl _
theorem recv_parts (i n : Nat) (st : RSt) : (recvS i n st).2.parts = st.parts := by
  unfold recvS
  split
  · split <;> rfl
  · rfl
theorem recv_run (i n : Nat) (st : RSt) (h : StRun st) : StRun (recvS i n st).2 := by
  have hp := recv_parts i n st
  have hl := recv_like i n st
  have hpt : ∀ j, (recvS i n st).2.part j = st.part j := fun j => by unfold RSt.part; rw [hp]
  refine ⟨by rw [hl.now]; exact h.now, fun j hj => ?_, fun j m hj hm => ?_, fun j hj => ?_⟩
  · rw [hl.now, hpt j]
    exact h.watch j (by rw [hl.len] at hj; exact hj)
  · rw [hpt j] at hm
    have e1 : (recvS i n st).2.proc j m = st.proc j m := by unfold RSt.proc; rw [hpt j]
    have e2 : (recvS i n st).2.codeOf j m = st.codeOf j m := by unfold RSt.codeOf RSt.cpart; rw [hl.cf]
    rw [e1, e2, hl.now]
    exact h.proc j m (by rw [hl.len] at hj; exact hj) hm
  · rw [hl.cf] at hj ⊢
    have := h.queue j hj
    generalize (st.cf.chans.getD j default).depth = dp at *
    unfold recvS
    split
    · split
      · exact this
      · rename_i v vs hq
        simp only [List.getD_eq_getElem?_getD, List.getElem?_set]
        split
        · rename_i e
          split
          · have e2 : st.queues.getD j [] = v :: vs := by rw [← e]; exact hq
            rw [e2] at this
            simp only [Option.getD_some]
            simp only [List.length_cons] at this
            omega
          · simp only [Option.getD_none, List.length_nil]
            omega
        · simpa [List.getD_eq_getElem?_getD] using this
    · exact this
def doneP (i n : Nat) (s : SF) : Bool × SF := stepF i n (recvS i n s.1).1.1 ((recvS i n s.1).2, s.2)
def turnP (i : Nat) (s : SF) : Bool × SF :=
  if (s.1.part i).mode = 3 then (true, s)
  else match (List.range (s.1.part i).procs.length).find? (fun q => readyP i (placeOf s.1 i q) s.1) with
    | none => (true, s)
    | some q => doneP i (placeOf s.1 i q) s
theorem stepF_like (i n : Nat) (rc : Int) (s : SF) : Lk s.1 (stepF i n rc s).2.1 := by
  have h1 : Lk s.1 (stepP i n rc s).2 := (Lk.setProc _ _ _ _).trans (doS_like _ _ _ _ _ _ _)
  unfold stepF
  split
  · exact h1
  · exact h1.trans (Lk.fault i n _ (_, s.2))
theorem done_like (i n : Nat) (s : SF) : Lk s.1 (doneP i n s).2.1 := (recv_like i n s.1).trans (stepF_like i n _ (_, s.2))
theorem turnP_none (i : Nat) (s : SF) (N : Nat) (hN : N = (s.1.part i).procs.length) (h3 : (s.1.part i).mode ≠ 3) (h : ∀ q ∈ upto N N, readyP i (placeOf s.1 i q.1) s.1 = false) : turnP i s = (true, s) := by
  unfold turnP
  rw [if_neg h3, ← hN]
  have : (List.range N).find? (fun q => readyP i (placeOf s.1 i q) s.1) = none := by
    rw [List.find?_eq_none]
    intro q hq
    have := h ⟨q, by simpa using hq⟩ (by unfold upto; rw [List.take_of_length_le (by simp)]; exact List.mem_finRange _)
    rw [show readyP i (placeOf s.1 i q) s.1 = false from this]
    decide
  rw [this]
theorem turnP_some (i : Nat) (s : SF) (N : Nat) (hN : N = (s.1.part i).procs.length) (h3 : (s.1.part i).mode ≠ 3) (k : Nat) (pre : List (Fin N)) (x : Fin N) (he : upto N k = pre ++ [x]) (h : ∀ q ∈ pre, readyP i (placeOf s.1 i q.1) s.1 = false) (hx : readyP i (placeOf s.1 i x.1) s.1 = true) : turnP i s = doneP i (placeOf s.1 i x.1) s := by
  unfold turnP
  rw [if_neg h3, ← hN]
  have e1 : List.range N = (upto N N).map Fin.val := by
    unfold upto
    rw [List.take_of_length_le (by simp)]
    exact List.ext_getElem (by simp) (fun k h1 h2 => by simp)
  have e2 : upto N N = pre ++ x :: (List.finRange N).drop k := by
    have : upto N N = upto N k ++ (List.finRange N).drop k := by
      unfold upto
      rw [List.take_of_length_le (by simp : (List.finRange N).length ≤ N), List.take_append_drop]
    rw [this, he]
    simp
  have : (List.range N).find? (fun q => readyP i (placeOf s.1 i q) s.1) = some x.1 := by
    rw [e1, e2]
    simp only [List.map_append, List.map_cons]
    rw [List.find?_append]
    have hn : (pre.map Fin.val).find? (fun q => readyP i (placeOf s.1 i q) s.1) = none := by
      rw [List.find?_eq_none]
      intro q hq
      obtain ⟨y, hy, rfl⟩ := List.mem_map.1 hq
      rw [h y hy]
      decide
    rw [hn]
    simp [hx]
  rw [this]
set_option maxRecDepth 100000 in
set_option maxHeartbeats 4000000 in
theorem turn_any (L : MLay) (g : Nat) (st : RSt) (F : Fl) (i : Nat) (w : World) (h : Mo w L g st F) (hrun : StRun st) (hi : i < st.parts.length) :
    Calls Tryz.prog 149 #[.pointer (some ⟨L.mb, 0, none⟩), .pointer (some ⟨L.pb, i * 14, none⟩)] w fun e w' => e = .returned (.bool (turnP i (st, F)).1) ∧ Mo w' L g (turnP i (st, F)).2.1 (turnP i (st, F)).2.2 ∧ Touch (Dm L g st) w w' := by
  have hmx : Tryz.prog.follows .mixedOrders = true := by kernel_rfl
  obtain ⟨N, hN⟩ : ∃ N, N = (st.part i).procs.length := ⟨_, rfl⟩
  have hN2 : N ≤ 1000 := by have := h.ok.one i hi; omega
  have p9 := h.mach.partAt i 9 hi (by omega)
  have p12 := h.mach.partAt i 12 hi (by omega)
  simp only [mpartC, List.getElem?_cons_succ, List.getElem?_cons_zero] at p9 p12
  rw [← hN] at p12
  have HN := hide hN
  have hlp := lt_of_cell p9
  clear hN
  refine (callsIn_wide (n := 8)).1 ?_
  refine callsIn_of_wp_marks Tryz.func149 rfl trivial ?_ rfl
  simp only [Tryz.ntmps149, List.size_toArray, List.length_cons, List.length_nil, Nat.reduceAdd, Nat.reduceSub, Array.replicate_succ, Array.replicate_zero, List.push_toArray, List.append_toArray, List.nil_append, List.cons_append]
  obtain ⟨R, hR⟩ : ∃ R, R = turnP i (st, F) := ⟨_, rfl⟩
  rw [← hR]
  have bA := Boxed.new w 74 (.pointer (some ⟨L.mb, 0, none⟩))
  have bB := Boxed.new (w.alloc (.cells #[.pointer (some ⟨L.mb, 0, none⟩)] 74)) 158 (.pointer (some ⟨L.pb, i * 14, none⟩))
  have bR := Boxed.new ((w.alloc (.cells #[.pointer (some ⟨L.mb, 0, none⟩)] 74)).alloc (.cells #[.pointer (some ⟨L.pb, i * 14, none⟩)] 158)) 4 (.bool false)
  simp only [World.size_alloc] at bB bR
  obtain ⟨w1, hw1⟩ : ∃ w1, w1 = ((w.alloc (.cells #[.pointer (some ⟨L.mb, 0, none⟩)] 74)).alloc (.cells #[.pointer (some ⟨L.pb, i * 14, none⟩)] 158)).alloc (.cells #[.bool false] 4) := ⟨_, rfl⟩
  have hb1 : Below w.heap.size w w1 := by rw [hw1]; exact (((Below.refl _ _).alloc (Nat.le_refl _) _).alloc (by simp) _).alloc (by simp; omega) _
  have hM1 := h.mono hb1
  have hs1 : w1.heap.size = w.heap.size + 3 := by rw [hw1]; simp
  have HRU : Hid (Calls Tryz.prog 77 #[.pointer (some ⟨L.pb, i * 14, none⟩)] w1 fun e w' => e = .returned (.bool ((st.part i).mode != 3)) ∧ w' = w1) := runs_any L.pb (i * 14) _ w1 ((hb1.cell (p := ⟨L.pb, i * 14 + 9, none⟩) hlp).trans p9)
  have HW1 := hide hw1
  have hA1 : Boxed w1 w.heap.size 74 (.pointer (some ⟨L.mb, 0, none⟩)) := by rw [hw1]; exact (bA.alloc _).alloc _
  have hB1 : Boxed w1 (w.heap.size + 1) 158 (.pointer (some ⟨L.pb, i * 14, none⟩)) := by rw [hw1]; exact bB.alloc _
  have hR1 : Boxed w1 (w.heap.size + 1 + 1) 4 (.bool false) := by rw [hw1]; exact bR
  have HS1 := hide hs1
  clear hw1 bA bB bR
  gi_wp2_with fail
  rw [← HW1.out]
  refine ⟨trivial, ?_⟩
  refine (callsIn_wide.2 HRU.out).mono ?_
  rintro e w' ⟨rfl, rfl⟩
  by_cases h3 : (st.part i).mode = 3
  · have h3b : ((st.part i).mode != 3) = false := by simp [h3]
    have HR : Hid (R = (true, st, F)) := by show _ = _; rw [hR]; unfold turnP; rw [if_pos h3]
    have HEND : Hid (Mo (w'.setCell ⟨w.heap.size + 1 + 1, 0, none⟩ (.bool true)) L g st F ∧ Touch (Dm L g st) w (w'.setCell ⟨w.heap.size + 1 + 1, 0, none⟩ (.bool true)) ∧ (w'.setCell ⟨w.heap.size + 1 + 1, 0, none⟩ (.bool true)).cell? ⟨w.heap.size + 1 + 1, 0, none⟩ = some (.bool true)) := by
      have hts : Touch (· = w.heap.size + 1 + 1) w' (w'.setCell ⟨w.heap.size + 1 + 1, 0, none⟩ (.bool true)) := Touch.ofSet w' _ _ _ rfl
      exact ⟨hM1.box hR1 (by decide) hts, (Touch.ofBelow hb1).trans hts (fun i e => .inr (by have e2 : i = w.heap.size + 1 + 1 := e; omega)), (hR1.set (.bool true)).cell⟩
    have cr := hR1.cell
    have fr := hR1.frozen
    clear h hM1 hb1 hR h3 hs1
    gi_wp2
    rw [HR.out]
    exact ⟨.bool true, by simp [results, Tryz.results149, go_sem, HEND.out.2.2], rfl, HEND.out.1, HEND.out.2.1⟩
  · have h3b : ((st.part i).mode != 3) = true := by simp [h3]
    have cB := hB1.cell
    have p12' : w'.cell? ⟨L.pb, i * 14 + 12, none⟩ = some (.slice (some ⟨L.tn i, 0, none⟩) N N) := (hb1.cell (p := ⟨L.pb, i * 14 + 12, none⟩) hlp).trans p12
    have HR := hide hR
    have H3 := hide h3
    clear hR h3 p9 p12 hs1
    gi_wp2_with (refine ⟨trivial, ?_⟩; gi_at_call 187; refine (callsIn_wide.2 (intAll_any _ _ _)).mono ?_; rintro e w9 ⟨rfl, rfl⟩)
    have bC := Boxed.new w' 115 (.slice (some ⟨L.tn i, 0, none⟩) N N)
    have hb2 : Below w'.heap.size w' (w'.alloc (.cells #[.slice (some ⟨L.tn i, 0, none⟩) N N] 115)) := (Below.refl _ _).alloc (Nat.le_refl _) _
    have hA2 := hA1.alloc (.cells #[.slice (some ⟨L.tn i, 0, none⟩) N N] 115)
    have hB2 := hB1.alloc (.cells #[.slice (some ⟨L.tn i, 0, none⟩) N N] 115)
    have hR2 := hR1.alloc (.cells #[.slice (some ⟨L.tn i, 0, none⟩) N N] 115)
    have hM2 := hM1.mono hb2
    have hT2 : Touch (Dm L g st) w (w'.alloc (.cells #[.slice (some ⟨L.tn i, 0, none⟩) N N] 115)) := (Touch.ofBelow hb1).andThen (Touch.ofBelow hb2)
    obtain ⟨w2, hw2⟩ : ∃ w2, w2 = w'.alloc (.cells #[.slice (some ⟨L.tn i, 0, none⟩) N N] 115) := ⟨_, rfl⟩
    have hs2 : w2.heap.size = w'.heap.size + 1 := by rw [hw2]; simp
    rw [← hw2] at bC hb2 hA2 hB2 hR2 hM2 hT2 ⊢
    have hsw : w.heap.size + 3 = w'.heap.size := HS1.out.symm
    have HS2 : Hid (w2.heap.size = w.heap.size + 4) := by show _ = _; omega
    have hlt2 : ∀ b, Dm L g st b → b < w.heap.size := fun b hb => h.lt b hb
    clear hw2
    refine wpIn_rangeFunc_ownG rfl (by omega) (gf := 208) (lb := #[.pointer (some ⟨w'.heap.size, 0, none⟩)]) rfl trivial (enters_of Tryz.func208 (by kernel_rfl) rfl)
      (intAll_stops _ _ trivial rfl (by omega) N hN2 w'.heap.size (L.tn i) w2 (by omega) bC) (fun h k => k.trans h) (fun W l o o' hl _ _ _ => World.putObj_heap_other (by omega)) (Below.refl _ _) (fun _ => rfl)
      (fun pre W => (∀ q ∈ pre, readyP i (placeOf st i q.1) st = false) ∧ Mo W L g st F ∧ Boxed W w.heap.size 74 (.pointer (some ⟨L.mb, 0, none⟩)) ∧ Boxed W (w.heap.size + 1) 158 (.pointer (some ⟨L.pb, i * 14, none⟩)) ∧ Boxed W (w.heap.size + 1 + 1) 4 (.bool false) ∧ Boxed W w'.heap.size 115 (.slice (some ⟨L.tn i, 0, none⟩) N N) ∧ Touch (Dm L g st) w W)
      (fun c pre W => (c = .ret ∧ ∃ pre0 x, pre = pre0 ++ [x] ∧ (∀ q ∈ pre0, readyP i (placeOf st i q.1) st = false) ∧ readyP i (placeOf st i x.1) st = true ∧ Mo W L g (doneP i (placeOf st i x.1) (st, F)).2.1 (doneP i (placeOf st i x.1) (st, F)).2.2 ∧ Boxed W (w.heap.size + 1 + 1) 4 (.bool (doneP i (placeOf st i x.1) (st, F)).1)) ∧ Touch (Dm L g st) w W)
      (OwnFrom.and (ownFrom_pure _ _) (OwnFrom.and (ownFrom_mo (fun _ => st) (fun _ => F) (fun _ b hb => by have := hlt2 b hb; omega)) (OwnFrom.and (Own.from (boxed_own _ _ _) _) (OwnFrom.and (Own.from (boxed_own _ _ _) _) (OwnFrom.and (Own.from (boxed_own _ _ _) _) (OwnFrom.and (Own.from (boxed_own _ _ _) _) (ownFrom_touch (by omega))))))))
      (fun c => OwnFrom.and ?ownx (ownFrom_touch (by omega)))
      ⟨fun q hq => (List.not_mem_nil hq).elim, hM2, hA2, hB2, hR2, bC, hT2⟩
      (fun q => { tmps := #[.pointer (some ⟨L.mb, 0, none⟩), .pointer (some ⟨L.pb, i * 14, none⟩), .pointer (some ⟨w.heap.size, 0, none⟩), .pointer (some ⟨w.heap.size + 1, 0, none⟩), .pointer (some ⟨w.heap.size + 1 + 1, 0, none⟩), undef, .pointer (some ⟨L.tn i, q.1, none⟩), undef, undef, undef, .pointer (some ⟨L.pb, i * 14, none⟩), .bool true, .bool false, .pointer (some ⟨L.pb, i * 14, none⟩), .pointer (some ⟨L.pb, i * 14, none⟩), .pointer (some ⟨L.pb, i * 14 + 12, none⟩), .agg #[.slice (some ⟨L.tn i, 0, none⟩) N N], .func (.func 208) #[] #[.pointer (some ⟨w'.heap.size, 0, none⟩)], .int .i64 q.1, .pointer (some ⟨L.tn i, q.1, none⟩), undef, undef, undef, undef, undef, undef, undef, undef, undef, undef, undef, undef, undef, undef, undef, undef, undef, undef, undef, undef, undef, undef, undef, undef, undef, undef, undef, undef], defers := [] }) ?assign ?body ?done ?stop
    case ownx =>
      rintro pre W W2 row ⟨hc, pre0, x, e1, e2, e3, e4, e5⟩ hg hr
      refine ⟨hc, pre0, x, e1, e2, e3, ?_, e5.kept hg (fun e => ?_)⟩
      · exact ownFrom_mo (fun _ : Unit => (doneP i (placeOf st i x.1) (st, F)).2.1) (fun _ => (doneP i (placeOf st i x.1) (st, F)).2.2) (fun _ b hb => by have := hlt2 b (Dm.like (done_like i _ (st, F)) hb); omega) () W W2 row e4 hg hr
      · obtain ⟨o, ho, hcc⟩ := (hr _ e.symm).2
        rw [show W.heap[w.heap.size + 1 + 1]? = _ from e5] at ho
        cases ho
        cases hcc
    case assign =>
      intro l q W K hK
      clear hs2 hsw
      gi_wp2
      exact hK
    case body =>
      rintro l pre q W ⟨hy, hm, hv, hb, hr, hc, hT⟩ hlt
      have hqn : q.1 < (st.part i).procs.length := by rw [← HN.out]; exact q.2
      obtain ⟨hpl, hpv⟩ := place_lt st h.ok i q.1 hi hqn
      have HPD : Hid (∀ b, readyP i (placeOf st i q.1) st = b → readyP i (placeOf st i q.1) st = b) := fun _ h => h
      obtain ⟨m, hmd⟩ : ∃ m, m = placeOf st i q.1 := ⟨_, rfl⟩
      rw [← hmd] at hpl hpv
      have HMD := hide hmd
      obtain ⟨ι, hni, f, hf, hg⟩ := belowClass W
      have HC0 : Hid (∃ i, W.drew = f i) := hg _ (Below.refl _ _).drew
      have HMf : Hid (∀ j, Mo (f j) L g st F) := fun j => hm.mono (hf j)
      have bf : ∀ {x : Nat} {t : TypeId} {v : Value}, Boxed W x t v → ∀ j, Boxed (f j) x t v := fun hx j => ((hf j).block _ hx.lt).trans hx
      have e0 : ∀ j, (f j).cell? ⟨w.heap.size + 1, 0, none⟩ = some (.pointer (some ⟨L.pb, i * 14, none⟩)) := fun j => (bf hb j).cell
      have e1 : ∀ j, (f j).cell? ⟨w.heap.size, 0, none⟩ = some (.pointer (some ⟨L.mb, 0, none⟩)) := fun j => (bf hv j).cell
      have e2 : ∀ j, (f j).cell? ⟨L.pb, i * 14 + 11, none⟩ = some (.slice (some ⟨L.pr i, 0, none⟩) N N) := fun j => by
        have := (HMf.out j).mach.partAt i 11 hi (by omega)
        simp only [mpartC, List.getElem?_cons_succ, List.getElem?_cons_zero] at this
        rw [← HN.out] at this
        exact this
      have e3 : ∀ j, (f j).cell? ⟨L.tn i, q.1, none⟩ = some (.int .i64 m) := fun j => by
        rw [cell_of_row _ _ _ _ _ _ ((HMf.out j).mach.turns i hi), List.getElem?_toArray, List.getElem?_map]
        show Option.map _ ((turnI (st.part i).procs.length (prioOf (st.cpart i)))[q.1]?) = _
        rw [hpv]
        rfl
      have e4 : ∀ j, (f j).cell? ⟨L.mb, 6, none⟩ = some (.int .i64 st.now) := fun j => by
        have := (HMf.out j).mach.machAt 6
        simpa using this
      have HPA : Hid (∀ j, Calls Tryz.prog 79 #[.agg #[.slice (some ⟨L.pr i, 0, none⟩) N N], .int .i64 m] (f j) fun e w' => e = .returned (.pointer (some ⟨L.pr i, m * 6, none⟩)) ∧ ∃ k, w' = f k) := fun j => Calls.inClass hf hg j (procAt_any _ _ m _ (by rw [HN.out]; exact hpl))
      have HAW : Hid (∀ j, Calls Tryz.prog 188 #[.pointer (some ⟨L.pr i, m * 6, none⟩), .int .i64 st.now] (f j) fun e w' => e = .returned (.bool (!(st.proc i m).stopped && decide ((st.proc i m).til ≤ st.now))) ∧ w' = f j) := fun j => by
        have p3 := (HMf.out j).mach.procAt i m 3 hi hpl (by omega)
        have p4 := (HMf.out j).mach.procAt i m 4 hi hpl (by omega)
        simp only [mprocCells, List.getElem?_cons_succ, List.getElem?_cons_zero] at p3 p4
        exact awake_any (L.pr i) (m * 6) _ _ st.now (f j) p3 p4
      have HTf : Hid (∀ j, Touch (Dm L g st) W (f j)) := fun j => Touch.ofBelow (hf j)
      have HLT := hide hlt2
      have HY := hide hy
      have HM := hide hm
      have HV := hide hv
      have HB := hide hb
      have HRB := hide hr
      have HC := hide hc
      have HT := hide hT
      have HH := hide h
      have HRN := hide hrun
      have HPOST : Hid (∀ W6 : World, readyP i m st = false → Touch (Dm L g st) W W6 → Mo W6 L g st F → KeepsFrom w2.heap.size W W6 ∧ W6.heap[w'.heap.size]? = W.heap[w'.heap.size]? ∧ (∀ x ∈ pre ++ [q], readyP i (placeOf st i x.1) st = false) ∧ Mo W6 L g st F ∧ Boxed W6 w.heap.size 74 (.pointer (some ⟨L.mb, 0, none⟩)) ∧ Boxed W6 (w.heap.size + 1) 158 (.pointer (some ⟨L.pb, i * 14, none⟩)) ∧ Boxed W6 (w.heap.size + 1 + 1) 4 (.bool false) ∧ Boxed W6 w'.heap.size 115 (.slice (some ⟨L.tn i, 0, none⟩) N N) ∧ Touch (Dm L g st) w W6) := fun W6 h0 ht h6 => by
        have kp : ∀ {x : Nat} {t : TypeId} {v : Value}, w.heap.size ≤ x → Boxed W x t v → Boxed W6 x t v := fun hx hbb => (ht.block _ hbb.lt (fun hd => by have := HLT.out _ hd; omega)).trans hbb
        refine ⟨keepsFrom_touch ht (fun b hb => by have := HLT.out b hb; have := HS2.out; omega), ht.block _ HC.out.lt (fun hd => by have := HLT.out _ hd; have := HS1.out; omega), fun x hx => ?_, h6, kp (Nat.le_refl _) HV.out, kp (by omega) HB.out, kp (by omega) HRB.out, kp (by have := HS1.out; omega) HC.out, HT.out.andThen ht⟩
        rcases List.mem_append.1 hx with hx | hx
        · exact HY.out x hx
        · rw [List.mem_singleton.1 hx, ← HMD.out]
          exact h0
      have HRP : Hid (readyP i m st = ((!(st.proc i m).stopped && decide ((st.proc i m).til ≤ st.now)) && (recvS i m st).1.2)) := rfl
      clear hy hm hv hb hr hc hT hM2 hf hg hpv hmd hlt2 hs2 hsw hA1 hB1 hR1 hA2 hB2 hR2 bC hM1 hT2 hb1 hb2 cB p12' HPD h hrun
      gi_wp2_with fail
      refine region_class_round f (by kernel_rfl) hmx (by kernel_rfl) HC0.out ?_
      repeat (refine wpQuietIn_step (fun _ _ _ _ => trivial) (fun K hK => ?_); go_simp; first | (refine hK _ ?_; clear hK K) | (apply Exists.intro; refine ⟨fun _ => ?_, hK _ ?_⟩; (gi_at_call 79; exact CallsIn.inRound l (callsIn_wide.2 (HPA.out _))); clear hK K))
      refine wpQuietIn_nil ?_
      rintro _ ⟨j, rfl⟩
      gi_wp2_with fail
      refine ⟨trivial, ?_⟩
      refine (CallsIn.inRound l (callsIn_wide.2 (HAW.out j))).mono ?_
      rintro e W5 ⟨rfl, rfl⟩
      cases haw : (!(st.proc i m).stopped && decide ((st.proc i m).til ≤ st.now)) with
      | false =>
        have HG := hide (HPOST.out (f j) (by rw [HRP.out, haw]; rfl) (HTf.out j) (HMf.out j))
        clear haw
        gi_wp2
        exact HG.out
      | true =>
        have hst : (st.proc i m).stopped = false := by
          simp only [Bool.and_eq_true, Bool.not_eq_true'] at haw
          exact haw.1
        rw [haw, Bool.true_and] at HRP
        have HMR := hide (mreceive_any L g st F i m (f j) (HMf.out j) HRN.out hi hpl hst)
        clear haw
        gi_wp2_with fail
        refine ⟨trivial, ?_⟩
        refine (CallsIn.inRound l (callsIn_wide.2 HMR.out)).mono ?_
        rintro e W7 ⟨rfl, h71, h72⟩
        have h73 : Touch (Dm L g st) W W7 := (HTf.out j).andThen h72
        cases hrd : (recvS i m st).1.2 with
        | false =>
          have hrs := recv_not i m st hrd
          rw [hrs] at h71
          have HG := hide (HPOST.out W7 (by rw [HRP.out, hrd]) h73 h71)
          clear h71 h72 h73 hrd hrs
          generalize (recvS i m st).1.1 = rc at *
          gi_wp2
          exact HG.out
        | true =>
          have hlk := recv_like i m st
          have hpt : (recvS i m st).2.parts = st.parts := recv_parts i m st
          have hpp : (recvS i m st).2.part i = st.part i := by unfold RSt.part; rw [hpt]
          have hpr : (recvS i m st).2.proc i m = st.proc i m := by unfold RSt.proc; rw [hpp]
          have HSP := hide (step_any L g (recvS i m st).2 F i m (recvS i m st).1.1 W7 h71 (recv_run i m st HRN.out) (by rw [hpt]; exact hi) (by rw [hpp]; exact hpl) (by rw [hpr]; exact hst))
          have HDP : Hid (doneP i m (st, F) = stepF i m (recvS i m st).1.1 ((recvS i m st).2, F)) := rfl
          rw [← HDP.out] at HSP
          have HRT : Hid (readyP i m st = true) := by show _ = _; rw [HRP.out, hrd]
          have kp7 : ∀ {x : Nat} {t : TypeId} {v : Value}, w.heap.size ≤ x → Boxed W x t v → Boxed W7 x t v := fun hx hbb => (h73.block _ hbb.lt (fun hd => by have := HLT.out _ hd; omega)).trans hbb
          have c0 := (kp7 (Nat.le_refl _) HV.out).cell
          have c1 := (kp7 (by omega) HB.out).cell
          have H73 := hide h73
          have HLK := hide hlk
          clear h71 h72 h73 hrd hlk hpt hpp hpr kp7 HMR HPOST
          generalize (recvS i m st).1.1 = rc at *
          gi_wp2_with fail
          refine ⟨trivial, ?_⟩
          refine (CallsIn.inRound l (callsIn_wide.2 HSP.out)).mono ?_
          rintro e W8 ⟨rfl, h81, h82⟩
          have h83 : Touch (Dm L g st) W W8 := H73.out.andThen (h82.to (fun b hb => Dm.like HLK.out hb))
          have hbr : Boxed W8 (w.heap.size + 1 + 1) 4 (.bool false) := (h83.block _ HRB.out.lt (fun hd => by have := HLT.out _ hd; omega)).trans HRB.out
          have cr := hbr.cell
          have fr := hbr.frozen
          have HEND : Hid (∀ bv, bv = (doneP i m (st, F)).1 → KeepsFrom w2.heap.size W (W8.setCell ⟨w.heap.size + 1 + 1, 0, none⟩ (.bool bv)) ∧ (∃ pre0 x, pre ++ [q] = pre0 ++ [x] ∧ (∀ y ∈ pre0, readyP i (placeOf st i y.1) st = false) ∧ readyP i (placeOf st i x.1) st = true ∧ Mo (W8.setCell ⟨w.heap.size + 1 + 1, 0, none⟩ (.bool bv)) L g (doneP i (placeOf st i x.1) (st, F)).2.1 (doneP i (placeOf st i x.1) (st, F)).2.2 ∧ Boxed (W8.setCell ⟨w.heap.size + 1 + 1, 0, none⟩ (.bool bv)) (w.heap.size + 1 + 1) 4 (.bool (doneP i (placeOf st i x.1) (st, F)).1)) ∧ Touch (Dm L g st) w (W8.setCell ⟨w.heap.size + 1 + 1, 0, none⟩ (.bool bv))) := fun bv hbv => by
            have hts : Touch (· = w.heap.size + 1 + 1) W8 (W8.setCell ⟨w.heap.size + 1 + 1, 0, none⟩ (.bool bv)) := Touch.ofSet W8 _ _ _ rfl
            have hKF : KeepsFrom w2.heap.size W W8 := keepsFrom_touch h83 (fun b hb => by have := HLT.out b hb; have := HS2.out; omega)
            refine ⟨⟨Nat.le_trans hKF.size hts.size, fun x o h0 h1 h2 => (hts.block x (lt_of_heap (hKF.same x o h0 h1 h2)) (by intro e; have e2 : x = w.heap.size + 1 + 1 := e; have := HS2.out; omega)).trans (hKF.same x o h0 h1 h2)⟩, ⟨pre, q, rfl, HY.out, by rw [← HMD.out]; exact HRT.out, ?_, ?_⟩, (HT.out.andThen h83).trans hts (fun i e => .inr (by have e2 : i = w.heap.size + 1 + 1 := e; omega))⟩
            · rw [← HMD.out]
              exact h81.box hbr (by decide) hts
            · rw [← HMD.out, ← hbv]
              exact hbr.set _
          clear h81 h82 h83 hbr HSP
          generalize hdd : (doneP i m (st, F)).1 = dv at *
          gi_wp2
          have hh := HEND.out dv rfl
          exact ⟨hh.1, ⟨rfl, hh.2.1⟩, hh.2.2⟩
    case done =>
      rintro D ys W hD rfl ⟨hy, hm, hv, hb, hr, hc, hT⟩ hK
      have HRD : Hid (R = (true, st, F)) := by show _ = _; rw [HR.out]; exact turnP_none i (st, F) N HN.out H3.out hy
      have cr := hr.cell
      have fr := hr.frozen
      have hdl := HS2.out
      have hts : Touch (· = w.heap.size + 1 + 1) W (W.setCell ⟨w.heap.size + 1 + 1, 0, none⟩ (.bool true)) := Touch.ofSet W _ _ _ rfl
      have hKD : (W.setCell ⟨w.heap.size + 1 + 1, 0, none⟩ (.bool true)).heap[D]? = some (.deferred (some [])) := (hts.block D (lt_of_heap hK) (by omega)).trans hK
      have hM5 := hm.box hr (by decide) hts
      have HEND : Hid (Mo ((W.setCell ⟨w.heap.size + 1 + 1, 0, none⟩ (.bool true)).putObj D (.deferred none)) L g st F ∧ Touch (Dm L g st) w ((W.setCell ⟨w.heap.size + 1 + 1, 0, none⟩ (.bool true)).putObj D (.deferred none))) :=
        ⟨hM5.put hKD rfl (fun hd => by have := hlt2 D hd; omega) _, (hT.trans hts (fun i e => .inr (by have e2 : i = w.heap.size + 1 + 1 := e; omega))).put (by omega) _⟩
      have hcR : ((W.setCell ⟨w.heap.size + 1 + 1, 0, none⟩ (.bool true)).putObj D (.deferred none)).cell? ⟨w.heap.size + 1 + 1, 0, none⟩ = some (.bool true) := by
        rw [World.cell?_of_block (World.putObj_heap_other (by dsimp only; omega))]
        exact (hr.set (.bool true)).cell
      have HKD := hide hKD
      have HCR := hide hcR
      clear hy hm hv hr hc hT hK hKD hM5 hts hcR hM2 hlt2 h hs2 hsw hdl
      gi_wp2
      refine ⟨by simp, .inl ⟨_, _, rfl, run_takeDeferred HKD.out, ?_⟩⟩
      rw [HRD.out]
      exact ⟨.bool true, by simp [results, Tryz.results149, go_sem, HCR.out], rfl, HEND.out.1, HEND.out.2⟩
    case stop =>
      rintro D c pre W hD ⟨k, hk, hpe⟩ ⟨⟨rfl, pre0, x, e1, e2, e3, e4, e5⟩, hT⟩ hK
      have hRx : R = doneP i (placeOf st i x.1) (st, F) := by
        rw [HR.out]
        exact turnP_some i (st, F) N HN.out H3.out k pre0 x (by rw [← hpe]; exact e1) e2 e3
      rw [← hRx] at e4 e5
      have hLR : Lk st R.2.1 := by rw [hRx]; exact done_like i (placeOf st i x.1) (st, F)
      have hdl := HS2.out
      have HEND : Hid (Mo (W.putObj D (.deferred none)) L g R.2.1 R.2.2 ∧ Touch (Dm L g st) w (W.putObj D (.deferred none))) :=
        ⟨e4.put hK rfl (fun hd => by have := hlt2 D (Dm.like hLR hd); omega) _, hT.put (by omega) _⟩
      have hcR : (W.putObj D (.deferred none)).cell? ⟨w.heap.size + 1 + 1, 0, none⟩ = some (.bool R.1) := by
        rw [World.cell?_of_block (World.putObj_heap_other (by dsimp only; omega))]
        exact e5.cell
      have HKD := hide hK
      have HCR := hide hcR
      clear e1 e2 e3 e4 e5 hT hK hcR hM2 hlt2 h hs2 hsw hdl hRx hLR
      gi_wp2
      refine ⟨by simp, .inl ⟨_, _, rfl, run_takeDeferred HKD.out, ?_⟩⟩
      exact ⟨.bool R.1, by simp [results, Tryz.results149, go_sem, HCR.out], rfl, HEND.out.1, HEND.out.2⟩
end Go.Proofs.YtnjlbgolnbdkaaaGreat
/- The program's machine: the window's partition does an instruction; a region that draws and writes, in a round. -/
namespace Go.Proofs.YtnjlbgolnbdkaaaGreat
open Go.RowKit Go.Shelf

attribute [local go_sem] Oper.semAt_some

def WideF (F : Fence) : Prop := F = Fence.wide ∨ ∃ l, F = Fence.wide.inRound l
def noOut (Q : Exit → Act → World → Prop) : Exit → Act → World → Prop
  | .normal, a, w => Q .normal a w
  | _, _, _ => False
theorem noOut_normal {Q : Exit → Act → World → Prop} {a : Act} {w : World} (h : Q .normal a w) : noOut Q .normal a w := h
section
variable {F : Fence} {P : Program} {ops : Array Oper} {Q : Exit → Act → World → Prop} {md : Region.Mode} {S : World → Prop} {n : Nat}
theorem WideF.calls (hF : WideF F) {f : FuncId} {args : Array Value} {w : World} {R : Ending → World → Prop} (h : Calls P f args w R) : CallsIn F n P f args w R := by
  rcases hF with rfl | ⟨l, rfl⟩
  · exact callsIn_wide.2 h
  · exact CallsIn.inRound l (callsIn_wide.2 h)
theorem WideF.fn (hF : WideF F) (f : FuncId) : F.fn f := by
  rcases hF with rfl | ⟨l, rfl⟩
  · trivial
  · trivial
theorem WideF.depth (hF : WideF F) : F.depth.isSome = true → False := by
  rcases hF with rfl | ⟨l, rfl⟩ <;> intro e <;> simp [Fence.wide] at e
theorem WideF.rows (hF : WideF F) {row : String} {args : Array Value} {w : World} {R : Value → World → Prop} (h : Rows P row args w R) : RowsIn F n P row args w R := fun c cs _ => by
  obtain ⟨v, w', r, s⟩ := h c cs
  refine ⟨v, w', r, ?_⟩
  rcases hF with rfl | ⟨l, rfl⟩
  · exact stepsIn_wide.2 s
  · rw [fenced_inRound]
    exact stepsIn_wide.2 s
theorem wpIn_of_plain (hF : WideF F) {o : Oper} {a : Act} {w : World} {K : Act → World → Prop} (hd : ∀ c, o.op ≠ .defer c) (h : o.wp P a w K Q) : o.wpIn F n P a w K Q := by
  unfold Oper.wp at h
  unfold Oper.wpIn
  refine ⟨fun _ _ => hF.fn _, ?_⟩
  rw [semAt_any o a.eval hd]
  generalize (execOp a.eval o).run P w = r at *
  cases r with
  | ok x w' =>
    cases x <;> simp only [Oper.upon] at h <;> simp only [Oper.uponIn]
    case value u => exact h
    case skip => exact h
    case defer d => exact h
    case enter f args => exact ⟨fun e => (hF.depth e).elim, (hF.calls h).mono fun e w'' he => by cases e <;> exact he⟩
    case row row args => exact ⟨fun e => (hF.depth e).elim, hF.rows h⟩
  | halt x w' => cases x <;> simp only [Oper.upon] at h <;> simp only [Oper.uponIn] <;> exact h
theorem wpAnyIn_of_plain (hF : WideF F) (hd : ∀ (i : Nat) (o : Oper), ops[i]? = some o → ∀ c, o.op ≠ .defer c) (hQ : ¬ LetsOut Q) : ∀ (fuel : Nat) (listed : Array Bool) (a : Act) (w : World),
    wpAny P md ops Q fuel listed a w → wpAnyIn F n P md ops Q fuel listed a w
  | 0, _, _, _, h => h
  | fuel + 1, _, _, _, h => ⟨h.1, fun i hi => by
      have hh := h.2 i hi
      unfold wpOp at hh
      unfold wpOpIn
      split
      · rename_i ho
        simp only [ho] at hh
        exact wpAnyIn_of_plain hF hd hQ fuel _ _ _ hh
      · rename_i o ho
        simp only [ho] at hh
        split
        · rename_i hw
          simp only [hw, if_true] at hh
          rcases hh with hh | ⟨_, hh⟩
          · exact Oper.wpIn_mono (fun a' w' h' => wpAnyIn_of_plain hF hd hQ fuel _ a' w' h') (wpIn_of_plain hF (hd i o ho) hh)
          · exact (hQ hh).elim
        · rename_i hw
          simp only [hw] at hh
          exact ⟨fun _ _ => hF.fn _, wpAnyIn_of_plain hF hd hQ fuel _ _ _ hh⟩⟩
theorem region_held_in (hF : WideF F) {id : Nat} {a : Act} {w : World} {l : List Oper} (hd : noDefer l = true) (hm : P.follows .mixedOrders = true) (hS : S w.drew)
    (h : S w.drew → wpAnyH P .any l.toArray (noOut Q) S l.toArray.size (Array.replicate l.toArray.size false) a w.drew) : (Code.region id l.toArray true).wpIn F n P Q a w := by
  have h1 := wpAnyIn_of_plain (n := n) hF (noDefer_spec hd) (fun ⟨_, _, h⟩ => h) _ _ _ _ (wpAny_of_held _ _ _ _ (h hS))
  refine wpIn_mono (wpIn_region_any hm h1) (fun e a w h => ?_)
  cases e <;> first | exact h | exact h.elim
end

instance : Inhabited Wn := ⟨⟨0, 0, 0⟩⟩
theorem wins_get {st : RSt} (k : Nat) (hk : k < st.cf.wins.length) (f : Nat) (hf : f < 3) : (st.cf.wins.flatMap mwinCells)[k * 3 + f]? = (mwinCells (st.cf.wins.getD k default))[f]? :=
  flat_get mwinCells 3 (fun _ => rfl) st.cf.wins k _ (by rw [List.getD_eq_getElem?_getD, List.getElem?_eq_getElem hk]; rfl) f hf
def winP (s : SF) : Bool × SF :=
  match s.1.cf.wins.find? (inWin s.1.now s.1.cf.frame) with
  | none => (true, s)
  | some x => turnP x.part.toNat s
theorem turnP_like (i : Nat) (s : SF) : Lk s.1 (turnP i s).2.1 := by
  unfold turnP
  split
  · exact Lk.refl _
  · split
    · exact Lk.refl _
    · exact done_like _ _ _
theorem upto_all (N : Nat) : upto N N = List.finRange N := by unfold upto; rw [List.take_of_length_le (by simp)]
theorem find_none {α : Type} [Inhabited α] (f : α → Bool) (l : List α) (N : Nat) (hN : N = l.length) (h : ∀ q ∈ upto N N, f (l.getD q.1 default) = false) : l.find? f = none := by
  rw [List.find?_eq_none]
  intro x hx
  obtain ⟨k, hk, rfl⟩ := List.getElem_of_mem hx
  have := h ⟨k, by omega⟩ (by rw [upto_all]; exact List.mem_finRange _)
  rw [List.getD_eq_getElem?_getD, List.getElem?_eq_getElem hk] at this
  simpa using this
theorem find_some {α : Type} [Inhabited α] (f : α → Bool) (l : List α) (N : Nat) (hN : N = l.length) (k : Nat) (pre : List (Fin N)) (x : Fin N) (he : upto N k = pre ++ [x]) (h : ∀ q ∈ pre, f (l.getD q.1 default) = false) (hx : f (l.getD x.1 default) = true) : l.find? f = some (l.getD x.1 default) := by
  have e1 : l = (List.finRange N).map (fun q => l.getD q.1 default) := by
    subst hN
    exact List.ext_getElem (by simp) (fun k h1 h2 => by simp)
  have e2 : List.finRange N = pre ++ x :: (List.finRange N).drop k := by
    have : List.finRange N = upto N k ++ (List.finRange N).drop k := by
      unfold upto
      rw [List.take_append_drop]
    rw [he] at this
    simpa using this
  have e3 : l.find? f = ((pre ++ x :: (List.finRange N).drop k).map (fun q => l.getD q.1 default)).find? f := by rw [← e2, ← e1]
  rw [e3, List.map_append, List.map_cons, List.find?_append]
  have hn : (pre.map (fun q => l.getD q.1 default)).find? f = none := by
    rw [List.find?_eq_none]
    intro y hy
    obtain ⟨z, hz, rfl⟩ := List.mem_map.1 hy
    rw [h z hz]
    decide
  rw [hn]
  simp only [List.find?_cons, hx, Option.none_or]
set_option maxRecDepth 100000 in
set_option maxHeartbeats 4000000 in
theorem window_any (L : MLay) (g : Nat) (st : RSt) (F : Fl) (w : World) (h : Mo w L g st F) (hrun : StRun st) :
    Calls Tryz.prog 107 #[.pointer (some ⟨L.mb, 0, none⟩)] w fun e w' => e = .returned (.bool (winP (st, F)).1) ∧ Mo w' L g (winP (st, F)).2.1 (winP (st, F)).2.2 ∧ Touch (Dm L g st) w w' := by
  have hmx : Tryz.prog.follows .mixedOrders = true := by kernel_rfl
  obtain ⟨N, hN⟩ : ∃ N, N = st.cf.wins.length := ⟨_, rfl⟩
  obtain ⟨NP, hNP⟩ : ∃ NP, NP = st.parts.length := ⟨_, rfl⟩
  have hgd := h.ok.good
  have hN2 : N ≤ 1000 := by have := hgd.nwins; omega
  have hfr := hgd.frame
  have hnow := hrun.now
  obtain ⟨ph, hph⟩ : ∃ ph, ph = st.now % st.cf.frame := ⟨_, rfl⟩
  have hph2 : 0 ≤ ph ∧ ph < 64 := by
    have h1 := Int.emod_nonneg st.now (show st.cf.frame ≠ 0 by omega)
    have h2 := Int.emod_lt_of_pos st.now (show 0 < st.cf.frame by omega)
    omega
  have m1 := h.mach.machAt 1
  have m3 := h.mach.machAt 3
  have m4 := h.mach.machAt 4
  have m6 := h.mach.machAt 6
  simp only [List.getElem?_toArray, List.getElem?_cons_succ, List.getElem?_cons_zero] at m1 m3 m4 m6
  rw [← hNP] at m3
  rw [← hN] at m4
  have hlm := lt_of_cell m1
  refine (callsIn_wide (n := 8)).1 ?_
  refine callsIn_of_wp_marks Tryz.func107 rfl trivial ?_ rfl
  simp only [Tryz.ntmps107, List.size_toArray, List.length_cons, List.length_nil, Nat.reduceAdd, Nat.reduceSub, Array.replicate_succ, Array.replicate_zero, List.push_toArray, List.append_toArray, List.nil_append, List.cons_append]
  obtain ⟨R, hR⟩ : ∃ R, R = winP (st, F) := ⟨_, rfl⟩
  rw [← hR]
  have bA := Boxed.new w 74 (.pointer (some ⟨L.mb, 0, none⟩))
  have bR := Boxed.new (w.alloc (.cells #[.pointer (some ⟨L.mb, 0, none⟩)] 74)) 4 (.bool false)
  simp only [World.size_alloc] at bR
  obtain ⟨w1, hw1⟩ : ∃ w1, w1 = (w.alloc (.cells #[.pointer (some ⟨L.mb, 0, none⟩)] 74)).alloc (.cells #[.bool false] 4) := ⟨_, rfl⟩
  have hb1 : Below w.heap.size w w1 := by rw [hw1]; exact ((Below.refl _ _).alloc (Nat.le_refl _) _).alloc (by simp) _
  have hs1 : w1.heap.size = w.heap.size + 1 + 1 := by rw [hw1]; simp
  have hA1 : Boxed w1 w.heap.size 74 (.pointer (some ⟨L.mb, 0, none⟩)) := by rw [hw1]; exact bA.alloc _
  have hR1 : Boxed w1 (w.heap.size + 1) 4 (.bool false) := by rw [hw1]; exact bR
  have HW1 := hide hw1
  have hf0 : ¬ st.cf.frame = 0 := by omega
  have hrem : st.now.tmod st.cf.frame = ph := by rw [hph, Int.tmod_eq_emod_of_nonneg (by omega)]
  have hwr : IntKind.i64.wrap ph = ph := by rw [IntKind.wrap_i64]; omega
  have HPH := hide hph
  have u0 : w1.drew.cell? ⟨w.heap.size, 0, none⟩ = some (.pointer (some ⟨L.mb, 0, none⟩)) := hA1.cell
  have u1 : w1.drew.cell? ⟨L.mb, 1, none⟩ = some (.int .i64 st.cf.frame) := (hb1.cell (p := ⟨L.mb, 1, none⟩) hlm).trans m1
  have u6 : w1.drew.cell? ⟨L.mb, 6, none⟩ = some (.int .i64 st.now) := (hb1.cell (p := ⟨L.mb, 6, none⟩) hlm).trans m6
  obtain ⟨w3, hw3⟩ : ∃ w3, w3 = (w1.alloc (.cells #[.int .i64 ph] 3)).drew := ⟨_, rfl⟩
  have hb0 : Below w.heap.size w (w1.alloc (.cells #[.int .i64 0] 3)) := hb1.alloc (by omega) _
  have hb3 : Below w.heap.size w w3 := by rw [hw3]; exact (hb1.alloc (by omega) _).drew
  have hM3 : Mo w3 L g st F := h.mono hb3
  have hT3 : Touch (Dm L g st) w w3 := Touch.ofBelow hb3
  have hP3 : Boxed w3 (w.heap.size + 1 + 1) 3 (.int .i64 ph) := by rw [hw3, ← hs1]; exact Boxed.new w1 3 _
  have hA3 : Boxed w3 w.heap.size 74 (.pointer (some ⟨L.mb, 0, none⟩)) := by rw [hw3]; exact Boxed.alloc (W := w1) hA1 _
  have hR3 : Boxed w3 (w.heap.size + 1) 4 (.bool false) := by rw [hw3]; exact Boxed.alloc (W := w1) hR1 _
  have hs3 : w3.heap.size = w.heap.size + 3 := by
    rw [hw3]
    show (w1.alloc (.cells #[.int .i64 ph] 3)).heap.size = _
    rw [World.size_alloc]
    omega
  have HK1 : Hid ((w1.alloc (.cells #[.int .i64 0] 3)).cell? ⟨w.heap.size, 0, none⟩ = some (.pointer (some ⟨L.mb, 0, none⟩)) ∧ (w1.alloc (.cells #[.int .i64 0] 3)).cell? ⟨L.mb, 1, none⟩ = some (.int .i64 st.cf.frame) ∧ (w1.alloc (.cells #[.int .i64 0] 3)).cell? ⟨L.mb, 6, none⟩ = some (.int .i64 st.now)) := by
    have ma : Mo (w1.alloc (.cells #[.int .i64 0] 3)) L g st F := h.mono hb0
    have n1 := ma.mach.machAt 1
    have n6 := ma.mach.machAt 6
    simp only [List.getElem?_toArray, List.getElem?_cons_succ, List.getElem?_cons_zero] at n1 n6
    exact ⟨(Boxed.alloc (W := w1) hA1 _).cell, n1, n6⟩
  have HK2 : Hid (w3.cell? ⟨w.heap.size, 0, none⟩ = some (.pointer (some ⟨L.mb, 0, none⟩)) ∧ w3.cell? ⟨L.mb, 1, none⟩ = some (.int .i64 st.cf.frame) ∧ w3.cell? ⟨L.mb, 6, none⟩ = some (.int .i64 st.now)) := by
    have n1 := hM3.mach.machAt 1
    have n6 := hM3.mach.machAt 6
    simp only [List.getElem?_toArray, List.getElem?_cons_succ, List.getElem?_cons_zero] at n1 n6
    exact ⟨hA3.cell, n1, n6⟩
  have HW3 := hide hw3
  have HS1 := hide hs1
  have HM3 := hide hM3
  have HT3 := hide hT3
  have c3 : w3.cell? ⟨L.mb, 4, none⟩ = some (.slice (some ⟨L.wb, 0, none⟩) N N) := by
    have := hM3.mach.machAt 4
    simp only [List.getElem?_toArray, List.getElem?_cons_succ, List.getElem?_cons_zero] at this
    rw [← hN] at this
    exact this
  have a3 := hA3.cell
  have HA3 := hide hA3
  have HR3 := hide hR3
  have HP3 := hide hP3
  have HB := hide (And.intro hA1 hR1)
  have HN := hide hN
  have HNP := hide hNP
  have HGD := hide hgd
  have HS3 := hide hs3
  clear hN hNP hw1 bA bR hw3 hM3 hT3 hb3 hb0 hA3 hR3 hP3 hA1 hR1 hgd hs3 hph m1 m3 m4 m6
  gi_wp2_with fail
  rw [← HW1.out]
  refine region_held_in (.inl rfl) (S := (fun w' : World => w'.cell? ⟨w.heap.size, 0, none⟩ = some (.pointer (some ⟨L.mb, 0, none⟩)) ∧ w'.cell? ⟨L.mb, 1, none⟩ = some (.int .i64 st.cf.frame) ∧ w'.cell? ⟨L.mb, 6, none⟩ = some (.int .i64 st.now))) (by kernel_rfl) hmx ⟨u0, u1, u6⟩ (fun hHeld => ?_)
  refine wpAnyH_take (i := 0) (v := .pointer (some ⟨L.mb, 0, none⟩)) rfl (by kernel_rfl) (by kernel_rfl) (by kernel_rfl) (fun _ _ _ h => h.elim) (Or.inl ⟨by rfl, fun w hSw => by obtain ⟨s1, s2, s3⟩ := hSw; go_simp⟩) (by assumption) ?_
  go_simp
  refine wpAnyH_take (i := 1) (v := .pointer (some ⟨L.mb, 0, none⟩)) rfl (by kernel_rfl) (by kernel_rfl) (by kernel_rfl) (fun _ _ _ h => h.elim) (Or.inl ⟨by rfl, fun w hSw => by obtain ⟨s1, s2, s3⟩ := hSw; go_simp⟩) (by assumption) ?_
  go_simp
  refine wpAnyH_take (i := 2) (v := .pointer (some ⟨L.mb, 6, none⟩)) rfl (by kernel_rfl) (by kernel_rfl) (by kernel_rfl) (fun _ _ _ h => h.elim) (Or.inl ⟨by rfl, fun w hSw => by obtain ⟨s1, s2, s3⟩ := hSw; go_simp⟩) (by assumption) ?_
  go_simp
  refine wpAnyH_take (i := 3) (v := .int .i64 st.now) rfl (by kernel_rfl) (by kernel_rfl) (by kernel_rfl) (fun _ _ _ h => h.elim) (Or.inl ⟨by rfl, fun w hSw => by obtain ⟨s1, s2, s3⟩ := hSw; go_simp⟩) (by assumption) ?_
  go_simp
  refine wpAnyH_take (i := 4) (v := .pointer (some ⟨L.mb, 0, none⟩)) rfl (by kernel_rfl) (by kernel_rfl) (by kernel_rfl) (fun _ _ _ h => h.elim) (Or.inl ⟨by rfl, fun w hSw => by obtain ⟨s1, s2, s3⟩ := hSw; go_simp⟩) (by assumption) ?_
  go_simp
  refine wpAnyH_take (i := 5) (v := .pointer (some ⟨L.mb, 0, none⟩)) rfl (by kernel_rfl) (by kernel_rfl) (by kernel_rfl) (fun _ _ _ h => h.elim) (Or.inl ⟨by rfl, fun w hSw => by obtain ⟨s1, s2, s3⟩ := hSw; go_simp⟩) (by assumption) ?_
  go_simp
  refine wpAnyH_take (i := 6) (v := .pointer (some ⟨L.mb, 1, none⟩)) rfl (by kernel_rfl) (by kernel_rfl) (by kernel_rfl) (fun _ _ _ h => h.elim) (Or.inl ⟨by rfl, fun w hSw => by obtain ⟨s1, s2, s3⟩ := hSw; go_simp⟩) (by assumption) ?_
  go_simp
  refine wpAnyH_take (i := 7) (v := .int .i64 st.cf.frame) rfl (by kernel_rfl) (by kernel_rfl) (by kernel_rfl) (fun _ _ _ h => h.elim) (Or.inl ⟨by rfl, fun w hSw => by obtain ⟨s1, s2, s3⟩ := hSw; go_simp⟩) (by assumption) ?_
  go_simp
  refine wpAnyH_take (i := 8) (v := .int .i64 ph) rfl (by kernel_rfl) (by kernel_rfl) (by kernel_rfl) (fun _ _ _ h => h.elim) (Or.inl ⟨by rfl, fun w hSw => by obtain ⟨s1, s2, s3⟩ := hSw; go_simp⟩) (by assumption) ?_
  go_simp
  refine wpAnyH_ready (rs := [9]) (by kernel_rfl) (by simp) ?_
  refine AllReadyH.cons rfl (fun K hK => ?_) AllReadyH.nil
  go_simp
  refine hK.out _ _ HK1.out (fun hHeld => ?_)
  refine wpAnyH_ready (rs := [10]) (by kernel_rfl) (by simp) ?_
  refine AllReadyH.cons rfl (fun K hK => ?_) AllReadyH.nil
  go_simp
  rw [← HW3.out]
  refine hK.out _ _ HK2.out (fun hHeld => ?_)
  refine wpAnyH_done (by kernel_rfl) ?_ _
  refine noOut_normal ?_
  clear hHeld hK K u0 u1 u6 hrem hf0
  gi_wp2_with (refine ⟨trivial, ?_⟩; gi_at_call 148; refine (callsIn_wide.2 (winAll_any _ _ _)).mono ?_; rintro e w9 ⟨rfl, rfl⟩)
  have bC := Boxed.new w3 128 (.slice (some ⟨L.wb, 0, none⟩) N N)
  have hb2 : Below w3.heap.size w3 (w3.alloc (.cells #[.slice (some ⟨L.wb, 0, none⟩) N N] 128)) := (Below.refl _ _).alloc (Nat.le_refl _) _
  have hA2 := HA3.out.alloc (.cells #[.slice (some ⟨L.wb, 0, none⟩) N N] 128)
  have hP2 := HP3.out.alloc (.cells #[.slice (some ⟨L.wb, 0, none⟩) N N] 128)
  have hR2 := HR3.out.alloc (.cells #[.slice (some ⟨L.wb, 0, none⟩) N N] 128)
  have hM2 := HM3.out.mono hb2
  have hT2 : Touch (Dm L g st) w (w3.alloc (.cells #[.slice (some ⟨L.wb, 0, none⟩) N N] 128)) := HT3.out.andThen (Touch.ofBelow hb2)
  obtain ⟨w2, hw2⟩ : ∃ w2, w2 = w3.alloc (.cells #[.slice (some ⟨L.wb, 0, none⟩) N N] 128) := ⟨_, rfl⟩
  have hs2 : w2.heap.size = w3.heap.size + 1 := by rw [hw2]; simp
  rw [← hw2] at bC hb2 hA2 hP2 hR2 hM2 hT2 ⊢
  have hsw : w.heap.size + 3 = w3.heap.size := HS3.out.symm
  have HS2 : Hid (w2.heap.size = w.heap.size + 4) := by show _ = _; omega
  have hlt2 : ∀ b, Dm L g st b → b < w.heap.size := fun b hb => h.lt b hb
  obtain ⟨wn, hwn⟩ : ∃ wn : Nat → Wn, wn = fun q => st.cf.wins.getD q default := ⟨_, rfl⟩
  have HR := hide hR
  clear hw2 hR
  refine wpIn_rangeFunc_ownG rfl (by omega) (gf := 186) (lb := #[.pointer (some ⟨w3.heap.size, 0, none⟩)]) rfl trivial (enters_of Tryz.func186 (by kernel_rfl) rfl)
    (winAll_stops _ _ trivial rfl (by omega) N hN2 w3.heap.size L.wb w2 (by omega) bC) (fun h k => k.trans h) (fun W l o o' hl _ _ _ => World.putObj_heap_other (by omega)) (Below.refl _ _) (fun _ => rfl)
    (fun pre W => (∀ q ∈ pre, inWin st.now st.cf.frame (wn q.1) = false) ∧ Mo W L g st F ∧ Boxed W w.heap.size 74 (.pointer (some ⟨L.mb, 0, none⟩)) ∧ Boxed W (w.heap.size + 1 + 1) 3 (.int .i64 ph) ∧ Boxed W (w.heap.size + 1) 4 (.bool false) ∧ Boxed W w3.heap.size 128 (.slice (some ⟨L.wb, 0, none⟩) N N) ∧ Touch (Dm L g st) w W)
    (fun c pre W => (c = .ret ∧ ∃ pre0 x, pre = pre0 ++ [x] ∧ (∀ q ∈ pre0, inWin st.now st.cf.frame (wn q.1) = false) ∧ inWin st.now st.cf.frame (wn x.1) = true ∧ Mo W L g (turnP (wn x.1).part.toNat (st, F)).2.1 (turnP (wn x.1).part.toNat (st, F)).2.2 ∧ Boxed W (w.heap.size + 1) 4 (.bool (turnP (wn x.1).part.toNat (st, F)).1)) ∧ Touch (Dm L g st) w W)
    (OwnFrom.and (ownFrom_pure _ _) (OwnFrom.and (ownFrom_mo (fun _ => st) (fun _ => F) (fun _ b hb => by have := hlt2 b hb; omega)) (OwnFrom.and (Own.from (boxed_own _ _ _) _) (OwnFrom.and (Own.from (boxed_own _ _ _) _) (OwnFrom.and (Own.from (boxed_own _ _ _) _) (OwnFrom.and (Own.from (boxed_own _ _ _) _) (ownFrom_touch (by omega))))))))
    (fun c => OwnFrom.and ?ownx (ownFrom_touch (by omega)))
    ⟨fun q hq => (List.not_mem_nil hq).elim, hM2, hA2, hP2, hR2, bC, hT2⟩
    (fun q => { tmps := #[.pointer (some ⟨L.mb, 0, none⟩), .pointer (some ⟨w.heap.size, 0, none⟩), .pointer (some ⟨w.heap.size + 1, 0, none⟩), .pointer (some ⟨w.heap.size + 1 + 1, 0, none⟩), undef, .pointer (some ⟨L.wb, q.1 * 3, none⟩), .pointer (some ⟨L.mb, 0, none⟩), .pointer (some ⟨L.mb, 0, none⟩), .pointer (some ⟨L.mb, 6, none⟩), .int .i64 st.now, .pointer (some ⟨L.mb, 0, none⟩), .pointer (some ⟨L.mb, 0, none⟩), .pointer (some ⟨L.mb, 1, none⟩), .int .i64 st.cf.frame, .int .i64 ph, .pointer (some ⟨L.mb, 0, none⟩), .pointer (some ⟨L.mb, 0, none⟩), .pointer (some ⟨L.mb, 4, none⟩), .agg #[.slice (some ⟨L.wb, 0, none⟩) N N], .func (.func 186) #[] #[.pointer (some ⟨w3.heap.size, 0, none⟩)], .int .i64 q.1, .pointer (some ⟨L.wb, q.1 * 3, none⟩), undef, undef, undef, undef, undef, undef, undef, undef, undef, undef, undef, undef, undef, undef, undef, undef, undef, undef, undef, undef, undef, undef, undef, undef, undef, undef, undef, undef, undef, undef], defers := [] }) ?assign ?body ?done ?stop
  case ownx =>
    rintro pre W W2 row ⟨hc, pre0, x, e1, e2, e3, e4, e5⟩ hg hr
    refine ⟨hc, pre0, x, e1, e2, e3, ?_, e5.kept hg (fun e => ?_)⟩
    · exact ownFrom_mo (fun _ : Unit => (turnP (wn x.1).part.toNat (st, F)).2.1) (fun _ => (turnP (wn x.1).part.toNat (st, F)).2.2) (fun _ b hb => by have := hlt2 b (Dm.like (turnP_like _ (st, F)) hb); omega) () W W2 row e4 hg hr
    · obtain ⟨o, ho, hcc⟩ := (hr _ e.symm).2
      rw [show W.heap[w.heap.size + 1]? = _ from e5] at ho
      cases ho
      cases hcc
  case assign =>
    intro l q W K hK
    clear hs2 hsw
    gi_wp2
    exact hK
  case body =>
    rintro l pre q W ⟨hy, hm, hv, hp, hr, hc, hT⟩ hlt
    have hqn : q.1 < st.cf.wins.length := by rw [← HN.out]; exact q.2
    have hgw := HGD.out.wins (wn q.1) (by rw [hwn]; show st.cf.wins.getD q.1 default ∈ _; rw [List.getD_eq_getElem?_getD, List.getElem?_eq_getElem hqn]; exact List.getElem_mem _)
    have hin : inWin st.now st.cf.frame (wn q.1) = decide ((wn q.1).first ≤ ph ∧ ph < (wn q.1).first + (wn q.1).many) := by rw [HPH.out]; rfl
    have wcell : ∀ (W' : World) (st' : RSt) (F' : Fl), Mo W' L g st' F' → Lk st st' → ∀ f, f < 3 → W'.cell? ⟨L.wb, q.1 * 3 + f, none⟩ = (mwinCells (wn q.1))[f]? := fun W' st' F' hm' hl' f hf => by
      rw [cell_of_row _ _ _ _ _ _ hm'.mach.wins, List.getElem?_toArray, hl'.cf, wins_get q.1 hqn f hf, hwn]
    have x0 := wcell W st F hm (Lk.refl _) 0 (by omega)
    have x1 := wcell W st F hm (Lk.refl _) 1 (by omega)
    have x2 := wcell W st F hm (Lk.refl _) 2 (by omega)
    simp only [mwinCells, List.getElem?_cons_succ, List.getElem?_cons_zero, Nat.add_zero] at x0 x1 x2
    obtain ⟨m, hmd⟩ : ∃ m : Nat, m = (wn q.1).part.toNat := ⟨_, rfl⟩
    have hmi : (wn q.1).part = (m : Int) := by omega
    have hmN : m < st.parts.length := by have := h.ok.len; omega
    have hcf : HGD = HGD := rfl
    rw [hmi] at x0
    have HSC : Hid (∀ (W' : World) (st' : RSt) (F' : Fl), Mo W' L g st' F' → Lk st st' → Boxed W' w.heap.size 74 (.pointer (some ⟨L.mb, 0, none⟩)) → W'.cell? ⟨w.heap.size, 0, none⟩ = some (.pointer (some ⟨L.mb, 0, none⟩)) ∧ W'.cell? ⟨L.mb, 3, none⟩ = some (.slice (some ⟨L.pb, 0, none⟩) NP NP) ∧ W'.cell? ⟨L.wb, q.1 * 3, none⟩ = some (.int .i64 m)) := fun W' st' F' hm' hl' hbx => by
      refine ⟨hbx.cell, ?_, ?_⟩
      · have := hm'.mach.machAt 3
        simp only [List.getElem?_toArray, List.getElem?_cons_succ, List.getElem?_cons_zero] at this
        rw [hl'.len, ← HNP.out] at this
        exact this
      · have := wcell W' st' F' hm' hl' 0 (by omega)
        simp only [mwinCells, List.getElem?_cons_zero, Nat.add_zero, hmi] at this
        exact this
    have ea : IntKind.i64.wrap ((wn q.1).first + (wn q.1).many) = (wn q.1).first + (wn q.1).many := by rw [IntKind.wrap_i64]; omega
    have cph := hp.cell
    have HDN : Hid (∀ k, Mo (W.drewN k) L g st F) := fun k => hm.mono ⟨rfl, rfl, rfl, Nat.le_refl _, fun _ _ => rfl⟩
    have HGO : Hid (∀ k, inWin st.now st.cf.frame (wn q.1) = false → KeepsFrom w2.heap.size W (W.drewN k) ∧ (W.drewN k).heap[w3.heap.size]? = W.heap[w3.heap.size]? ∧ (∀ x ∈ pre ++ [q], inWin st.now st.cf.frame (wn x.1) = false) ∧ Mo (W.drewN k) L g st F ∧ Boxed (W.drewN k) w.heap.size 74 (.pointer (some ⟨L.mb, 0, none⟩)) ∧ Boxed (W.drewN k) (w.heap.size + 1 + 1) 3 (.int .i64 ph) ∧ Boxed (W.drewN k) (w.heap.size + 1) 4 (.bool false) ∧ Boxed (W.drewN k) w3.heap.size 128 (.slice (some ⟨L.wb, 0, none⟩) N N) ∧ Touch (Dm L g st) w (W.drewN k)) := fun k e => by
      refine ⟨⟨Nat.le_refl _, fun _ _ _ h0 _ => h0⟩, rfl, fun x hx => ?_, HDN.out k, hv, hp, hr, hc, hT.drewN2 k⟩
      rcases List.mem_append.1 hx with hx | hx
      · exact hy x hx
      · rw [List.mem_singleton.1 hx]
        exact e
    have HTU : Hid (∀ W', Mo W' L g st F → Calls Tryz.prog 149 #[.pointer (some ⟨L.mb, 0, none⟩), .pointer (some ⟨L.pb, m * 14, none⟩)] W' fun e w' => e = .returned (.bool (turnP m (st, F)).1) ∧ Mo w' L g (turnP m (st, F)).2.1 (turnP m (st, F)).2.2 ∧ Touch (Dm L g st) W' w') := fun W' h' => turn_any L g st F m W' h' hrun hmN
    have HPT : Hid (∀ W', Calls Tryz.prog 73 #[.agg #[.slice (some ⟨L.pb, 0, none⟩) NP NP], .int .i64 m] W' fun e w' => e = .returned (.pointer (some ⟨L.pb, m * 14, none⟩)) ∧ Below W'.heap.size W' w') := fun W' => partAt_any L.pb NP m W' (by rw [HNP.out]; exact hmN)
    have HY := hide hy
    have HM := hide hm
    have HV := hide hv
    have HRB := hide hr
    have HC := hide hc
    have HT := hide hT
    have HLT := hide hlt2
    have HH := hide h
    have HRN := hide hrun
    have HIN := hide hin
    have HMD := hide hmd
    have HMI := hide hmi
    clear hy hm hv hr hc hT hM2 hlt2 hs2 hsw hA2 hP2 hR2 bC hT2 hb1 hb2 h hrun hin hmd hcf wcell hgw hp hmi hwn
    by_cases h1 : (wn q.1).first ≤ ph
    · by_cases h2 : ph < (wn q.1).first + (wn q.1).many
      · have hb1' : decide ((wn q.1).first ≤ ph) = true := by simp [h1]
        have hb2' : decide (ph < (wn q.1).first + (wn q.1).many) = true := by simp [h2]
        have HT1 : Hid (inWin st.now st.cf.frame (wn q.1) = true) := by show _ = _; rw [HIN.out]; simp [h1, h2]
        clear h1 h2
        gi_wp2_with fail
        refine region_quiet_round (by kernel_rfl) hmx (by kernel_rfl) ?_
        repeat (refine wpQuietIn_step (fun _ _ _ _ => trivial) (fun K hK => ?_); go_simp; (refine hK _ ?_; clear hK K))
        refine wpQuietIn_nil ?_
        intro _ hw'
        obtain ⟨nq, hw''⟩ := hw'
        subst hw''
        gi_wp2_with fail
        refine region_held_in (.inr ⟨l, rfl⟩) (S := (fun w' : World => w'.cell? ⟨w.heap.size, 0, none⟩ = some (.pointer (some ⟨L.mb, 0, none⟩)) ∧ w'.cell? ⟨L.mb, 3, none⟩ = some (.slice (some ⟨L.pb, 0, none⟩) NP NP) ∧ w'.cell? ⟨L.wb, q.1 * 3, none⟩ = some (.int .i64 m))) (by kernel_rfl) hmx (HSC.out (W.drewN nq).drew st F (HDN.out (nq + 1)) (Lk.refl _) HV.out) (fun hHeld => ?_)
        refine wpAnyH_take (i := 0) (v := .pointer (some ⟨L.mb, 0, none⟩)) rfl (by kernel_rfl) (by kernel_rfl) (by kernel_rfl) (fun _ _ _ h => h.elim) (Or.inl ⟨by rfl, fun w hSw => by obtain ⟨s1, s2, s3⟩ := hSw; go_simp⟩) (by assumption) ?_
        go_simp
        refine wpAnyH_take (i := 1) (v := .pointer (some ⟨L.mb, 0, none⟩)) rfl (by kernel_rfl) (by kernel_rfl) (by kernel_rfl) (fun _ _ _ h => h.elim) (Or.inl ⟨by rfl, fun w hSw => by obtain ⟨s1, s2, s3⟩ := hSw; go_simp⟩) (by assumption) ?_
        go_simp
        refine wpAnyH_take (i := 2) (v := .pointer (some ⟨L.mb, 0, none⟩)) rfl (by kernel_rfl) (by kernel_rfl) (by kernel_rfl) (fun _ _ _ h => h.elim) (Or.inl ⟨by rfl, fun w hSw => by obtain ⟨s1, s2, s3⟩ := hSw; go_simp⟩) (by assumption) ?_
        go_simp
        refine wpAnyH_take (i := 3) (v := .pointer (some ⟨L.mb, 3, none⟩)) rfl (by kernel_rfl) (by kernel_rfl) (by kernel_rfl) (fun _ _ _ h => h.elim) (Or.inl ⟨by rfl, fun w hSw => by obtain ⟨s1, s2, s3⟩ := hSw; go_simp⟩) (by assumption) ?_
        go_simp
        refine wpAnyH_take (i := 4) (v := .agg #[.slice (some ⟨L.pb, 0, none⟩) NP NP]) rfl (by kernel_rfl) (by kernel_rfl) (by kernel_rfl) (fun _ _ _ h => h.elim) (Or.inl ⟨by rfl, fun w hSw => by obtain ⟨s1, s2, s3⟩ := hSw; go_simp⟩) (by assumption) ?_
        go_simp
        refine wpAnyH_take (i := 5) (v := .pointer (some ⟨L.wb, q.1 * 3, none⟩)) rfl (by kernel_rfl) (by kernel_rfl) (by kernel_rfl) (fun _ _ _ h => h.elim) (Or.inl ⟨by rfl, fun w hSw => by obtain ⟨s1, s2, s3⟩ := hSw; go_simp⟩) (by assumption) ?_
        go_simp
        refine wpAnyH_take (i := 6) (v := .pointer (some ⟨L.wb, q.1 * 3, none⟩)) rfl (by kernel_rfl) (by kernel_rfl) (by kernel_rfl) (fun _ _ _ h => h.elim) (Or.inl ⟨by rfl, fun w hSw => by obtain ⟨s1, s2, s3⟩ := hSw; go_simp⟩) (by assumption) ?_
        go_simp
        refine wpAnyH_take (i := 7) (v := .pointer (some ⟨L.wb, q.1 * 3, none⟩)) rfl (by kernel_rfl) (by kernel_rfl) (by kernel_rfl) (fun _ _ _ h => h.elim) (Or.inl ⟨by rfl, fun w hSw => by obtain ⟨s1, s2, s3⟩ := hSw; go_simp⟩) (by assumption) ?_
        go_simp
        refine wpAnyH_take (i := 8) (v := .int .i64 m) rfl (by kernel_rfl) (by kernel_rfl) (by kernel_rfl) (fun _ _ _ h => h.elim) (Or.inl ⟨by rfl, fun w hSw => by obtain ⟨s1, s2, s3⟩ := hSw; go_simp⟩) (by assumption) ?_
        go_simp
        refine wpAnyH_ready (rs := [9]) (by kernel_rfl) (by simp) ?_
        refine AllReadyH.cons rfl (fun K hK => ?_) AllReadyH.nil
        go_simp
        refine (HPT.out _).mono ?_
        rintro e W5 ⟨rfl, h51⟩
        have hM5 : Mo W5 L g st F := (HDN.out (nq + 1)).mono h51
        have hA5 : Boxed W5 w.heap.size 74 (.pointer (some ⟨L.mb, 0, none⟩)) := (h51.block _ HV.out.lt).trans HV.out
        refine hK.out _ _ (HSC.out W5 st F hM5 (Lk.refl _) hA5) (fun hHeld => ?_)
        clear hK K
        refine wpAnyH_ready (rs := [10]) (by kernel_rfl) (by simp) ?_
        refine AllReadyH.cons rfl (fun K hK => ?_) AllReadyH.nil
        go_simp
        refine (HTU.out W5 hM5).mono ?_
        rintro e W7 ⟨rfl, h71, h72⟩
        have h73 : Touch (Dm L g st) W W7 := (Touch.ofDrewN W (nq + 1)).andThen ((Touch.ofBelow h51).andThen h72)
        have kp7 : ∀ {x : Nat} {t : TypeId} {v : Value}, w.heap.size ≤ x → Boxed W x t v → Boxed W7 x t v := fun hx hbb => (h73.block _ hbb.lt (fun hd => by have := HLT.out _ hd; omega)).trans hbb
        have hl7 := turnP_like m (st, F)
        refine hK.out _ _ (HSC.out W7 _ _ h71 hl7 (kp7 (Nat.le_refl _) HV.out)) (fun hHeld => ?_)
        clear hK K
        have hbr : Boxed W7 (w.heap.size + 1) 4 (.bool false) := kp7 (by omega) HRB.out
        have cr := hbr.cell
        have fr := hbr.frozen
        have HEND : Hid (∀ bv, bv = (turnP m (st, F)).1 → KeepsFrom w2.heap.size W (W7.setCell ⟨w.heap.size + 1, 0, none⟩ (.bool bv)) ∧ (∃ pre0 x, pre ++ [q] = pre0 ++ [x] ∧ (∀ y ∈ pre0, inWin st.now st.cf.frame (wn y.1) = false) ∧ inWin st.now st.cf.frame (wn x.1) = true ∧ Mo (W7.setCell ⟨w.heap.size + 1, 0, none⟩ (.bool bv)) L g (turnP (wn x.1).part.toNat (st, F)).2.1 (turnP (wn x.1).part.toNat (st, F)).2.2 ∧ Boxed (W7.setCell ⟨w.heap.size + 1, 0, none⟩ (.bool bv)) (w.heap.size + 1) 4 (.bool (turnP (wn x.1).part.toNat (st, F)).1)) ∧ Touch (Dm L g st) w (W7.setCell ⟨w.heap.size + 1, 0, none⟩ (.bool bv)) ∧ Mo (W7.setCell ⟨w.heap.size + 1, 0, none⟩ (.bool bv)) L g (turnP m (st, F)).2.1 (turnP m (st, F)).2.2) := fun bv hbv => by
          have hts : Touch (· = w.heap.size + 1) W7 (W7.setCell ⟨w.heap.size + 1, 0, none⟩ (.bool bv)) := Touch.ofSet W7 _ _ _ rfl
          have hKF : KeepsFrom w2.heap.size W W7 := keepsFrom_touch h73 (fun b hb => by have := HLT.out b hb; have := HS2.out; omega)
          have hMB := h71.box hbr (by decide) hts
          refine ⟨⟨Nat.le_trans hKF.size hts.size, fun x o h0 h1 h2 => (hts.block x (lt_of_heap (hKF.same x o h0 h1 h2)) (by intro e; have e2 : x = w.heap.size + 1 := e; have := HS2.out; omega)).trans (hKF.same x o h0 h1 h2)⟩, ⟨pre, q, rfl, HY.out, HT1.out, ?_, ?_⟩, (HT.out.andThen h73).trans hts (fun i e => .inr (by have e2 : i = w.heap.size + 1 := e; omega)), hMB⟩
          · rw [← HMD.out]
            exact hMB
          · rw [← HMD.out, ← hbv]
            exact hbr.set _
        have hv7 : ∀ bv, Boxed (W7.setCell ⟨w.heap.size + 1, 0, none⟩ (.bool bv)) w.heap.size 74 (.pointer (some ⟨L.mb, 0, none⟩)) := fun bv => by
          have hts : Touch (· = w.heap.size + 1) W7 (W7.setCell ⟨w.heap.size + 1, 0, none⟩ (.bool bv)) := Touch.ofSet W7 _ _ _ rfl
          have hb7 := kp7 (Nat.le_refl _) HV.out
          exact (hts.block _ hb7.lt (by intro e; have e2 : w.heap.size = w.heap.size + 1 := e; omega)).trans hb7
        have HK8 : Hid (∀ bv, bv = (turnP m (st, F)).1 → (W7.setCell ⟨w.heap.size + 1, 0, none⟩ (.bool bv)).cell? ⟨w.heap.size, 0, none⟩ = some (.pointer (some ⟨L.mb, 0, none⟩)) ∧ (W7.setCell ⟨w.heap.size + 1, 0, none⟩ (.bool bv)).cell? ⟨L.mb, 3, none⟩ = some (.slice (some ⟨L.pb, 0, none⟩) NP NP) ∧ (W7.setCell ⟨w.heap.size + 1, 0, none⟩ (.bool bv)).cell? ⟨L.wb, q.1 * 3, none⟩ = some (.int .i64 m)) := fun bv hbv => HSC.out _ _ _ (HEND.out bv hbv).2.2.2 hl7 (hv7 bv)
        clear h71 h72 h73 kp7 hbr hl7 hv7 hM5 hA5 h51
        generalize (turnP m (st, F)).1 = dv at *
        refine wpAnyH_ready (rs := [11]) (by kernel_rfl) (by simp) ?_
        refine AllReadyH.cons rfl (fun K hK => ?_) AllReadyH.nil
        go_simp
        refine hK.out _ _ (HK8.out dv rfl) (fun hHeld => ?_)
        clear hK K
        refine wpAnyH_done (by kernel_rfl) ?_ _
        refine noOut_normal ?_
        gi_wp2
        have hh := HEND.out dv rfl
        exact ⟨hh.1, ⟨rfl, hh.2.1⟩, hh.2.2.1⟩
      · have hb1' : decide ((wn q.1).first ≤ ph) = true := by simp [h1]
        have hb2' : decide (ph < (wn q.1).first + (wn q.1).many) = false := by simp; omega
        have HT1 : Hid (inWin st.now st.cf.frame (wn q.1) = false) := by show _ = _; rw [HIN.out]; simp [h2]
        clear h1 h2
        gi_wp2_with fail
        refine region_quiet_round (by kernel_rfl) hmx (by kernel_rfl) ?_
        repeat (refine wpQuietIn_step (fun _ _ _ _ => trivial) (fun K hK => ?_); go_simp; (refine hK _ ?_; clear hK K))
        refine wpQuietIn_nil ?_
        intro _ hw'
        obtain ⟨nq, hw''⟩ := hw'
        subst hw''
        gi_wp2
        exact HGO.out _ HT1.out
    · have hb1' : decide ((wn q.1).first ≤ ph) = false := by simp; omega
      have HT1 : Hid (inWin st.now st.cf.frame (wn q.1) = false) := by show _ = _; rw [HIN.out]; simp [h1]
      clear h1
      gi_wp2_with fail
      refine region_quiet_round (by kernel_rfl) hmx (by kernel_rfl) ?_
      repeat (refine wpQuietIn_step (fun _ _ _ _ => trivial) (fun K hK => ?_); go_simp; (refine hK _ ?_; clear hK K))
      refine wpQuietIn_nil ?_
      intro _ hw'
      obtain ⟨nq, hw''⟩ := hw'
      subst hw''
      gi_wp2
      exact HGO.out _ HT1.out
  case done =>
    rintro D ys W hD rfl ⟨hy, hm, hv, hp, hr, hc, hT⟩ hK
    have HRD : Hid (R = (true, st, F)) := by
      show _ = _
      rw [HR.out]
      unfold winP
      rw [find_none (inWin st.now st.cf.frame) st.cf.wins N HN.out (by rw [hwn] at hy; exact hy)]
    have cr := hr.cell
    have fr := hr.frozen
    have hdl := HS2.out
    have hts : Touch (· = w.heap.size + 1) W (W.setCell ⟨w.heap.size + 1, 0, none⟩ (.bool true)) := Touch.ofSet W _ _ _ rfl
    have hKD : (W.setCell ⟨w.heap.size + 1, 0, none⟩ (.bool true)).heap[D]? = some (.deferred (some [])) := (hts.block D (lt_of_heap hK) (by omega)).trans hK
    have hM5 := hm.box hr (by decide) hts
    have HEND : Hid (Mo ((W.setCell ⟨w.heap.size + 1, 0, none⟩ (.bool true)).putObj D (.deferred none)) L g st F ∧ Touch (Dm L g st) w ((W.setCell ⟨w.heap.size + 1, 0, none⟩ (.bool true)).putObj D (.deferred none))) :=
      ⟨hM5.put hKD rfl (fun hd => by have := hlt2 D hd; omega) _, (hT.trans hts (fun i e => .inr (by have e2 : i = w.heap.size + 1 := e; omega))).put (by omega) _⟩
    have hcR : ((W.setCell ⟨w.heap.size + 1, 0, none⟩ (.bool true)).putObj D (.deferred none)).cell? ⟨w.heap.size + 1, 0, none⟩ = some (.bool true) := by
      rw [World.cell?_of_block (World.putObj_heap_other (by dsimp only; omega))]
      exact (hr.set (.bool true)).cell
    have HKD := hide hKD
    have HCR := hide hcR
    clear hy hm hv hp hr hc hT hK hKD hM5 hts hcR hM2 hlt2 h hs2 hsw hdl
    gi_wp2
    refine ⟨by simp, .inl ⟨_, _, rfl, run_takeDeferred HKD.out, ?_⟩⟩
    rw [HRD.out]
    exact ⟨.bool true, by simp [results, Tryz.results107, go_sem, HCR.out], rfl, HEND.out.1, HEND.out.2⟩
  case stop =>
    rintro D c pre W hD ⟨k, hk, hpe⟩ ⟨⟨rfl, pre0, x, e1, e2, e3, e4, e5⟩, hT⟩ hK
    have hRx : R = turnP (wn x.1).part.toNat (st, F) := by
      rw [HR.out]
      unfold winP
      rw [hwn] at e2 e3 ⊢
      rw [find_some (inWin st.now st.cf.frame) st.cf.wins N HN.out k pre0 x (by rw [← hpe]; exact e1) e2 e3]
    rw [← hRx] at e4 e5
    have hLR : Lk st R.2.1 := by rw [hRx]; exact turnP_like _ (st, F)
    have hdl := HS2.out
    have HEND : Hid (Mo (W.putObj D (.deferred none)) L g R.2.1 R.2.2 ∧ Touch (Dm L g st) w (W.putObj D (.deferred none))) :=
      ⟨e4.put hK rfl (fun hd => by have := hlt2 D (Dm.like hLR hd); omega) _, hT.put (by omega) _⟩
    have hcR : (W.putObj D (.deferred none)).cell? ⟨w.heap.size + 1, 0, none⟩ = some (.bool R.1) := by
      rw [World.cell?_of_block (World.putObj_heap_other (by dsimp only; omega))]
      exact e5.cell
    have HKD := hide hK
    have HCR := hide hcR
    clear e1 e2 e3 e4 e5 hT hK hcR hM2 hlt2 h hs2 hsw hdl hRx hLR
    gi_wp2
    refine ⟨by simp, .inl ⟨_, _, rfl, run_takeDeferred HKD.out, ?_⟩⟩
    exact ⟨.bool R.1, by simp [results, Tryz.results107, go_sem, HCR.out], rfl, HEND.out.1, HEND.out.2⟩
end Go.Proofs.YtnjlbgolnbdkaaaGreat
/- Ticks, plain: the program's way is the model's; numbers stay in their bounds. Plain. -/
namespace Go.Proofs.YtnjlbgolnbdkaaaGreat
open Go.RowKit

section
variable {st : RSt} {i n : Nat}
theorem RSt.proc_set (hi : i < st.parts.length) (hn : n < (st.part i).procs.length) (x : RProc) : (st.setProc i n x).proc i n = x := by
  unfold RSt.proc RSt.setProc
  rw [RSt.part_set hi]
  simp [List.getD_eq_getElem?_getD, hn]
theorem RSt.part_setProc (hi : i < st.parts.length) (x : RProc) : (st.setProc i n x).part i = { st.part i with procs := (st.part i).procs.set n x } := by
  unfold RSt.setProc
  rw [RSt.part_set hi]
theorem RSt.setProc_set (hi : i < st.parts.length) (x y : RProc) : (st.setProc i n x).setProc i n y = st.setProc i n y := by
  show (st.setProc i n x).setPart i { (st.setProc i n x).part i with procs := ((st.setProc i n x).part i).procs.set n y } = _
  rw [RSt.part_setProc hi]
  simp only [List.set_set]
  exact RSt.setPart_set _ _ _ _
theorem StOk.queues (ho : StOk st) (q : List (List Int)) (hq : q.length = st.queues.length) : StOk { st with queues := q } := ⟨ho.good, ho.len, ho.part, hq.trans ho.qlen⟩
theorem StOk.setProc (ho : StOk st) (x : RProc) : StOk (st.setProc i n x) := ho.setPart i _ rfl (by simp)
end
def RunOk (F : Fl) (r : Int × RSt) : Prop := SRun (r.2, F)
theorem doS_run (F : Fl) (i n : Nat) (op : Int) (a : Nat) (rc : Int) (st : RSt) (h : SRun (st, F)) (hi : i < st.parts.length) (hn : n < (st.part i).procs.length) (ha : a ≤ 255) (h4 : op = 4 → a < (st.codeOf i n).length) : RunOk F (doS F.bs i n op a rc st) := by
  have hr : StRun st := h.1
  have ho : StOk st := h.2
  have hx := hr.proc i n hi hn
  have hc := ho.codeLen i n hi hn
  have hnw := hr.now
  have mp : ∀ (c : Int) (x : RProc), PrRun (st.codeOf i n).length st.now x → RunOk F (c, st.setProc i n x) := fun _ x hx => ⟨hr.setProc i n x hi hx, ho.setProc x⟩
  have m3 : ∀ (c : Int), RunOk F (c, st) := fun _ => ⟨hr, ho⟩
  have ma : ∀ (c : Int) (v : Int), RunOk F (c, st.setProc i n { st.proc i n with acc := v }) := fun c v => mp c _ ⟨hx.next, hx.til, hx.dl⟩
  have mw : ∀ (c : Int) (v : Int), RunOk F (c, st.setPart i { st.part i with words := (st.part i).words.set a v }) := fun c v => ⟨hr.setPart i _ hi (hr.watch i hi) (fun k hk => hr.proc i k hi hk), ho.setPart i _ (by simp) rfl⟩
  unfold doS accessS sendS countS
  by_cases c0 : op = 1
  · rw [if_pos c0]
    exact ma _ _
  rw [if_neg c0]
  by_cases c1 : op = 2 ∨ op = 3 ∨ op = 12
  · rw [if_pos c1]
    repeat' (first | exact ma _ _ | exact mw _ _ | exact m3 _ | apply ite_both)
  rw [if_neg c1]
  by_cases c2 : op = 4
  · rw [if_pos c2]
    have h4' := c2
    show RunOk F (-1, if _ then _ else _)
    split
    · refine mp _ _ ⟨⟨Int.natCast_nonneg a, by show (a : Int) ≤ 1000; omega, .inr (by show (a : Int) < _; have := h4 h4'; omega)⟩, hx.til, hx.dl⟩
    · exact m3 _
  rw [if_neg c2]
  by_cases c3 : op = 5
  · rw [if_pos c3]
    exact mp _ _ ⟨hx.next, ⟨by show (0 : Int) ≤ st.now + a; omega, by show st.now + (a : Int) ≤ st.now + 255; omega⟩, hx.dl⟩
  rw [if_neg c3]
  by_cases c4 : op = 6
  · rw [if_pos c4]
    split
    · refine ⟨⟨hr.now, hr.watch, hr.proc, fun j hj => ?_⟩, ho.queues _ ?_⟩
      · have := hr.queue j hj
        show (((if _ then _ else _ : List (List Int)).getD j []).length : Int) ≤ (st.cf.chans.getD j default).depth
        split
        · rename_i hlt
          by_cases e : a = j
          · subst e
            by_cases hal : a < st.queues.length
            · have e1 : (st.queues.set a (st.queues.getD a [] ++ [(st.proc i n).acc])).getD a [] = st.queues.getD a [] ++ [(st.proc i n).acc] := by
                rw [List.getD_eq_getElem?_getD, List.getElem?_set_self hal]
                rfl
              rw [e1, List.length_append]
              simp only [List.length_cons, List.length_nil]
              omega
            · rw [List.set_eq_of_length_le (by omega)]
              exact this
          · have e1 : (st.queues.set a (st.queues.getD a [] ++ [(st.proc i n).acc])).getD j [] = st.queues.getD j [] := by
              rw [List.getD_eq_getElem?_getD, List.getElem?_set_ne e, ← List.getD_eq_getElem?_getD]
            rw [e1]
            exact this
        · exact this
      · show (if _ then _ else _ : List (List Int)).length = _
        split <;> simp
    · exact m3 _
  rw [if_neg c4]
  by_cases c5 : op = 7
  · rw [if_pos c5]
    repeat' (first | exact ma _ _ | exact m3 _ | apply ite_both)
  rw [if_neg c5]
  by_cases c6 : op = 8
  · rw [if_pos c6]
    exact m3 _
  rw [if_neg c6]
  by_cases c7 : op = 9
  · rw [if_pos c7]
    exact ⟨hr.watched i hi, ho.setPart i _ rfl rfl⟩
  rw [if_neg c7]
  by_cases c8 : op = 10
  · rw [if_pos c8]
    exact mp _ _ ⟨⟨hx.next.1, hx.next.2.1, .inl rfl⟩, hx.til, hx.dl⟩
  rw [if_neg c8]
  by_cases c9 : op = 11
  · rw [if_pos c9]
    refine mp _ _ ⟨hx.next, hx.til, ?_⟩
    have key : ∀ z : Int, z = -1 ∨ (1 ≤ z ∧ z ≤ st.now + 255) → -1 ≤ z ∧ z ≤ st.now + 255 ∧ z ≠ 0 := fun z hz => ⟨by omega, by omega, by omega⟩
    refine key (if a = 0 then -1 else st.now + a) ?_
    by_cases e : a = 0
    · rw [if_pos e]; exact .inl rfl
    · rw [if_neg e]; exact .inr ⟨by omega, by omega⟩
  rw [if_neg c9]
  by_cases c10 : op = 13
  · rw [if_pos c10]
    repeat' (first | exact ma _ _ | exact m3 _ | apply ite_both)
  rw [if_neg c10]
  exact m3 _
theorem stepF_run (F : Fl) (i n : Nat) (rc : Int) (st : RSt) (h : SRun (st, F)) (hi : i < st.parts.length) (hn : n < (st.part i).procs.length) (hgo : (st.proc i n).stopped = false) : SRun (stepF i n rc (st, F)).2 := by
  have hr : StRun st := h.1
  have ho : StOk st := h.2
  have hx := hr.proc i n hi hn
  have hnx : (st.proc i n).next < (st.codeOf i n).length := by
    rcases hx.next.2.2 with h1 | h1
    · rw [hgo] at h1; cases h1
    · exact h1
  have hc := ho.codeLen i n hi hn
  have hg := ins_good ho i n (st.proc i n).next.toNat hi hn (by have := hx.next.1; omega)
  have h1 : SRun (st.setProc i n (st.follow i n ((st.proc i n).next + 1)), F) := by
    refine ⟨h.1.setProc i n _ hi ⟨⟨?_, ?_, ?_⟩, hx.til, hx.dl⟩, h.2.setProc _⟩
    · show 0 ≤ (st.proc i n).next + 1
      have := hx.next.1
      omega
    · show (st.proc i n).next + 1 ≤ 1000
      omega
    · show decide (((st.codeOf i n).length : Int) ≤ (st.proc i n).next + 1) = true ∨ (st.proc i n).next + 1 < (st.codeOf i n).length
      by_cases e : ((st.codeOf i n).length : Int) ≤ (st.proc i n).next + 1
      · exact .inl (by simpa using e)
      · exact .inr (by omega)
  have hl1 := setProc_like st i n (st.follow i n ((st.proc i n).next + 1))
  have h2 : SRun ((stepP i n rc (st, F)).2, F) := by
    refine doS_run F i n _ _ rc _ h1 (by rw [hl1.2.1]; exact hi) (by rw [hl1.2.2]; exact hn) ?_ ?_
    · show (insOf st i n).2.toNat ≤ 255
      have := hg.2.1
      unfold insOf
      omega
    · intro h4
      have e1 : (st.setProc i n (st.follow i n ((st.proc i n).next + 1))).codeOf i n = st.codeOf i n := by unfold RSt.codeOf RSt.cpart; rw [hl1.1]
      rw [e1]
      have h5 := hg.2.2 h4
      have := hg.2.1.1
      show (insOf st i n).2.toNat < _
      unfold insOf
      omega
  have hlk : Lk st (stepP i n rc (st, F)).2 := (Lk.setProc _ _ _ _).trans (doS_like _ _ _ _ _ _ _)
  unfold stepF
  split
  · exact h2
  · exact h2.fault i n _ (by rw [hlk.len]; exact hi) (by rw [hlk.procs h.2 h2.2 i hi]; exact hn)
theorem recv_ok (i n : Nat) (st : RSt) (h : StOk st) : StOk (recvS i n st).2 := by
  unfold recvS
  split
  · split
    · exact h
    · exact h.queues _ (by simp)
  · exact h
theorem turnP_run (F : Fl) (i : Nat) (st : RSt) (h : SRun (st, F)) (hi : i < st.parts.length) : SRun (turnP i (st, F)).2 := by
  unfold turnP
  split
  · exact h
  · split
    · exact h
    · rename_i q hq
      have hm := List.mem_of_find?_eq_some hq
      have hp := List.find?_some hq
      have hpl := (place_lt st h.2 i q hi (by simpa using hm)).1
      have hgo : (st.proc i (placeOf st i q)).stopped = false := by
        have hp2 : readyP i (placeOf st i q) st = true := hp
        unfold readyP at hp2
        simp only [Bool.and_eq_true, Bool.not_eq_true'] at hp2
        exact hp2.1.1
      have hpt := recv_parts i (placeOf st i q) st
      have hpp : (recvS i (placeOf st i q) st).2.part i = st.part i := by unfold RSt.part; rw [hpt]
      have hpr : (recvS i (placeOf st i q) st).2.proc i (placeOf st i q) = st.proc i (placeOf st i q) := by unfold RSt.proc; rw [hpp]
      exact stepF_run F i _ _ _ ⟨recv_run i _ st h.1, recv_ok i _ st h.2⟩ (by rw [hpt]; exact hi) (by rw [hpp]; exact hpl) (by rw [hpr]; exact hgo)
theorem winP_run (F : Fl) (st : RSt) (h : SRun (st, F)) : SRun (winP (st, F)).2 := by
  unfold winP
  split
  · exact h
  · rename_i x hx
    have ho : StOk st := h.2
    have := ho.good.wins x (List.mem_of_find?_eq_some hx)
    have hl := ho.len
    exact turnP_run F _ st h (by omega)
theorem deadS_run (s : SF) (h : SRun s) : SRun (deadS s).2 := by
  unfold deadS
  rw [← loopL_upto latesS s.1.parts.length s _ (Nat.le_refl _)]
  exact SRun.loopL latesS Lk.lates (fun k s hs hk => hs.lates k hk) s rfl _ _ h (Lk.refl _)
theorem watchesS_run (s : SF) (h : SRun s) : SRun (watchesS s).2 := by
  unfold watchesS
  split
  · exact h
  · rw [← loopL_upto watchS s.1.parts.length s _ (Nat.le_refl _)]
    exact SRun.loopL watchS Lk.watch (fun k s hs hk => hs.watch k hk) s rfl _ _ h (Lk.refl _)
def tickP (s : SF) : Bool × SF := andB (andB (deadS s) watchesS) winP
theorem andB_run (r : Bool × SF) (f : SF → Bool × SF) (h : SRun r.2) (hf : ∀ s, SRun s → SRun (f s).2) : SRun (andB r f).2 := andB_ok SRun h hf
theorem tickP_run (s : SF) (h : SRun s) : SRun (tickP s).2 := andB_run _ _ (andB_run _ _ (deadS_run s h) watchesS_run) (fun s h => winP_run s.2 s.1 h)
theorem SRun.later {s : SF} (h : SRun s) (hn : s.1.now + 1 ≤ 1000000000000) : SRun ({ s.1 with now := s.1.now + 1 }, s.2) := by
  refine ⟨⟨⟨by have := h.1.now; show 0 ≤ s.1.now + 1; omega, hn⟩, fun i hi => ?_, fun i n hi hn => ?_, h.1.queue⟩, ⟨h.2.good, h.2.len, h.2.part, h.2.qlen⟩⟩
  · have := h.1.watch i hi
    exact ⟨this.1, by show _ ≤ s.1.now + 1; have := this.2; show (s.1.part i).watch ≤ _; omega⟩
  · have := h.1.proc i n hi hn
    refine ⟨this.next, ⟨this.til.1, ?_⟩, this.dl.1, ?_, this.dl.2.2⟩
    · have := this.til.2
      show (s.1.proc i n).til ≤ s.1.now + 1 + 255
      omega
    · have := this.dl.2.1
      show (s.1.proc i n).dl ≤ s.1.now + 1 + 255
      omega
end Go.Proofs.YtnjlbgolnbdkaaaGreat
/- The program's machine: a tick. -/
namespace Go.Proofs.YtnjlbgolnbdkaaaGreat
open Go.RowKit Go.Shelf

theorem deadS_like (s : SF) : Lk s.1 (deadS s).2.1 := Lk.loopB latesS Lk.lates _ s
theorem watchesS_like (s : SF) : Lk s.1 (watchesS s).2.1 := by
  unfold watchesS
  split
  · exact Lk.refl _
  · exact Lk.loopB watchS Lk.watch _ s
theorem winP_like (s : SF) : Lk s.1 (winP s).2.1 := by
  unfold winP
  split
  · exact Lk.refl _
  · exact turnP_like _ s
set_option maxRecDepth 100000 in
set_option maxHeartbeats 4000000 in
theorem mtick_any (L : MLay) (g : Nat) (st : RSt) (F : Fl) (w : World) (h : Mo w L g st F) (hrun : StRun st) :
    Calls Tryz.prog 71 #[.pointer (some ⟨L.mb, 0, none⟩)] w fun e w' => e = .returned (.bool (tickP (st, F)).1) ∧ Mo w' L g (tickP (st, F)).2.1 (tickP (st, F)).2.2 ∧ Touch (Dm L g st) w w' := by
  have H1 := hide (deadlines_any L g st F w h hrun)
  have HR := hide (deadS_run (st, F) ⟨hrun, h.ok⟩)
  have HL := hide (deadS_like (st, F))
  have HT : Hid (tickP (st, F) = andB (andB (deadS (st, F)) watchesS) winP) := rfl
  obtain ⟨R, hR⟩ : ∃ R, R = tickP (st, F) := ⟨_, rfl⟩
  rw [← hR] at HT ⊢
  clear hR h hrun
  obtain ⟨r1, hr1⟩ : ∃ r1, r1 = deadS (st, F) := ⟨_, rfl⟩
  rw [← hr1] at H1 HR HL HT
  clear hr1
  obtain ⟨b1, s1, F1⟩ := r1
  simp only at *
  go_enter Tryz.func71, Tryz.ntmps71
  go_wp2_with fail
  refine H1.out.mono ?_
  rintro e w1 ⟨rfl, h1, t1⟩
  cases b1 with
  | false =>
    have HE := hide (And.intro h1 t1)
    clear h1 t1
    rw [andB_no, andB_no] at HT
    go_wp2
    go_ret
    rw [HT.out]
    exact ⟨rfl, HE.out.1, HE.out.2⟩
  | true =>
    have H2 := hide (watches_any L g s1 F1 w1 h1 HR.out.1)
    have HR2 := hide (watchesS_run (s1, F1) HR.out)
    have HL2 := hide (watchesS_like (s1, F1))
    rw [andB_yes] at HT
    obtain ⟨r2, hr2⟩ : ∃ r2, r2 = watchesS (s1, F1) := ⟨_, rfl⟩
    rw [← hr2] at H2 HR2 HL2 HT
    have HTT := hide t1
    clear hr2 h1 t1
    obtain ⟨b2, s2, F2⟩ := r2
    simp only at *
    go_wp2_with fail
    refine H2.out.mono ?_
    rintro e w2 ⟨rfl, h2, t2⟩
    have t2' : Touch (Dm L g st) w w2 := HTT.out.andThen (t2.to (fun b hb => Dm.like HL.out hb))
    cases b2 with
    | false =>
      have HE := hide (And.intro h2 t2')
      clear h2 t2 t2'
      rw [andB_no] at HT
      go_wp2
      go_ret
      rw [HT.out]
      exact ⟨rfl, HE.out.1, HE.out.2⟩
    | true =>
      have H3 := hide (window_any L g s2 F2 w2 h2 HR2.out.1)
      rw [andB_yes] at HT
      obtain ⟨r3, hr3⟩ : ∃ r3, r3 = winP (s2, F2) := ⟨_, rfl⟩
      rw [← hr3] at H3 HT
      have HTT2 := hide t2'
      clear hr3 h2 t2 t2'
      obtain ⟨b3, s3, F3⟩ := r3
      simp only at *
      go_wp2_with fail
      refine H3.out.mono ?_
      rintro e w3 ⟨rfl, h3, t3⟩
      have t3' : Touch (Dm L g st) w w3 := HTT2.out.andThen (t3.to (fun b hb => Dm.like (HL.out.trans HL2.out) hb))
      have HE := hide (And.intro h3 t3')
      clear h3 t3 t3'
      go_wp2
      go_ret
      rw [HT.out]
      exact ⟨rfl, HE.out.1, HE.out.2⟩
end Go.Proofs.YtnjlbgolnbdkaaaGreat
/- Ticks, plain: the program's turn is the model's. Plain. -/
namespace Go.Proofs.YtnjlbgolnbdkaaaGreat
open Go.RowKit

theorem readyP_eq (i n : Nat) (st : RSt) (h3 : (st.part i).mode ≠ 3) : readyP i n st = readyS st i n := by
  unfold readyP readyS recvS
  generalize insOf st i n = A
  obtain ⟨op, a⟩ := A
  simp only
  by_cases h7 : op = 7
  · subst h7
    cases hm : mineTo st i a
    · simp [h3]
    · generalize st.queues.getD a.toNat [] = q
      cases q
      · simp
      · simp [h3]
  · have e7 : (op == 7) = false := by simp [h7]
    rw [e7]
    simp [h3, h7]
def stepC (bs : List Int) (i n : Nat) (op a : Int) (st : RSt) : Int × RSt :=
  let x : RProc := st.follow i n (if op = 4 ∧ (st.proc i n).acc ≠ 0 then a else (st.proc i n).next + 1)
  let st1 := st.setProc i n x
  if op = 1 then (-1, st.setProc i n { x with acc := IntKind.i64.wrap (x.acc + (if a > 127 then a - 256 else a)) })
  else if op = 2 then if a < (st.part i).words.length then (-1, st1.setPart i { st1.part i with words := (st.part i).words.set a.toNat x.acc }) else (0, st1)
  else if op = 3 then if a < (st.part i).words.length then (-1, st.setProc i n { x with acc := (st.part i).words.getD a.toNat 0 }) else (0, st1)
  else if op = 12 then if a < (st.part i).words.length then (if (st.part i).words.getD a.toNat 0 = 0 then (1, st1) else (-1, st.setProc i n { x with acc := quot64 x.acc ((st.part i).words.getD a.toNat 0) })) else (0, st1)
  else if op = 5 then (-1, st.setProc i n { x with til := st.now + a })
  else if op = 6 then if mineFrom st i a = true then (-1, { st1 with queues := if ((st.queues.getD a.toNat []).length : Int) < (st.cf.chans.getD a.toNat default).depth then st.queues.set a.toNat (st.queues.getD a.toNat [] ++ [x.acc]) else st.queues }) else (4, st1)
  else if op = 7 then if mineTo st i a = true then (-1, { st.setProc i n { x with acc := (st.queues.getD a.toNat []).headD 0 } with queues := st.queues.set a.toNat (st.queues.getD a.toNat []).tail }) else (4, st1)
  else if op = 8 then (3, st1)
  else if op = 9 then (-1, st1.setPart i { st1.part i with watch := st.now })
  else if op = 10 then (-1, st.setProc i n { x with stopped := true })
  else if op = 11 then (-1, st.setProc i n { x with dl := if a = 0 then -1 else st.now + a })
  else if op = 13 then if (st.cpart i).sys = true then (-1, st.setProc i n { x with acc := countOf (logOf bs) a }) else (4, st1)
  else (-1, st1)
theorem stepS_C (bs : List Int) (i n : Nat) (st : RSt) : stepS bs i n st = stepC bs i n (insOf st i n).1 (insOf st i n).2 st := rfl
section
variable (bs : List Int) (i n k : Nat) (rc : Int) (st : RSt)
abbrev foll (st : RSt) (i n : Nat) : RSt := st.setProc i n (st.follow i n ((st.proc i n).next + 1))
theorem foll_x {op : Int} (h : op ≠ 4) (a : Int) : st.follow i n (if op = 4 ∧ (st.proc i n).acc ≠ 0 then a else (st.proc i n).next + 1) = st.follow i n ((st.proc i n).next + 1) := by
  rw [if_neg (fun h' => h h'.1)]
theorem mineFrom_setProc (x : RProc) (a : Int) : mineFrom (st.setProc i n x) i a = mineFrom st i a := rfl
theorem do_step (hi : i < st.parts.length) (hn : n < (st.part i).procs.length) (op : Int) (h7 : op = 7 → mineTo st i k = false) : doS bs i n op k rc (foll st i n) = stepC bs i n op (k : Int) st := by
  have hp : (foll st i n).proc i n = st.follow i n ((st.proc i n).next + 1) := RSt.proc_set hi hn _
  have hs : ∀ x, (foll st i n).setProc i n x = st.setProc i n x := fun x => RSt.setProc_set hi _ x
  have hpt : (foll st i n).part i = { st.part i with procs := (st.part i).procs.set n (st.follow i n ((st.proc i n).next + 1)) } := RSt.part_setProc hi _
  have hw : ((foll st i n).part i).words = (st.part i).words := by rw [hpt]
  by_cases c4 : op = 4
  · subst c4
    have e1 : doS bs i n 4 k rc (foll st i n) = (-1, if ((foll st i n).proc i n).acc ≠ 0 then (foll st i n).setProc i n ((foll st i n).follow i n k) else foll st i n) := rfl
    have e2 : stepC bs i n 4 (k : Int) st = (-1, st.setProc i n (st.follow i n (if (4 : Int) = 4 ∧ (st.proc i n).acc ≠ 0 then (k : Int) else (st.proc i n).next + 1))) := rfl
    rw [e1, e2, hs]
    have e3 : (foll st i n).follow i n k = st.follow i n k := by
      show ({ (foll st i n).proc i n with next := (k : Int), stopped := decide ((((foll st i n).codeOf i n).length : Int) ≤ k) } : RProc) = _
      rw [hp]
      rfl
    have e4 : ((foll st i n).proc i n).acc = (st.proc i n).acc := by rw [hp]; rfl
    rw [e3, e4]
    by_cases ha : (st.proc i n).acc = 0
    · rw [if_neg (by simpa using ha), if_neg (fun h => h.2 ha)]
    · rw [if_pos ha, if_pos ⟨rfl, ha⟩]
  unfold stepC
  simp only [foll_x i n st c4]
  by_cases c1 : op = 1
  · subst c1
    have e1 : doS bs i n 1 k rc (foll st i n) = (-1, (foll st i n).setProc i n { (foll st i n).proc i n with acc := IntKind.i64.wrap (((foll st i n).proc i n).acc + s8 k) }) := rfl
    rw [e1, hs, hp, if_pos rfl]
    rfl
  rw [if_neg c1]
  by_cases c2 : op = 2
  · subst c2
    have e1 : doS bs i n 2 k rc (foll st i n) = if k < ((foll st i n).part i).words.length then (-1, (foll st i n).setPart i { (foll st i n).part i with words := ((foll st i n).part i).words.set k ((foll st i n).proc i n).acc }) else (0, foll st i n) := rfl
    rw [e1, hw, hp, if_pos rfl]
    by_cases hk : k < (st.part i).words.length
    · rw [if_pos hk, if_pos (by omega)]
      rfl
    · rw [if_neg hk, if_neg (by omega)]
  rw [if_neg c2]
  by_cases c3 : op = 3
  · subst c3
    have e1 : doS bs i n 3 k rc (foll st i n) = if k < ((foll st i n).part i).words.length then (-1, (foll st i n).setProc i n { (foll st i n).proc i n with acc := ((foll st i n).part i).words.getD k 0 }) else (0, foll st i n) := rfl
    rw [e1, hw, hp, hs, if_pos rfl]
    by_cases hk : k < (st.part i).words.length
    · rw [if_pos hk, if_pos (by omega)]
      rfl
    · rw [if_neg hk, if_neg (by omega)]
  rw [if_neg c3]
  by_cases c12 : op = 12
  · subst c12
    have e1 : doS bs i n 12 k rc (foll st i n) = if k < ((foll st i n).part i).words.length then (if ((foll st i n).part i).words.getD k 0 = 0 then (1, foll st i n) else (-1, (foll st i n).setProc i n { (foll st i n).proc i n with acc := quot64 ((foll st i n).proc i n).acc (((foll st i n).part i).words.getD k 0) })) else (0, foll st i n) := rfl
    rw [e1, hw, hp, hs, if_pos rfl]
    by_cases hk : k < (st.part i).words.length
    · rw [if_pos hk, if_pos (show (k : Int) < (st.part i).words.length by omega)]
      rfl
    · rw [if_neg hk, if_neg (by omega)]
  rw [if_neg c12]
  by_cases c5 : op = 5
  · subst c5
    have e1 : doS bs i n 5 k rc (foll st i n) = (-1, (foll st i n).setProc i n { (foll st i n).proc i n with til := (foll st i n).now + k }) := rfl
    rw [e1, hs, hp, if_pos rfl]
    rfl
  rw [if_neg c5]
  by_cases c6 : op = 6
  · subst c6
    have e1 : doS bs i n 6 k rc (foll st i n) = if mineFrom (foll st i n) i k = true then (-1, { foll st i n with queues := if (((foll st i n).queues.getD k []).length : Int) < ((foll st i n).cf.chans.getD k default).depth then (foll st i n).queues.set k ((foll st i n).queues.getD k [] ++ [((foll st i n).proc i n).acc]) else (foll st i n).queues }) else (4, foll st i n) := rfl
    rw [e1, hp, mineFrom_setProc, if_pos rfl]
    rfl
  rw [if_neg c6]
  by_cases c7 : op = 7
  · subst c7
    have e1 : doS bs i n 7 k rc (foll st i n) = if mineTo st i k = true then (-1, (foll st i n).setProc i n { (foll st i n).proc i n with acc := rc }) else (4, foll st i n) := rfl
    rw [e1, h7 rfl]
    rfl
  rw [if_neg c7]
  by_cases c8 : op = 8
  · subst c8; rfl
  rw [if_neg c8]
  by_cases c9 : op = 9
  · subst c9; rfl
  rw [if_neg c9]
  by_cases c10 : op = 10
  · subst c10
    have e1 : doS bs i n 10 k rc (foll st i n) = (-1, (foll st i n).setProc i n { (foll st i n).proc i n with stopped := true }) := rfl
    rw [e1, hs, hp, if_pos rfl]
  rw [if_neg c10]
  by_cases c11 : op = 11
  · subst c11
    have e1 : doS bs i n 11 k rc (foll st i n) = (-1, (foll st i n).setProc i n { (foll st i n).proc i n with dl := if k = 0 then -1 else (foll st i n).now + k }) := rfl
    rw [e1, hs, hp, if_pos rfl]
    have e2 : (if k = 0 then (-1 : Int) else st.now + k) = if (k : Int) = 0 then -1 else st.now + k := by
      by_cases hk : k = 0
      · rw [if_pos hk, if_pos (by omega)]
      · rw [if_neg hk, if_neg (by omega)]
    show (-1, st.setProc i n { st.follow i n ((st.proc i n).next + 1) with dl := if k = 0 then (-1 : Int) else st.now + k }) = _
    rw [e2]
  rw [if_neg c11]
  by_cases c13 : op = 13
  · subst c13
    have e1 : doS bs i n 13 k rc (foll st i n) = if ((foll st i n).cpart i).sys = true then (-1, (foll st i n).setProc i n { (foll st i n).proc i n with acc := countOf (logOf bs) k }) else (4, foll st i n) := rfl
    rw [e1, hs, hp, if_pos rfl]
    rfl
  rw [if_neg c13]
  unfold doS
  rw [if_neg c1, if_neg (by omega), if_neg c4, if_neg c5, if_neg c6, if_neg c7, if_neg c8, if_neg c9, if_neg c10, if_neg c11, if_neg c13]
end
theorem doneP_eq (i n : Nat) (s : SF) (h : SRun s) (hi : i < s.1.parts.length) (hn : n < (s.1.part i).procs.length) (hr : readyP i n s.1 = true) :
    doneP i n s = if (stepS s.2.bs i n s.1).1 < 0 then (true, (stepS s.2.bs i n s.1).2, s.2) else faultS i n (stepS s.2.bs i n s.1).1.toNat ((stepS s.2.bs i n s.1).2, s.2) := by
  obtain ⟨st, F⟩ := s
  have hrn : StRun st := h.1
  have ho : StOk st := h.2
  have hgo : (st.proc i n).stopped = false := by
    unfold readyP at hr
    simp only [Bool.and_eq_true, Bool.not_eq_true'] at hr
    exact hr.1.1
  have hx := hrn.proc i n hi hn
  have hnx : (st.proc i n).next < (st.codeOf i n).length := by
    rcases hx.next.2.2 with h1 | h1
    · rw [hgo] at h1; cases h1
    · exact h1
  have hg := (ins_good ho i n (st.proc i n).next.toNat hi hn (by have := hx.next.1; omega)).2.1.1
  have hkey : stepP i n (recvS i n st).1.1 ((recvS i n st).2, F) = stepS F.bs i n st := by
    rw [stepS_C]
    have hI : ∀ q, insOf { st with queues := q } i n = insOf st i n := fun q => rfl
    have hA0 : 0 ≤ (insOf st i n).2 := hg
    have hrc : (recvS i n st).1.2 = true := by
      unfold readyP at hr
      simp only [Bool.and_eq_true] at hr
      exact hr.2
    unfold stepP
    by_cases h7 : ((insOf st i n).1 == 7 && mineTo st i (insOf st i n).2) = true
    · have e7 : (insOf st i n).1 = 7 := by simp only [Bool.and_eq_true, beq_iff_eq] at h7; exact h7.1
      have em : mineTo st i (insOf st i n).2 = true := by simp only [Bool.and_eq_true] at h7; exact h7.2
      have e1 : recvS i n st = (match st.queues.getD (insOf st i n).2.toNat [] with | [] => ((0, false), st) | v :: vs => ((v, true), { st with queues := st.queues.set (insOf st i n).2.toNat vs })) := by
        unfold recvS
        rw [if_pos h7]
        cases st.queues.getD (insOf st i n).2.toNat [] <;> rfl
      rw [e1] at hrc ⊢
      cases hq : st.queues.getD (insOf st i n).2.toNat [] with
      | nil => rw [hq] at hrc; cases hrc
      | cons v vs =>
        simp only
        rw [hI, e7]
        obtain ⟨k, hk⟩ : ∃ k : Nat, (insOf st i n).2 = (k : Int) := ⟨(insOf st i n).2.toNat, by omega⟩
        rw [hk] at hq em ⊢
        rw [Int.toNat_natCast] at hq
        rw [Int.toNat_natCast]
        have hp : (foll { st with queues := st.queues.set k vs } i n).proc i n = st.follow i n ((st.proc i n).next + 1) := RSt.proc_set (st := { st with queues := st.queues.set k vs }) hi hn _
        have hs : ∀ x, (foll { st with queues := st.queues.set k vs } i n).setProc i n x = RSt.setProc { st with queues := st.queues.set k vs } i n x := fun x => RSt.setProc_set (st := { st with queues := st.queues.set k vs }) hi _ x
        have e2 : doS F.bs i n 7 k v (foll { st with queues := st.queues.set k vs } i n) = if mineTo st i k = true then (-1, (foll { st with queues := st.queues.set k vs } i n).setProc i n { (foll { st with queues := st.queues.set k vs } i n).proc i n with acc := v }) else (4, foll { st with queues := st.queues.set k vs } i n) := rfl
        have e3 : stepC F.bs i n 7 (k : Int) st = if mineTo st i k = true then (-1, { st.setProc i n { st.follow i n ((st.proc i n).next + 1) with acc := (st.queues.getD k []).headD 0 } with queues := st.queues.set k (st.queues.getD k []).tail }) else (4, foll st i n) := by
          unfold stepC
          simp only [foll_x i n st (show (7 : Int) ≠ 4 by decide)]
          rfl
        have e4 : doS F.bs i n 7 k v (foll { st with queues := st.queues.set k vs } i n) = stepC F.bs i n 7 (k : Int) st := by
          rw [e2, e3, if_pos em, if_pos em, hs, hp, hq]
          rfl
        exact e4
    · have e1 : recvS i n st = ((0, true), st) := by
        unfold recvS
        rw [if_neg h7]
      rw [e1]
      obtain ⟨k, hk⟩ : ∃ k : Nat, (insOf st i n).2 = (k : Int) := ⟨(insOf st i n).2.toNat, by omega⟩
      show doS F.bs i n (insOf st i n).1 (insOf st i n).2.toNat 0 (foll st i n) = _
      rw [hk, Int.toNat_natCast]
      refine do_step F.bs i n k 0 st hi hn _ (fun e => ?_)
      rw [e, hk] at h7
      cases hm : mineTo st i (k : Int)
      · rfl
      · rw [hm] at h7; exact (h7 rfl).elim
  have hc := doS_code F.bs i n (insOf (recvS i n st).2 i n).1 (insOf (recvS i n st).2 i n).2.toNat (recvS i n st).1.1 ((recvS i n st).2.setProc i n ((recvS i n st).2.follow i n (((recvS i n st).2.proc i n).next + 1)))
  have hc2 : -1 ≤ (stepP i n (recvS i n st).1.1 ((recvS i n st).2, F)).1 := hc.1
  show stepF i n (recvS i n st).1.1 ((recvS i n st).2, F) = _
  unfold stepF
  rw [hkey] at hc2 ⊢
  simp only
  by_cases e : (stepS F.bs i n st).1 < 0
  · rw [if_pos (by omega), if_pos e]
  · rw [if_neg (by omega), if_neg e]
theorem turnP_eq (i : Nat) (s : SF) (h : SRun s) (hi : i < s.1.parts.length) : turnP i s = turnS i s := by
  obtain ⟨st, F⟩ := s
  have ho : StOk st := h.2
  have hone := ho.one i hi
  have hcp : (st.cpart i).procs.length = (st.part i).procs.length := (ho.part i hi).2.symm
  unfold turnP turnS bestS
  by_cases h3 : (st.part i).mode = 3
  · have hno : ∀ k, bestTo st i k = none := by
      intro k
      induction k with
      | zero => rfl
      | succ k ih =>
        have : readyS st i k = false := by unfold readyS; simp [h3]
        unfold bestTo
        rw [this, ih]
        rfl
    simp only
    rw [if_pos h3, hno]
  · simp only
    rw [if_neg h3, hcp]
    have hrd : ∀ n, readyP i n st = readyS st i n := fun n => readyP_eq i n st h3
    have hdn : ∀ n, n < (st.part i).procs.length → readyS st i n = true → doneP i n (st, F) = if (stepS F.bs i n st).1 < 0 then (true, (stepS F.bs i n st).2, F) else faultS i n (stepS F.bs i n st).1.toNat ((stepS F.bs i n st).2, F) := fun n hn hr => doneP_eq i n (st, F) h hi hn (by rw [← hrd] at hr; exact hr)
    have hpl : ∀ q, placeOf st i q = ((turnI (st.part i).procs.length (prioOf (st.cpart i))).getD q 0).toNat := fun _ => rfl
    generalize (st.part i).procs.length = np at *
    obtain rfl | rfl : np = 1 ∨ np = 2 := by omega
    · have p0 : placeOf st i 0 = 0 := by rw [hpl]; rfl
      have b1 : bestTo st i 1 = if readyS st i 0 = true then some 0 else none := by
        show (if (readyS st i 0 && true) = true then some 0 else none) = _
        rw [Bool.and_true]
      have l1 : (List.range 1).find? (fun q => readyP i (placeOf st i q) st) = if readyS st i 0 = true then some 0 else none := by
        show (match readyP i (placeOf st i 0) st with | true => some 0 | false => none) = _
        rw [p0, hrd]
        cases readyS st i 0 <;> rfl
      rw [b1, l1]
      cases hr : readyS st i 0
      · rfl
      · rw [if_pos rfl]
        simp only
        rw [p0]
        exact hdn 0 (by omega) hr
    · have b2 : bestTo st i 2 = if (readyS st i 1 && (!readyS st i 0 || turned (prioOf (st.cpart i)))) = true then some 1 else if readyS st i 0 = true then some 0 else none := by
        show (if (readyS st i 1 && (match (if (readyS st i 0 && true) = true then some 0 else none) with | none => true | some b => decide (prioOf (st.cpart i) b < prioOf (st.cpart i) 1))) = true then some 1 else (if (readyS st i 0 && true) = true then some 0 else none)) = _
        rw [Bool.and_true]
        cases readyS st i 0 <;> rfl
      have l2 : (List.range 2).find? (fun q => readyP i (placeOf st i q) st) = if readyP i (placeOf st i 0) st = true then some 0 else if readyP i (placeOf st i 1) st = true then some 1 else none := by
        show (match readyP i (placeOf st i 0) st with | true => some 0 | false => (match readyP i (placeOf st i 1) st with | true => some 1 | false => none)) = _
        cases readyP i (placeOf st i 0) st <;> cases readyP i (placeOf st i 1) st <;> rfl
      rw [b2, l2, hrd, hrd]
      cases ht : turned (prioOf (st.cpart i))
      · have p0 : placeOf st i 0 = 0 := by rw [hpl]; unfold turnI; rw [ht]; rfl
        have p1 : placeOf st i 1 = 1 := by rw [hpl]; unfold turnI; rw [ht]; rfl
        rw [p0, p1]
        cases h0 : readyS st i 0
        · cases h1 : readyS st i 1
          · rfl
          · simp only [Bool.true_and, Bool.not_false, Bool.true_or, if_true, Bool.false_eq_true, if_false, p1]
            exact hdn 1 (by omega) h1
        · cases h1 : readyS st i 1
          · simp only [Bool.false_and, if_true, Bool.false_eq_true, if_false, p0]
            exact hdn 0 (by omega) h0
          · simp only [Bool.true_and, Bool.not_true, Bool.or_false, if_true, Bool.false_eq_true, if_false, p0]
            exact hdn 0 (by omega) h0
      · have p0 : placeOf st i 0 = 1 := by rw [hpl]; unfold turnI; rw [ht]; rfl
        have p1 : placeOf st i 1 = 0 := by rw [hpl]; unfold turnI; rw [ht]; rfl
        rw [p0, p1]
        cases h1 : readyS st i 1
        · cases h0 : readyS st i 0
          · rfl
          · simp only [Bool.false_and, if_true, Bool.false_eq_true, if_false, p1]
            exact hdn 0 (by omega) h0
        · simp only [Bool.true_and, Bool.or_true, if_true, p0]
          exact hdn 1 (by omega) h1
theorem winP_eq (s : SF) (h : SRun s) : winP s = winS s := by
  unfold winP winS
  cases hf : s.1.cf.wins.find? (inWin s.1.now s.1.cf.frame) with
  | none => rfl
  | some x =>
    have := h.2.good.wins x (List.mem_of_find?_eq_some hf)
    have hl := h.2.len
    exact turnP_eq _ s h (by omega)
theorem tickP_eq (s : SF) (h : SRun s) : tickP s = tick1 s := by
  unfold tickP tick1
  have h1 := andB_run _ _ (deadS_run s h) watchesS_run
  generalize andB (deadS s) watchesS = r at *
  unfold andB
  split
  · exact winP_eq _ h1
  · rfl
theorem tick1_run (s : SF) (h : SRun s) : SRun (tick1 s).2 := by rw [← tickP_eq s h]; exact tickP_run s h
theorem tickP_like (s : SF) : Lk s.1 (tickP s).2.1 :=
  andB_ok (fun x => Lk s.1 x.1) (andB_ok (fun x => Lk s.1 x.1) (deadS_like s) (fun x hx => hx.trans (watchesS_like x))) (fun x hx => hx.trans (winP_like x))
end Go.Proofs.YtnjlbgolnbdkaaaGreat
/- The program's machine: Tick, with its deferred note. -/
namespace Go.Proofs.YtnjlbgolnbdkaaaGreat
open Go.RowKit Go.Shelf

theorem Dm.same {L : MLay} {g b : Nat} {st st' : RSt} (hc : st'.cf = st.cf) (hl : st'.parts.length = st.parts.length) (h : Dm L g st' b) : Dm L g st b := by
  unfold Dm at *
  rw [hc, hl] at h
  exact h
set_option maxHeartbeats 1000000 in
theorem note_deferred (b k eb : Nat) (x : Int) (y : Bool) (u : FrameMode) (w : World) (hc : w.cell? ⟨eb, 0, none⟩ = some (.int .i64 x)) (hd : w.cell? ⟨b, 7, none⟩ = some (.bool y)) (hf : w.frozen? ⟨b, 7, none⟩ = false) (hk : k = 0) :
    CallsD Tryz.prog 70 #[.pointer (some ⟨b, k, none⟩), .pointer (some ⟨eb, 0, none⟩)] u w fun e u' w' => u' = u ∧ (e = .returned (.tuple #[]) ∧ w' = w.setCell ⟨b, 7, none⟩ (.bool (x == 6))) := by
  subst hk
  go_enter_d Tryz.func70, Tryz.ntmps70
  go_wp2
  go_end0
  exact ⟨rfl, rfl⟩
theorem ticksTo_succ (k : Nat) (s : SF) : ticksTo (k + 1) s = andB (ticksTo k s) tickS := rfl
theorem ticks_stop (s : SF) (k n : Nat) (hk : k ≤ n) (h : (ticksTo k s).1 = false) : ticksTo n s = ticksTo k s := loopB_stop _ s k n hk h
theorem done_all (s : SF) (n : Nat) (h : (ticksTo n s).1 = true) : doneTo s n = n := by
  cases n with
  | zero => rfl
  | succ k => unfold doneTo; rw [if_pos h]
theorem done_stop (s : SF) (k : Nat) (h : (ticksTo k s).1 = true) (h2 : (ticksTo (k + 1) s).1 = false) : ∀ n, k + 1 ≤ n → doneTo s n = k := by
  intro n
  induction n with
  | zero => intro h; omega
  | succ n ih =>
    intro hn
    unfold doneTo
    rw [ticks_stop s (k + 1) (n + 1) hn h2, h2, if_neg (by decide)]
    by_cases e : k = n
    · subst e; exact done_all s k h
    · exact ih (by omega)
structure Tk (s s' : SF) (k : Nat) : Prop where
  run : SRun s'
  cf : s'.1.cf = s.1.cf
  len : s'.1.parts.length = s.1.parts.length
  now : s.1.now ≤ s'.1.now ∧ s'.1.now ≤ s.1.now + k
theorem tick1_like (s : SF) (h : SRun s) : Lk s.1 (tick1 s).2.1 := by rw [← tickP_eq s h]; exact tickP_like s
theorem Mo.now {w w' : World} {L : MLay} {g : Nat} {st : RSt} {F : Fl} (h : Mo w L g st F) (x : Int) (hw : w' = w.setCell ⟨L.mb, 6, none⟩ (.int .i64 x)) : Mo w' L g { st with now := x } F :=
  h.cells h.mach.mach (by decide) (by rw [hw]; exact Touch.ofSet w _ _ _ rfl) (by rw [hw]; exact h.mach.setNow x) rfl rfl ⟨h.ok.good, h.ok.len, h.ok.part, h.ok.qlen⟩
theorem Mo.lost {w w' : World} {L : MLay} {g : Nat} {st : RSt} {F : Fl} (h : Mo w L g st F) (x : Bool) (hw : w' = w.setCell ⟨L.mb, 7, none⟩ (.bool x)) : Mo w' L g { st with dead := x } F :=
  h.cells h.mach.mach (by decide) (by rw [hw]; exact Touch.ofSet w _ _ _ rfl) (by rw [hw]; exact h.mach.setLost x) rfl rfl ⟨h.ok.good, h.ok.len, h.ok.part, h.ok.qlen⟩
theorem ticks_tk (s : SF) (h : SRun s) : ∀ k : Nat, s.1.now + k ≤ 1000000000000 → Tk s (ticksTo k s).2 k := by
  intro k
  induction k with
  | zero => intro _; exact ⟨h, rfl, rfl, ⟨Int.le_refl _, by show s.1.now ≤ s.1.now + ((0 : Nat) : Int); omega⟩⟩
  | succ k ih =>
    intro hk
    have h1 := ih (by omega)
    rw [ticksTo_succ]
    generalize ticksTo k s = r at *
    unfold andB
    split
    · have h2 := tick1_run r.2 h1.run
      have h3 := tick1_like r.2 h1.run
      unfold tickS andB
      split
      · refine ⟨SRun.later h2 ?_, h3.cf.trans h1.cf, h3.len.trans h1.len, ?_⟩
        · rw [h3.now]
          have := h1.now.2
          omega
        · show s.1.now ≤ (tick1 r.2).2.1.now + 1 ∧ (tick1 r.2).2.1.now + 1 ≤ _
          rw [h3.now]
          have := h1.now
          omega
      · refine ⟨h2, h3.cf.trans h1.cf, h3.len.trans h1.len, ?_⟩
        rw [h3.now]
        have := h1.now
        omega
    · refine ⟨h1.run, h1.cf, h1.len, ?_⟩
      have := h1.now
      omega
set_option maxHeartbeats 1000000 in
theorem mTick_no (L : MLay) (g : Nat) (st : RSt) (F : Fl) (n : Int) (w : World) (h : Mo w L g st F) (hn : n < 0 ∨ 1000 < n) :
    Calls Tryz.prog 37 #[.pointer (some ⟨L.mb, 0, none⟩), .int .i64 n] w fun e w' => e = .returned (.tuple #[.int .i64 0, .int .i64 1]) ∧ Mo w' L g st F ∧ Touch (Dm L g st) w w' := by
  have hb : Below w.heap.size w (w.alloc (.cells #[.int .i64 1] 24)) := (Below.refl _ _).alloc (Nat.le_refl _) _
  have HE : Hid (Mo (w.alloc (.cells #[.int .i64 1] 24)) L g st F ∧ Touch (Dm L g st) w (w.alloc (.cells #[.int .i64 1] 24))) := ⟨h.mono hb, Touch.ofBelow hb⟩
  have HC := hide (Boxed.new w 24 (.int .i64 1)).cell
  clear h hb
  rcases hn with hn | hn
  · go_enter_defers Tryz.func37, Tryz.ntmps37
    go_wp2
    exact ⟨_, by simp [results, Tryz.results37, go_sem, HC.out], rfl, HE.out.1, HE.out.2⟩
  · have hn0 : ¬ n < 0 := by omega
    go_enter_defers Tryz.func37, Tryz.ntmps37
    go_wp2
    exact ⟨_, by simp [results, Tryz.results37, go_sem, HC.out], rfl, HE.out.1, HE.out.2⟩
set_option maxHeartbeats 1000000 in
theorem mTick_dead (L : MLay) (g : Nat) (st : RSt) (F : Fl) (n : Int) (w : World) (h : Mo w L g st F) (hn : ¬ (n < 0 ∨ 1000 < n)) (hd : st.dead = true) :
    Calls Tryz.prog 37 #[.pointer (some ⟨L.mb, 0, none⟩), .int .i64 n] w fun e w' => e = .returned (.tuple #[.int .i64 0, .int .i64 6]) ∧ Mo w' L g st F ∧ Touch (Dm L g st) w w' := by
  have hb : Below w.heap.size w (w.alloc (.cells #[.int .i64 6] 24)) := (Below.refl _ _).alloc (Nat.le_refl _) _
  have HE : Hid (Mo (w.alloc (.cells #[.int .i64 6] 24)) L g st F ∧ Touch (Dm L g st) w (w.alloc (.cells #[.int .i64 6] 24))) := ⟨h.mono hb, Touch.ofBelow hb⟩
  have HC := hide (Boxed.new w 24 (.int .i64 6)).cell
  have m7 := h.mach.machAt 7
  simp only [List.getElem?_toArray, List.getElem?_cons_succ, List.getElem?_cons_zero] at m7
  rw [hd] at m7
  have hlm := lt_of_cell m7
  have h0 : ¬ n < 0 := by omega
  have h1 : ¬ 1000 < n := by omega
  clear h hb hn hd
  go_enter_defers Tryz.func37, Tryz.ntmps37
  go_wp2
  exact ⟨_, by simp [results, Tryz.results37, go_sem, HC.out], rfl, HE.out.1, HE.out.2⟩
set_option maxRecDepth 100000 in
set_option maxHeartbeats 2000000 in
theorem mTick_go (L : MLay) (g : Nat) (st : RSt) (F : Fl) (n : Nat) (w : World) (h : Mo w L g st F) (hrun : StRun st) (hn : n ≤ 1000) (hd : st.dead = false) (hnow : st.now + 1000 ≤ 1000000000000) :
    Calls Tryz.prog 37 #[.pointer (some ⟨L.mb, 0, none⟩), .int .i64 n] w fun e w' => e = .returned (.tuple #[.int .i64 (doneTo (st, F) n), .int .i64 (if (ticksTo n (st, F)).1 = true then 0 else 6)]) ∧ Mo w' L g (withDead (ticksTo n (st, F))).1 (withDead (ticksTo n (st, F))).2 ∧ Touch (Dm L g st) w w' := by
  have m7 := h.mach.machAt 7
  simp only [List.getElem?_toArray, List.getElem?_cons_succ, List.getElem?_cons_zero] at m7
  rw [hd] at m7
  have hlm := lt_of_cell m7
  have h0 : ¬ (n : Int) < 0 := by omega
  have h1 : ¬ 1000 < (n : Int) := by omega
  obtain ⟨T, hT⟩ : ∃ T : Nat → Bool × SF, T = fun k => ticksTo k (st, F) := ⟨_, rfl⟩
  have HT0 : Hid (T 0 = (true, st, F)) := by show _ = _; rw [hT]; rfl
  have HTS : Hid (∀ k, (T k).1 = true → T (k + 1) = tickS (T k).2) := fun k hk => by
    rw [hT] at hk ⊢
    show andB (ticksTo k (st, F)) tickS = _
    unfold andB
    rw [if_pos hk]
  have HTK : Hid (∀ k : Nat, k ≤ 1000 → Tk (st, F) (T k).2 k) := fun k hk => by
    rw [hT]
    exact ticks_tk (st, F) ⟨hrun, h.ok⟩ k (by show st.now + (k : Int) ≤ _; omega)
  have HTP : Hid (∀ k, T k = ticksTo k (st, F)) := fun k => by rw [hT]
  have HH := hide h
  have hb1 : Below w.heap.size w (w.alloc (.cells #[.int .i64 0] 24)) := (Below.refl _ _).alloc (Nat.le_refl _) _
  have HM1 : Hid (Mo (w.alloc (.cells #[.int .i64 0] 24)) L g st F) := h.mono hb1
  have HTC : Hid (Touch (Dm L g st) w (w.alloc (.cells #[.int .i64 0] 24))) := Touch.ofBelow hb1
  have HBX := hide (Boxed.new w 24 (.int .i64 0))
  have HLT : Hid (∀ b, Dm L g st b → b < w.heap.size) := fun b hb => h.lt b hb
  have HD := hide hd
  have HDOOR : Hid (∀ (W : World) (s' : RSt) (F' : Fl) (x : Int) (y : Bool), Mo W L g s' F' → Boxed W w.heap.size 24 (.int .i64 x) → Touch (Dm L g st) w W → s'.cf = st.cf → s'.parts.length = st.parts.length → (x == 6) = y →
      (Mo (W.setCell ⟨L.mb, 7, none⟩ (.bool (x == 6))) L g { s' with dead := y } F' ∧ Touch (Dm L g st) w (W.setCell ⟨L.mb, 7, none⟩ (.bool (x == 6)))) ∧ (W.setCell ⟨L.mb, 7, none⟩ (.bool (x == 6))).cell? ⟨w.heap.size, 0, none⟩ = some (.int .i64 x) ∧ W.cell? ⟨L.mb, 7, none⟩ = some (.bool s'.dead) ∧ W.frozen? ⟨L.mb, 7, none⟩ = false) := fun W s' F' x y hM hB hTt _ _ hy => by
    have m7 := hM.mach.machAt 7
    simp only [List.getElem?_toArray, List.getElem?_cons_succ, List.getElem?_cons_zero] at m7
    have hts : Touch (· = L.mb) W (W.setCell ⟨L.mb, 7, none⟩ (.bool (x == 6))) := Touch.ofSet W _ _ _ rfl
    have hbx : Boxed (W.setCell ⟨L.mb, 7, none⟩ (.bool (x == 6))) w.heap.size 24 (.int .i64 x) := (hts.block _ hB.lt (by intro e; have e2 : w.heap.size = L.mb := e; omega)).trans hB
    exact ⟨⟨hM.lost y (by rw [hy]), hTt.thenSet _ _ (.inl rfl)⟩, hbx.cell, m7, free_of_block hM.mach.mach 7⟩
  have HBOX : Hid (∀ (W : World) (s' : RSt) (F' : Fl) (x z : Int), Mo W L g s' F' → Boxed W w.heap.size 24 (.int .i64 x) → Touch (Dm L g st) w W → Mo (W.setCell ⟨w.heap.size, 0, none⟩ (.int .i64 z)) L g s' F' ∧ Boxed (W.setCell ⟨w.heap.size, 0, none⟩ (.int .i64 z)) w.heap.size 24 (.int .i64 z) ∧ Touch (Dm L g st) w (W.setCell ⟨w.heap.size, 0, none⟩ (.int .i64 z))) := fun W s' F' x z hM hB hTt => by
    have hts : Touch (· = w.heap.size) W (W.setCell ⟨w.heap.size, 0, none⟩ (.int .i64 z)) := Touch.ofSet W _ _ _ rfl
    exact ⟨hM.box hB (by decide) hts, hB.set _, hTt.trans hts (fun i e => .inr (by have e2 : i = w.heap.size := e; omega))⟩
  obtain ⟨Dn, hDn⟩ : ∃ Dn : Int, Dn = doneTo (st, F) n := ⟨_, rfl⟩
  obtain ⟨En, hEn⟩ : ∃ En : Int, En = if (ticksTo n (st, F)).1 = true then 0 else 6 := ⟨_, rfl⟩
  obtain ⟨Sn, hSn⟩ : ∃ Sn : SF, Sn = withDead (ticksTo n (st, F)) := ⟨_, rfl⟩
  rw [← hDn, ← hEn, ← hSn]
  have HDE := hide (And.intro hDn (And.intro hEn hSn))
  clear hT h hrun hb1 hd hDn hEn hSn
  go_enter_defers Tryz.func37, Tryz.ntmps37
  go_wp2
  go_loopw [4, 18] (fun d t wr => ∃ k : Nat, k ≤ n ∧ d = .int .i64 k ∧ t = .int .i64 k ∧ (T k).1 = true ∧ Mo wr L g (T k).2.1 (T k).2.2 ∧ Boxed wr w.heap.size 24 (.int .i64 0) ∧ Touch (Dm L g st) w wr) (fun _ t _ => n - (intOf t).toNat)
  case atStart => exact ⟨0, by omega, rfl, rfl, by rw [HT0.out], by rw [HT0.out]; exact HM1.out, HBX.out, HTC.out⟩
  case round =>
    obtain ⟨k, hk, rfl, rfl, hok, hM, hB, hTt⟩ := hrel
    have htk := HTK.out k (by omega)
    by_cases hlt : k < n
    · have HC := hide (mtick_any L g (T k).2.1 (T k).2.2 wr hM htk.run.1)
      have hte := tickP_eq (T k).2 htk.run
      have e1 : tickP ((T k).2.1, (T k).2.2) = tick1 (T k).2 := hte
      rw [e1] at HC
      have HTE : Hid (T (k + 1) = tickS (T k).2) := HTS.out k hok
      have hlk := tick1_like (T k).2 htk.run
      have HNW : Hid (0 ≤ (tick1 (T k).2).2.1.now ∧ (tick1 (T k).2).2.1.now + 1 ≤ 1000000000000) := by
        rw [hlk.now]
        have := htk.now
        have h2 := htk.run.1.now
        exact ⟨h2.1, by show _ ≤ (1000000000000 : Int); have h3 : (T k).2.1.now ≤ st.now + k := this.2; omega⟩
      have HCF : Hid ((tick1 (T k).2).2.1.cf = st.cf ∧ (tick1 (T k).2).2.1.parts.length = st.parts.length) := ⟨hlk.cf.trans htk.cf, hlk.len.trans htk.len⟩
      have HCK : Hid ((T k).2.1.cf = st.cf ∧ (T k).2.1.parts.length = st.parts.length) := ⟨htk.cf, htk.len⟩
      have HB := hide hB
      have HTT := hide hTt
      have HOK := hide hok
      have HTS1 : Hid (tickS (T k).2 = andB (tick1 (T k).2) fun s => (true, { s.1 with now := s.1.now + 1 }, s.2)) := rfl
      clear hM hB hTt htk hte e1 hlk hok
      obtain ⟨r, hr⟩ : ∃ r, r = tick1 (T k).2 := ⟨_, rfl⟩
      rw [← hr] at HC HNW HCF HTS1
      clear hr
      obtain ⟨b, s1, F1⟩ := r
      simp only at *
      go_wp2_with fail
      refine HC.out.mono ?_
      rintro e w1 ⟨rfl, hm1, ht1⟩
      have ht2 : Touch (Dm L g st) w w1 := HTT.out.andThen (ht1.to (fun b hb => Dm.same HCK.out.1 HCK.out.2 hb))
      have hB1 : Boxed w1 w.heap.size 24 (.int .i64 0) := (ht1.block _ HB.out.lt (fun hd => by have := HLT.out _ (Dm.same HCK.out.1 HCK.out.2 hd); omega)).trans HB.out
      have cB := hB1.cell
      have fB := hB1.frozen
      cases b with
      | false =>
        rw [andB_no] at HTS1
        have hf1 : T (k + 1) = (false, s1, F1) := HTE.out.trans HTS1.out
        have HR1 : Hid (ticksTo n (st, F) = (false, s1, F1) ∧ doneTo (st, F) n = k) := by
          have e1 : ticksTo (k + 1) (st, F) = (false, s1, F1) := by rw [← HTP.out]; exact hf1
          refine ⟨?_, ?_⟩
          · rw [ticks_stop (st, F) (k + 1) n (by omega) (by rw [e1])]
            exact e1
          · exact done_stop (st, F) k (by rw [← HTP.out]; exact HOK.out) (by rw [e1]) n (by omega)
        have HBW := hide (HBOX.out w1 s1 F1 0 6 hm1 hB1 ht2)
        have HDW := hide (HDOOR.out _ s1 F1 6 true HBW.out.1 HBW.out.2.1 HBW.out.2.2 HCF.out.1 HCF.out.2 rfl)
        clear hm1 ht1 ht2 hB1 hf1
        go_wp2
        refine leaves_cons (f := 70) (args := #[.pointer (some ⟨L.mb, 0, none⟩), .pointer (some ⟨w.heap.size, 0, none⟩)]) (by simp) (by simp [go_sem]) ?_
        refine (note_deferred L.mb 0 w.heap.size 6 s1.dead .returning _ HBW.out.2.1.cell HDW.out.2.2.1 HDW.out.2.2.2 rfl).mono ?_
        rintro e u' w2 ⟨rfl, rfl, hw2⟩
        have c2 : w2.cell? ⟨w.heap.size, 0, none⟩ = some (.int .i64 6) := by rw [hw2]; exact HDW.out.2.1
        have HF : Hid (Mo w2 L g { s1 with dead := true } F1 ∧ Touch (Dm L g st) w w2) := by rw [hw2]; exact HDW.out.1
        clear hw2
        have hDE := HDE.out
        rw [HR1.out.1, HR1.out.2] at hDE
        refine ⟨_, by simp [results, Tryz.results37, go_sem, c2]; rfl, ?_, ?_⟩
        · rw [hDE.1, hDE.2.1]
          rfl
        · rw [hDE.2.2]
          exact HF.out
      | true =>
        rw [andB_yes] at HTS1
        have hf1 : T (k + 1) = (true, { s1 with now := s1.now + 1 }, F1) := HTE.out.trans HTS1.out
        have m6 := hm1.mach.machAt 6
        simp only [List.getElem?_toArray, List.getElem?_cons_succ, List.getElem?_cons_zero] at m6
        have f6 := free_of_block hm1.mach.mach 6
        have hw1 : IntKind.i64.wrap (s1.now + 1) = s1.now + 1 := by rw [IntKind.wrap_i64]; have := HNW.out; omega
        have HEND : Hid (Mo (w1.setCell ⟨L.mb, 6, none⟩ (.int .i64 (s1.now + 1))) L g (T (k + 1)).2.1 (T (k + 1)).2.2 ∧ Boxed (w1.setCell ⟨L.mb, 6, none⟩ (.int .i64 (s1.now + 1))) w.heap.size 24 (.int .i64 0) ∧ Touch (Dm L g st) w (w1.setCell ⟨L.mb, 6, none⟩ (.int .i64 (s1.now + 1)))) := by
          have hts : Touch (· = L.mb) w1 (w1.setCell ⟨L.mb, 6, none⟩ (.int .i64 (s1.now + 1))) := Touch.ofSet w1 _ _ _ rfl
          rw [hf1]
          exact ⟨hm1.now (s1.now + 1) rfl, (hts.block _ hB1.lt (by intro e; have e2 : w.heap.size = L.mb := e; omega)).trans hB1, ht2.thenSet _ _ (.inl rfl)⟩
        have HOK1 : Hid ((T (k + 1)).1 = true) := by show _ = _; rw [hf1]
        clear hm1 ht1 ht2 hB1 hf1 cB fB
        go_wp2
        go_roundw
        case rel => exact ⟨k + 1, by omega, by go_num, by go_num, HOK1.out, HEND.out.1, HEND.out.2.1, HEND.out.2.2⟩
        case measure => simp [intOf]; omega
    · obtain rfl : k = n := by omega
      have HR1 : Hid ((ticksTo k (st, F)).1 = true ∧ doneTo (st, F) k = k) := ⟨by rw [← HTP.out]; exact hok, done_all _ _ (by rw [← HTP.out]; exact hok)⟩
      have HBW := hide (HBOX.out wr (T k).2.1 (T k).2.2 0 0 hM hB hTt)
      have HDW := hide (HDOOR.out _ (T k).2.1 (T k).2.2 0 false HBW.out.1 HBW.out.2.1 HBW.out.2.2 htk.cf htk.len rfl)
      have cB := hB.cell
      have fB := hB.frozen
      clear hM hTt hok htk hB
      go_wp2
      refine leaves_cons (f := 70) (args := #[.pointer (some ⟨L.mb, 0, none⟩), .pointer (some ⟨w.heap.size, 0, none⟩)]) (by simp) (by simp [go_sem]) ?_
      refine (note_deferred L.mb 0 w.heap.size 0 (T k).2.1.dead .returning _ HBW.out.2.1.cell HDW.out.2.2.1 HDW.out.2.2.2 rfl).mono ?_
      rintro e u' w2 ⟨rfl, rfl, hw2⟩
      have c2 : w2.cell? ⟨w.heap.size, 0, none⟩ = some (.int .i64 0) := by rw [hw2]; exact HDW.out.2.1
      have HF : Hid (Mo w2 L g { (T k).2.1 with dead := false } (T k).2.2 ∧ Touch (Dm L g st) w w2) := by rw [hw2]; exact HDW.out.1
      clear hw2
      have hDE := HDE.out
      rw [HR1.out.1, HR1.out.2] at hDE
      refine ⟨_, by simp [results, Tryz.results37, go_sem, c2]; rfl, ?_, ?_⟩
      · rw [hDE.1, hDE.2.1]
        rfl
      · rw [hDE.2.2]
        unfold withDead
        rw [HR1.out.1, ← HTP.out]
        exact HF.out
end Go.Proofs.YtnjlbgolnbdkaaaGreat
