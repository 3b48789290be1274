/- Texts of the proofs of Watched and Clocked, one behind the other. -/
import Derived.Test.YtnjlbgolnbdkaaaGreatM15
import Derived.Deep.RegionHeld
import Derived.Sort.QuietTacIn
import Derived.BigQuiet
/- The program's machine: a fault. -/
namespace Go.Proofs.YtnjlbgolnbdkaaaGreat
open Go.RowKit

theorem MachAt.actAt {w : World} {L : MLay} {g : Nat} {st : RSt} (h : MachAt w L g st) (i code : Nat) (hi : i < st.parts.length) (hc : code < 6) : w.cell? ⟨L.pb, i * 14 + 3 + code, none⟩ = some (.int .i64 ((st.cpart i).acts.getD code 0)) := by
  have := h.partAt i (3 + code) hi (by omega)
  rw [← Nat.add_assoc] at this
  rw [this]
  obtain rfl | rfl | rfl | rfl | rfl | rfl : code = 0 ∨ code = 1 ∨ code = 2 ∨ code = 3 ∨ code = 4 ∨ code = 5 := by omega
  all_goals rfl
set_option maxRecDepth 100000 in
set_option maxHeartbeats 2000000 in
theorem action_any (L : MLay) (g : Nat) (st : RSt) (F : Fl) (i code : Nat) (w : World) (h : Mo w L g st F) (hi : i < st.parts.length) (hc : code < 6) :
    Calls Tryz.prog 114 #[.pointer (some ⟨L.mb, 0, none⟩), .pointer (some ⟨L.pb, i * 14, none⟩), .int .i64 code] w fun e w' => e = .returned (.int .i64 (actionOf st F.bs i code)) ∧ Below w.heap.size w w' := by
  have c0 := h.mach.machAt 0
  simp only [List.getElem?_toArray, List.getElem?_cons_zero] at c0
  have p0 := h.mach.partAt i 0 hi (by omega)
  have p2 := h.mach.partAt i 2 hi (by omega)
  simp only [mpartC, List.getElem?_cons_succ, List.getElem?_cons_zero, Nat.add_zero] at p0 p2
  have pa := h.mach.actAt i code hi hc
  have hl4 : i < 4 := by have := h.ok.good.few; have := h.ok.len; omega
  have HJ : Hid (Calls Tryz.prog 75 #[.agg #[.pointer (some ⟨g, 0, none⟩)], .int .i64 i] w.drew fun e w' => e = .returned (.int .i64 (restartsOf F.bs i)) ∧ Below w.heap.size w w') := (jrest_any g F.bs F.left F.res F.dead F.done i w.drew hl4 (h.fl.keep rfl)).mono (fun e w' ⟨h1, h2⟩ => ⟨h1, ⟨h2.os, h2.tape, h2.output, h2.size, h2.block⟩⟩)
  obtain ⟨R, hR⟩ : ∃ R, R = actionOf st F.bs i code := ⟨_, rfl⟩
  rw [← hR]
  unfold actionOf at hR
  have hm := lt_of_block h.mach.mach
  have hp := lt_of_block h.mach.parts
  clear h
  generalize (st.cpart i).acts.getD code 0 = a at *
  generalize (st.cpart i).limit = lm at *
  generalize restartsOf F.bs i = rs at *
  by_cases ha : a = 4 ∨ a = 5
  · by_cases hb : lm ≤ rs
    · rw [if_pos ⟨ha, hb⟩] at hR
      subst hR
      have hd1 : decide (lm ≤ rs) = true := by simp [hb]
      rcases ha with rfl | rfl
      all_goals (
        go_enter Tryz.func114, Tryz.ntmps114
        go_wp2_with fail
        go_region_held (fun W : World => W.cell? ⟨L.mb, 0, none⟩ = some (.pointer (some ⟨g, 0, none⟩)) ∧ W.cell? ⟨L.pb, i * 14, none⟩ = some (.int .i64 i) ∧ W.cell? ⟨L.pb, i * 14 + 2, none⟩ = some (.int .i64 lm))
          ((first | (with_reducible assumption) | exact ⟨c0, p0, p2⟩))
          (first | (go_at_call 75; refine HJ.out.mono ?_; rintro e w9 ⟨rfl, hb9⟩; have hS : w9.cell? ⟨L.mb, 0, none⟩ = some (.pointer (some ⟨g, 0, none⟩)) ∧ w9.cell? ⟨L.pb, i * 14, none⟩ = some (.int .i64 i) ∧ w9.cell? ⟨L.pb, i * 14 + 2, none⟩ = some (.int .i64 lm) := ⟨(hb9.cell (p := ⟨L.mb, 0, none⟩) hm).trans c0, (hb9.cell (p := ⟨L.pb, i * 14, none⟩) hp).trans p0, (hb9.cell (p := ⟨L.pb, i * 14 + 2, none⟩) hp).trans p2⟩))
        all_goals (go_wp2; go_ret; exact ⟨rfl, by assumption⟩))
    · rw [if_neg (fun h => hb h.2)] at hR
      have hd1 : decide (lm ≤ rs) = false := by simp; omega
      subst hR
      rcases ha with rfl | rfl
      all_goals (
        go_enter Tryz.func114, Tryz.ntmps114
        go_wp2_with fail
        go_region_held (fun W : World => W.cell? ⟨L.mb, 0, none⟩ = some (.pointer (some ⟨g, 0, none⟩)) ∧ W.cell? ⟨L.pb, i * 14, none⟩ = some (.int .i64 i) ∧ W.cell? ⟨L.pb, i * 14 + 2, none⟩ = some (.int .i64 lm))
          ((first | (with_reducible assumption) | exact ⟨c0, p0, p2⟩))
          (first | (go_at_call 75; refine HJ.out.mono ?_; rintro e w9 ⟨rfl, hb9⟩; have hS : w9.cell? ⟨L.mb, 0, none⟩ = some (.pointer (some ⟨g, 0, none⟩)) ∧ w9.cell? ⟨L.pb, i * 14, none⟩ = some (.int .i64 i) ∧ w9.cell? ⟨L.pb, i * 14 + 2, none⟩ = some (.int .i64 lm) := ⟨(hb9.cell (p := ⟨L.mb, 0, none⟩) hm).trans c0, (hb9.cell (p := ⟨L.pb, i * 14, none⟩) hp).trans p0, (hb9.cell (p := ⟨L.pb, i * 14 + 2, none⟩) hp).trans p2⟩))
        all_goals (go_wp2; go_ret; exact ⟨rfl, by assumption⟩))
  · rw [if_neg (fun h => ha h.1)] at hR
    subst hR
    have b4 : (R == 4) = false := by simp; omega
    have b5 : (R == 5) = false := by simp; omega
    go_enter Tryz.func114, Tryz.ntmps114
    go_wp2_with fail
    go_quiet (fail)
    go_wp2
    go_ret
    exact ⟨rfl, ⟨rfl, rfl, rfl, Nat.le_refl _, fun _ _ => rfl⟩⟩
theorem action_five (st : RSt) (bs : List Int) (i : Nat) (h : StOk st) (hi : i < st.parts.length) : actionOf st bs i 5 ≠ 2 ∧ actionOf st bs i 5 ≠ 3 := by
  have h1 := (h.good.parts (st.cf.parts.getD i default) (getD_mem (by rw [← h.len]; exact hi))).last
  unfold actionOf
  split
  · exact ⟨by decide, by decide⟩
  · exact h1
set_option maxRecDepth 100000 in
set_option maxHeartbeats 2000000 in
theorem fault_any (L : MLay) (g : Nat) (st : RSt) (F : Fl) (i n code : Nat) (q : Option Addr) (w : World) (h : Mo w L g st F) (hi : i < st.parts.length) (hn : n < (st.part i).procs.length) (hc : code < 6) (hq : q = some ⟨L.pr i, n * 6, none⟩ ∨ code = 5) :
    Calls Tryz.prog 78 #[.pointer (some ⟨L.mb, 0, none⟩), .pointer (some ⟨L.pb, i * 14, none⟩), .pointer q, .int .i64 code] w fun e w' =>
      e = .returned (.bool (faultS i n code (st, F)).1) ∧ Mo w' L g (faultS i n code (st, F)).2.1 (faultS i n code (st, F)).2.2 ∧ Touch (Dm L g st) w w' := by
  have HA := hide (action_any L g st F i code w h hi hc)
  have hq2 : q = some ⟨L.pr i, n * 6, none⟩ ∨ (actionOf st F.bs i code ≠ 2 ∧ actionOf st F.bs i code ≠ 3) := by
    rcases hq with hq | rfl
    · exact .inl hq
    · exact .inr (action_five st F.bs i h.ok hi)
  have HF5 : Hid (faultS i n code (st, F) = if (F.app i code (actionOf st F.bs i code)).1 = true then (true, st.act i n (actionOf st F.bs i code), (F.app i code (actionOf st F.bs i code)).2) else (false, st, (F.app i code (actionOf st F.bs i code)).2)) := rfl
  have H := hide h
  have HQ := hide hq2
  have HOK := hide (h.flok.app i code (actionOf st F.bs i code))
  clear h hq hq2
  generalize faultS i n code (st, F) = R at *
  generalize actionOf st F.bs i code = a at *
  go_enter Tryz.func78, Tryz.ntmps78
  go_wp2_with fail
  refine HA.out.mono ?_
  rintro e w1 ⟨rfl, hb1⟩
  have hM1 := H.out.mono hb1
  have c0 := hM1.mach.machAt 0
  simp only [List.getElem?_toArray, List.getElem?_cons_zero] at c0
  have p0 := hM1.mach.partAt i 0 hi (by omega)
  simp only [mpartC, List.getElem?_cons_zero, Nat.add_zero] at p0
  have HAP : Hid (Calls Tryz.prog 115 #[.agg #[.pointer (some ⟨g, 0, none⟩)], .int .i64 i, .int .i64 code, .int .i64 a] w1.drew fun e w' => e = .returned (.bool (F.app i code a).1) ∧ FlAt w' g (F.app i code a).2 ∧ Touch (· = g) w1 w') := (append_any g F i code a w1.drew (hM1.fl.keep rfl) hM1.flok).mono (fun e w' ⟨h1, h2, h3⟩ => ⟨h1, h2, (Touch.ofDrew w1).andThen h3⟩)
  have HB1 := hide hb1
  have HM1 := hide hM1
  have hmg : ¬ L.mb = g := ne_of_types hM1.mach.mach hM1.fl.blk (by decide)
  have hpg : ¬ L.pb = g := ne_of_types hM1.mach.parts hM1.fl.blk (by decide)
  have hm := lt_of_block hM1.mach.mach
  have hp := lt_of_block hM1.mach.parts
  clear hb1 hM1 HA
  generalize F.app i code a = E at *
  obtain ⟨b, F2⟩ := E
  simp only at HAP HOK HF5
  go_wp2_with fail
  go_cut [25] from 10 to 25 (fun v wx => v = .bool (!b) ∧ FlAt wx g F2 ∧ Touch (· = g) w1 wx)
  case first =>
    go_region_held (fun W : World => W.cell? ⟨L.mb, 0, none⟩ = some (.pointer (some ⟨g, 0, none⟩)) ∧ W.cell? ⟨L.pb, i * 14, none⟩ = some (.int .i64 i))
      ((first | (with_reducible assumption) | exact ⟨c0, p0⟩))
      (first | (go_at_call 115; refine HAP.out.mono ?_; rintro e w9 ⟨rfl, h91, h92⟩; have hS : w9.cell? ⟨L.mb, 0, none⟩ = some (.pointer (some ⟨g, 0, none⟩)) ∧ w9.cell? ⟨L.pb, i * 14, none⟩ = some (.int .i64 i) := ⟨(World.cell?_of_block (h92.block _ hm hmg)).trans c0, (World.cell?_of_block (h92.block _ hp hpg)).trans p0⟩))
    all_goals (go_wp2_with fail; go_meet; exact ⟨by first | rfl | simp, h91, h92⟩)
  case rest =>
    obtain ⟨rfl, h91, h92⟩ := hcut
    have hM2 := HM1.out.flash h92 h91 HOK.out
    have HT2 : Hid (Touch (Dm L g st) w wc) := (Touch.ofBelow HB1.out).andThen (h92.to (fun x e => .inr (.inr (.inr (.inr e)))))
    have HM2 := hide hM2
    clear h91 h92 hM2 HAP c0 p0
    cases b with
    | false =>
      rw [if_neg (by decide)] at HF5
      go_wp2
      go_ret
      rw [HF5.out]
      exact ⟨rfl, HM2.out, HT2.out⟩
    | true =>
      rw [if_pos rfl] at HF5
      have HAC := hide (act_any L g st F2 i n q a wc HM2.out hi hn HQ.out)
      go_wp2_with fail
      refine HAC.out.mono ?_
      rintro e w3 ⟨rfl, h1, h2⟩
      have HEND := hide (And.intro h1 (HT2.out.andThen h2))
      clear h1 h2
      go_wp2
      go_ret
      rw [HF5.out]
      exact ⟨rfl, HEND.out.1, HEND.out.2⟩
end Go.Proofs.YtnjlbgolnbdkaaaGreat
/- Ticks, plain: what stays as it is; numbers in their bounds; loops over lists. Plain. -/
namespace Go.Proofs.YtnjlbgolnbdkaaaGreat
open Go.RowKit

structure Lk (s s' : RSt) : Prop where
  cf : s'.cf = s.cf
  len : s'.parts.length = s.parts.length
  now : s'.now = s.now
theorem Lk.refl (s : RSt) : Lk s s := ⟨rfl, rfl, rfl⟩
theorem Lk.trans {a b c : RSt} (h : Lk a b) (k : Lk b c) : Lk a c := ⟨k.cf.trans h.cf, k.len.trans h.len, k.now.trans h.now⟩
theorem Lk.setPart (st : RSt) (i : Nat) (p : RPart) : Lk st (st.setPart i p) := ⟨rfl, RSt.setPart_len _ _ _, rfl⟩
theorem Lk.setProc (st : RSt) (i n : Nat) (x : RProc) : Lk st (st.setProc i n x) := Lk.setPart _ _ _
theorem Lk.act (st : RSt) (i n : Nat) (a : Int) : Lk st (st.act i n a) := ⟨RSt.act_cf _ _ _ _, RSt.act_len _ _ _ _, RSt.act_now _ _ _ _⟩
theorem Lk.fault (i n code : Nat) (s : SF) : Lk s.1 (faultS i n code s).2.1 := by
  unfold faultS
  split
  · exact Lk.act _ _ _ _
  · exact Lk.refl _
theorem Lk.watch (i : Nat) (s : SF) : Lk s.1 (watchS i s).2.1 := by
  unfold watchS
  split
  · exact Lk.refl _
  · exact (Lk.setPart _ _ _).trans (Lk.fault i 0 5 (_, s.2))
theorem Lk.late (i n : Nat) (s : SF) : Lk s.1 (lateS i n s).2.1 := by
  unfold lateS
  split
  · exact Lk.refl _
  · exact (Lk.setProc _ _ _ _).trans (Lk.fault i n 2 (_, s.2))
theorem Lk.loopB (f : Nat → SF → Bool × SF) (hf : ∀ k s, Lk s.1 (f k s).2.1) (k : Nat) (s : SF) : Lk s.1 (loopB f k s).2.1 :=
  loopB_ok (fun x => Lk s.1 x.1) f (fun k x hx => hx.trans (hf k x)) k s (Lk.refl _)
theorem Lk.lates (i : Nat) (s : SF) : Lk s.1 (latesS i s).2.1 := Lk.loopB _ (Lk.late i) _ s
def loopL (f : Nat → SF → Bool × SF) {N : Nat} (pre : List (Fin N)) (s : SF) : Bool × SF := pre.foldl (fun r k => andB r (f k.1)) (true, s)
theorem loopL_snoc (f : Nat → SF → Bool × SF) {N : Nat} (pre : List (Fin N)) (k : Fin N) (s : SF) (h : (loopL f pre s).1 = true) : loopL f (pre ++ [k]) s = f k.1 (loopL f pre s).2 := by
  unfold loopL at h ⊢
  rw [List.foldl_append]
  generalize pre.foldl (fun r k => andB r (f k.1)) (true, s) = r at *
  show andB r (f k.1) = _
  unfold andB
  rw [if_pos h]
theorem loopL_upto (f : Nat → SF → Bool × SF) (N : Nat) (s : SF) (k : Nat) (hk : k ≤ N) : loopL f (upto N k) s = loopB f k s := by
  induction k with
  | zero => rfl
  | succ k ih =>
    have := ih (by omega)
    unfold loopL at this ⊢
    rw [upto_succ N k (by omega), List.foldl_append, this]
    rfl
theorem Lk.loopL (f : Nat → SF → Bool × SF) (hf : ∀ k s, Lk s.1 (f k s).2.1) {N : Nat} (s : SF) : ∀ (pre : List (Fin N)) (r : Bool × SF), Lk s.1 r.2.1 → Lk s.1 (pre.foldl (fun r k => andB r (f k.1)) r).2.1 := by
  intro pre
  induction pre with
  | nil => intro r h; exact h
  | cons a l ih => intro r h; exact ih _ (andB_ok (fun x => Lk s.1 x.1) h (fun x hx => hx.trans (hf a.1 x)))
structure PrRun (len : Nat) (now : Int) (x : RProc) : Prop where
  next : 0 ≤ x.next ∧ x.next ≤ 1000 ∧ (x.stopped = true ∨ x.next < len)
  til : 0 ≤ x.til ∧ x.til ≤ now + 255
  dl : -1 ≤ x.dl ∧ x.dl ≤ now + 255 ∧ x.dl ≠ 0
structure StRun (st : RSt) : Prop where
  now : 0 ≤ st.now ∧ st.now ≤ 1000000000000
  watch : ∀ i, i < st.parts.length → 0 ≤ (st.part i).watch ∧ (st.part i).watch ≤ st.now
  proc : ∀ i n, i < st.parts.length → n < (st.part i).procs.length → PrRun (st.codeOf i n).length st.now (st.proc i n)
  queue : ∀ j, j < st.cf.chans.length → ((st.queues.getD j []).length : Int) ≤ (st.cf.chans.getD j default).depth
theorem PrRun.nought (len : Nat) (now : Int) (h : 0 < len) (hn : 0 ≤ now) : PrRun len now proc0 := ⟨⟨by decide, by decide, .inr (by show (0 : Int) < _; omega)⟩, ⟨by decide, by show (0 : Int) ≤ _; omega⟩, by decide, by show (-1 : Int) ≤ _; omega, by decide⟩
theorem StOk.codeLen {st : RSt} (h : StOk st) (i n : Nat) (hi : i < st.parts.length) (hn : n < (st.part i).procs.length) : 0 < (st.codeOf i n).length ∧ (st.codeOf i n).length ≤ 20 := by
  have hp := h.good.parts (st.cf.parts.getD i default) (getD_mem (by rw [← h.len]; exact hi))
  have hl := (h.part i hi).2
  have hq := hp.procs ((st.cf.parts.getD i default).procs.getD n default) (getD_mem (by rw [← hl]; exact hn))
  have := hq.len
  unfold RSt.codeOf RSt.cpart
  omega
theorem StRun.setPart {st : RSt} (h : StRun st) (i : Nat) (p : RPart) (hi : i < st.parts.length) (hw : 0 ≤ p.watch ∧ p.watch ≤ st.now) (hp : ∀ n, n < p.procs.length → PrRun (st.codeOf i n).length st.now (p.procs.getD n default)) : StRun (st.setPart i p) := by
  refine ⟨h.now, fun j hj => ?_, fun j n hj hn => ?_, h.queue⟩
  · by_cases e : i = j
    · subst e; rw [RSt.part_set hi]; exact hw
    · rw [RSt.part_other e]; exact h.watch j (by rw [RSt.setPart_len] at hj; exact hj)
  · by_cases e : i = j
    · subst e
      rw [RSt.part_set hi] at hn
      have e2 : (st.setPart i p).proc i n = p.procs.getD n default := by unfold RSt.proc; rw [RSt.part_set hi]
      rw [e2]
      exact hp n hn
    · rw [RSt.part_other e] at hn
      have e2 : (st.setPart i p).proc j n = st.proc j n := by unfold RSt.proc; rw [RSt.part_other e]
      rw [e2]
      exact h.proc j n (by rw [RSt.setPart_len] at hj; exact hj) hn
theorem StRun.setProc {st : RSt} (h : StRun st) (i n : Nat) (x : RProc) (hi : i < st.parts.length) (hx : PrRun (st.codeOf i n).length st.now x) : StRun (st.setProc i n x) := by
  refine h.setPart i _ hi (h.watch i hi) (fun k hk => ?_)
  simp only [List.length_set] at hk
  by_cases e : n = k
  · subst e
    have : ((st.part i).procs.set n x).getD n default = x := by simp [List.getD_eq_getElem?_getD, hk]
    rw [this]
    exact hx
  · have : ((st.part i).procs.set n x).getD k default = st.proc i k := by
      simp only [List.getD_eq_getElem?_getD]
      rw [List.getElem?_set_ne e]
      unfold RSt.proc
      rw [List.getD_eq_getElem?_getD]
    rw [this]
    exact h.proc i k hi hk
theorem StRun.mode {st : RSt} (h : StRun st) (i : Nat) (m : Int) (hi : i < st.parts.length) : StRun (st.setPart i { st.part i with mode := m }) := h.setPart i _ hi (h.watch i hi) (fun n hn => h.proc i n hi hn)
theorem StRun.watched {st : RSt} (h : StRun st) (i : Nat) (hi : i < st.parts.length) : StRun (st.setPart i { st.part i with watch := st.now }) := h.setPart i _ hi ⟨h.now.1, Int.le_refl _⟩ (fun n hn => h.proc i n hi hn)
theorem StRun.restart {st : RSt} (h : StRun st) (ho : StOk st) (i : Nat) (m : Int) (hi : i < st.parts.length) : StRun (st.restart i m) := by
  refine h.setPart i _ hi ⟨h.now.1, Int.le_refl _⟩ (fun n hn => ?_)
  simp only [restartP, List.length_replicate] at hn ⊢
  have : (List.replicate (st.part i).procs.length proc0).getD n default = proc0 := by simp [List.getD_eq_getElem?_getD, hn]
  rw [this]
  exact PrRun.nought _ _ (ho.codeLen i n hi hn).1 h.now.1
theorem StOk.restart {st : RSt} (ho : StOk st) (i : Nat) (m : Int) : StOk (st.restart i m) := by
  refine ho.setPart i _ ?_ ?_
  · simp only [restartP]; split <;> simp
  · simp [restartP]
theorem StOk.resetOne {st : RSt} (ho : StOk st) (i : Nat) : StOk (reset1 i st) := by
  unfold reset1
  split
  · exact ho
  · exact ho.restart i 1
theorem StRun.resetOne {st : RSt} (h : StRun st) (ho : StOk st) (i : Nat) (hi : i < st.parts.length) : StRun (reset1 i st) := by
  unfold reset1
  split
  · exact h
  · exact h.restart ho i 1 hi
theorem reset_fold (st : RSt) : st.reset = resetTo st (upto st.parts.length st.parts.length) := by
  rw [resetTo_all st st.parts.length rfl st.parts.length (Nat.le_refl _)]
  unfold RSt.reset
  simp
theorem resetTo_run {N : Nat} (pre : List (Fin N)) : ∀ st : RSt, StRun st → StOk st → N = st.parts.length → StRun (resetTo st pre) ∧ StOk (resetTo st pre) := by
  induction pre with
  | nil => intro st h ho _; exact ⟨h, ho⟩
  | cons k pre ih =>
    intro st h ho hN
    exact ih (reset1 k.1 st) (h.resetOne ho k.1 (by rw [← hN]; exact k.2)) (ho.resetOne k.1) (by rw [(reset1_like k.1 st).2.1]; exact hN)
theorem StRun.act {st : RSt} (h : StRun st) (ho : StOk st) (i n : Nat) (a : Int) (hi : i < st.parts.length) (hn : n < (st.part i).procs.length) : StRun (st.act i n a) := by
  have hx := h.proc i n hi hn
  have hl := ho.codeLen i n hi hn
  unfold RSt.act
  split
  · exact h.setProc i n _ hi ⟨⟨hx.next.1, hx.next.2.1, .inl rfl⟩, hx.til, hx.dl⟩
  split
  · exact h.setProc i n _ hi (PrRun.nought _ _ hl.1 h.now.1)
  split
  · exact h.restart ho i 2 hi
  split
  · exact h.restart ho i 1 hi
  split
  · exact h.mode i 3 hi
  split
  · rw [reset_fold]
    exact (resetTo_run _ st h ho rfl).1
  · exact h
theorem StOk.act {st : RSt} (ho : StOk st) (i n : Nat) (a : Int) : StOk (st.act i n a) := by
  unfold RSt.act
  split
  · exact ho.setPart i _ rfl (by simp)
  split
  · exact ho.setPart i _ rfl (by simp)
  split
  · exact ho.restart i 2
  split
  · exact ho.restart i 1
  split
  · exact ho.setPart i _ rfl rfl
  split
  · refine ⟨ho.good, by simpa [RSt.reset] using ho.len, fun j hj => ?_, ho.qlen⟩
    have hj' : j < st.parts.length := by simpa [RSt.reset] using hj
    have := ho.part j hj'
    have e : (st.reset.parts.getD j default) = if (st.part j).mode = 3 then st.part j else restartP 1 st.now (st.part j) := by
      unfold RSt.reset RSt.part
      simp [List.getD_eq_getElem?_getD, hj']
    rw [e]
    split
    · exact this
    · simp only [restartP, if_true, List.length_replicate]
      exact this
  · exact ho
def SRun (s : SF) : Prop := StRun s.1 ∧ StOk s.1
theorem SRun.fault {s : SF} (h : SRun s) (i n code : Nat) (hi : i < s.1.parts.length) (hn : n < (s.1.part i).procs.length) : SRun (faultS i n code s).2 := by
  unfold faultS
  split
  · exact ⟨h.1.act h.2 i n _ hi hn, h.2.act i n _⟩
  · exact h
theorem StOk.one {st : RSt} (ho : StOk st) (i : Nat) (hi : i < st.parts.length) : 0 < (st.part i).procs.length ∧ (st.part i).procs.length ≤ 2 := by
  have hp := (ho.good.parts (st.cf.parts.getD i default) (getD_mem (by rw [← ho.len]; exact hi))).few
  have hl := (ho.part i hi).2
  unfold RSt.part
  omega
theorem SRun.watch {s : SF} (h : SRun s) (i : Nat) (hi : i < s.1.parts.length) : SRun (watchS i s).2 := by
  unfold watchS
  split
  · exact h
  · have hS : SRun (s.1.setPart i { s.1.part i with watch := s.1.now }, s.2) := ⟨h.1.watched i hi, h.2.setPart i _ rfl rfl⟩
    refine hS.fault i 0 5 ?_ ?_
    · show i < (s.1.setPart i { s.1.part i with watch := s.1.now }).parts.length
      rw [RSt.setPart_len]
      exact hi
    · show 0 < ((s.1.setPart i { s.1.part i with watch := s.1.now }).part i).procs.length
      rw [RSt.part_set hi]
      exact (h.2.one i hi).1
theorem SRun.late {s : SF} (h : SRun s) (i n : Nat) (hi : i < s.1.parts.length) (hn : n < (s.1.part i).procs.length) : SRun (lateS i n s).2 := by
  have hx := h.1.proc i n hi hn
  unfold lateS
  split
  · exact h
  · have hx2 : PrRun (s.1.codeOf i n).length s.1.now { s.1.proc i n with dl := -1 } := ⟨hx.next, hx.til, Int.le_refl (-1), by have := h.1.now; show (-1 : Int) ≤ s.1.now + 255; omega, show (-1 : Int) ≠ 0 by decide⟩
    have hS : SRun (s.1.setProc i n { s.1.proc i n with dl := -1 }, s.2) := ⟨h.1.setProc i n _ hi hx2, h.2.setPart i _ rfl (by simp)⟩
    refine hS.fault i n 2 ?_ ?_
    · show i < (s.1.setProc i n { s.1.proc i n with dl := -1 }).parts.length
      rw [(setProc_like s.1 i n _).2.1]
      exact hi
    · show n < ((s.1.setProc i n { s.1.proc i n with dl := -1 }).part i).procs.length
      rw [(setProc_like s.1 i n _).2.2]
      exact hn
theorem SRun.loopL (f : Nat → SF → Bool × SF) (hl : ∀ k s, Lk s.1 (f k s).2.1) (hf : ∀ k s, SRun s → k < s.1.parts.length → SRun (f k s).2) {N : Nat} (s : SF) (hN : N = s.1.parts.length) : ∀ (pre : List (Fin N)) (r : Bool × SF), SRun r.2 → Lk s.1 r.2.1 → SRun (pre.foldl (fun r k => andB r (f k.1)) r).2 := by
  intro pre
  induction pre with
  | nil => intro r h _; exact h
  | cons a l ih =>
    intro r h k
    have h1 : SRun (andB r (f a.1)).2 := by
      unfold andB
      split
      · exact hf a.1 r.2 h (by rw [k.len, ← hN]; exact a.2)
      · exact h
    have h2 : Lk s.1 (andB r (f a.1)).2.1 := andB_ok (fun x => Lk s.1 x.1) k (fun x hx => hx.trans (hl a.1 x))
    exact ih _ h1 h2
end Go.Proofs.YtnjlbgolnbdkaaaGreat
/- A region that draws its order and only reads, in the round of a range over a function. -/
namespace Go.Proofs.YtnjlbgolnbdkaaaGreat
open Go.RowKit

section
variable {F : Fence} {n : Nat} {P : Program} {ops : Array Oper} {C : World → Prop} {md : Region.Mode}
theorem wpIn_of_quietR {o : Oper} {a : Act} {K : Act → Prop} {K' : Act → World → Prop} {Q' : Exit → Act → World → Prop} {w : World} (hs : o.semAt F.round a.eval = execOp a.eval o) (hw : C w) (h : ∀ a w', C w' → K a → K' a w')
    (ha : o.askedIn F P a C) (hh : o.quietIn F n P a C K) : o.wpIn F n P a w K' Q' := by
  obtain ⟨v, h1, h2⟩ := hh
  have h3 := h1 w hw
  unfold Oper.quietAtIn at h3
  unfold Oper.wpIn
  refine ⟨ha w hw, ?_⟩
  rw [hs]
  generalize (execOp a.eval o).run P w = r at *
  cases r with
  | ok x w' =>
    cases x <;> simp only [Oper.quietUponIn] at h3 <;> simp only [Oper.uponIn]
    case value u =>
      obtain ⟨e1, e2⟩ := h3
      rw [e1, e2]
      exact h _ _ hw h2
    case skip =>
      obtain ⟨e1, e2⟩ := h3
      rw [e1, ← e2]
      exact h _ _ hw h2
    case enter f args =>
      obtain ⟨e1, hd, hc⟩ := h3
      rw [e1]
      exact ⟨hd, hc.mono fun e w'' ⟨he, hw''⟩ => by subst he; exact h _ _ hw'' h2⟩
  | halt x w' => simp only [Oper.quietUponIn] at h3
theorem semAt_any (o : Oper) (ρ : Operand → Value) (h : ∀ c, o.op ≠ .defer c) : o.semAt F.round ρ = execOp ρ o := by
  cases F.round with
  | none => simp [Oper.semAt]
  | some l => exact Oper.semAt_some l _ _ h
theorem wpOpIn_of_qR {i : Nat} {a : Act} {K : Act → Prop} {K' : Act → World → Prop} {Q' : Exit → Act → World → Prop} {w : World} (hd : ∀ (i : Nat) (o : Oper), ops[i]? = some o → ∀ c, o.op ≠ .defer c) (hC : C w) (h : ∀ a w', C w' → K a → K' a w')
    (hh : qOpIn F n P ops C i K a) : wpOpIn F n P ops Q' i K' a w := by
  unfold qOpIn at hh
  unfold wpOpIn
  split
  · rename_i ho; simp only [ho] at hh; exact h _ _ hC hh
  · rename_i o ho
    simp only [ho] at hh
    obtain ⟨ha, hh⟩ := hh
    split
    · rename_i hw; simp only [hw, if_true] at hh; exact wpIn_of_quietR (semAt_any o a.eval (hd i o ho)) hC h ha hh
    · rename_i hw; simp only [hw] at hh; exact ⟨ha w hC, h _ _ hC hh⟩
theorem wpAnyIn_of_qR {Q : Act → Prop} {Q' : Exit → Act → World → Prop} (hd : ∀ (i : Nat) (o : Oper), ops[i]? = some o → ∀ c, o.op ≠ .defer c) (hQ : ∀ a w, C w → Q a → Q' .normal a w) : ∀ (fuel : Nat) (listed : Array Bool) (a : Act) (w : World), C w →
    wpAnyQIn F n P md ops C Q fuel listed a → wpAnyIn F n P md ops Q' fuel listed a w
  | 0, _, _, _, hw, h => ⟨h.1, hQ _ _ hw h.2⟩
  | fuel + 1, _, _, _, hw, h => ⟨fun h0 => hQ _ _ hw (h.1 h0), fun i hi => wpOpIn_of_qR hd hw (fun a' w' hw' => wpAnyIn_of_qR hd hQ fuel _ a' w' hw') (h.2 i hi)⟩
def noDefer (l : List Oper) : Bool := l.all fun o => match o.op with | .defer _ => false | _ => true
theorem noDefer_spec {l : List Oper} (h : noDefer l = true) (i : Nat) (o : Oper) (ho : l.toArray[i]? = some o) (c : Call) : o.op ≠ .defer c := by
  intro e
  have h1 := List.all_eq_true.1 h o (List.mem_of_getElem? (by simpa using ho))
  rw [e] at h1
  simp at h1
theorem region_quiet_round {id : Nat} {Q : Exit → Act → World → Prop} {a : Act} {w : World} {l : List Oper} (hd : noDefer l = true) (hm : P.follows .mixedOrders = true) (hB : Region.lexB .any l.toArray = true)
    (h : wpQuietIn F n P l.toArray (fun w' => ∃ n, w' = w.drewN n) (fun a' => ∀ w', (∃ n, w' = w.drewN n) → Q .normal a' w') l a) : (Code.region id l.toArray true).wpIn F n P Q a w := by
  simp only [Region.lexB, Bool.and_eq_true] at hB
  refine wpIn_region_any hm (wpAnyIn_of_qR (Q := fun a' => ∀ w', (∃ n, w' = w.drewN n) → Q .normal a' w') (C := fun w' => ∃ n, w' = w.drewN n) (noDefer_spec hd) (fun _ w' hw' h => h w' hw') _ _ _ _ ⟨1, rfl⟩ ?_)
  have := wpAnyQIn_lex (F := F) (n := n) (C := fun w' => ∃ n, w' = w.drewN n) (md := .any) hB.1 l 0 (Array.replicate l.toArray.size false) a (by simp) (by simpa using hB.2) h
  simpa using this
end
end Go.Proofs.YtnjlbgolnbdkaaaGreat
/- The program's watches. -/
namespace Go.Proofs.YtnjlbgolnbdkaaaGreat
open Go.RowKit Go.Shelf

attribute [local go_sem] Oper.semAt_some

theorem Mo.box {W W' : World} {L : MLay} {g b : Nat} {st : RSt} {F : Fl} {c : Array Value} {T : TypeId} (h : Mo W L g st F) (hb : W.heap[b]? = some (.cells c T (0, 0))) (hT : T ≠ 145 ∧ T ≠ 120 ∧ T ≠ 3 ∧ T ≠ 166 ∧ T ≠ 131 ∧ T ≠ 139 ∧ T ≠ 210 ∧ T ≠ 80) (ht : Touch (· = b) W W') : Mo W' L g st F := by
  have key : ∀ {x : Nat} {d : Array Value} {t : TypeId}, W.heap[x]? = some (Obj.cells d t (0, 0)) → T ≠ t → W'.heap[x]? = W.heap[x]? := fun hx hne => ht.block _ (lt_of_block hx) (fun e => ne_of_types hb hx hne (show b = _ from (show _ = b from e).symm))
  have kc : ∀ {x : Nat} {d : Array Value} {t : TypeId}, W.heap[x]? = some (Obj.cells d t (0, 0)) → T ≠ t → W'.heap[x]? = some (Obj.cells d t (0, 0)) := fun hx hne => (key hx hne).trans hx
  refine ⟨⟨kc h.mach.mach hT.1, kc h.mach.parts hT.2.1, fun i hi => kc (h.mach.words i hi) hT.2.2.1, fun i hi => kc (h.mach.procs i hi) hT.2.2.2.1, fun i hi => kc (h.mach.turns i hi) hT.2.2.1, kc h.mach.wins hT.2.2.2.2.1, kc h.mach.chans hT.2.2.2.2.2.1, fun j hj => ?_, fun i k hi hk => ?_⟩, h.lay, h.ok, h.fl.keep (key h.fl.blk hT.2.2.2.2.2.2.2), h.flok⟩
  · obtain ⟨s, r, hq⟩ := h.mach.queue j hj
    exact ⟨s, r, (ht.block _ (lt_of_block hq) (fun e => ne_of_chan hb hq (show b = L.ch j from (show L.ch j = b from e).symm))).trans hq⟩
  · refine own_keep (h.mach.code i k hi hk) (fun x e => ?_)
    obtain ⟨cur, hcu⟩ := own_of (h.mach.code i k hi hk) e
    exact key hcu hT.2.2.2.2.2.2.1
theorem Dm.like {L : MLay} {g : Nat} {s s' : RSt} (h : Lk s s') {b : Nat} : Dm L g s' b → Dm L g s b := fun hb => by
  unfold Dm at hb ⊢
  rw [h.cf, h.len] at hb
  exact hb
set_option maxRecDepth 100000 in
set_option maxHeartbeats 2000000 in
theorem watches_any (L : MLay) (g : Nat) (st : RSt) (F : Fl) (w : World) (h : Mo w L g st F) (hrun : StRun st) :
    Calls Tryz.prog 106 #[.pointer (some ⟨L.mb, 0, none⟩)] w fun e w' => e = .returned (.bool (watchesS (st, F)).1) ∧ Mo w' L g (watchesS (st, F)).2.1 (watchesS (st, F)).2.2 ∧ Touch (Dm L g st) w w' := by
  have hmx : Tryz.prog.follows .mixedOrders = true := by kernel_rfl
  obtain ⟨N, hN⟩ : ∃ N, N = st.parts.length := ⟨_, rfl⟩
  have hN2 : N ≤ 1000 := by have := h.ok.good.few; have := h.ok.len; omega
  have c2 := h.mach.machAt 2
  have c3 := h.mach.machAt 3
  simp only [List.getElem?_toArray, List.getElem?_cons_succ, List.getElem?_cons_zero] at c2 c3
  rw [← hN] at c3
  have HN := hide hN
  have H := hide h
  have hmb := lt_of_block h.mach.mach
  clear hN
  refine (callsIn_wide (n := 4)).1 ?_
  refine callsIn_of_wp_marks Tryz.func106 rfl trivial ?_ rfl
  simp only [Tryz.ntmps106, List.size_toArray, List.length_cons, List.length_nil, Nat.reduceAdd, Nat.reduceSub, Array.replicate_succ, Array.replicate_zero, List.push_toArray, List.append_toArray, List.nil_append, List.cons_append]
  obtain ⟨R, hR⟩ : ∃ R, R = watchesS (st, F) := ⟨_, rfl⟩
  rw [← hR]
  unfold watchesS at hR
  simp only at hR
  by_cases h0 : st.cf.watch = 0
  · rw [if_pos h0] at hR
    have h0b : (st.cf.watch == 0) = true := by simp [h0]
    have HR := hide hR
    clear h hR h0
    have HEND : Hid (Mo ((w.alloc (.cells #[.pointer (some ⟨L.mb, 0, none⟩)] 74)).alloc (.cells #[.bool true] 4)) L g st F ∧ Touch (Dm L g st) w ((w.alloc (.cells #[.pointer (some ⟨L.mb, 0, none⟩)] 74)).alloc (.cells #[.bool true] 4))) := by
      have hb : Below w.heap.size w ((w.alloc (.cells #[.pointer (some ⟨L.mb, 0, none⟩)] 74)).alloc (.cells #[.bool true] 4)) := ((Below.refl _ _).alloc (Nat.le_refl _) _).alloc (by simp) _
      exact ⟨H.out.mono hb, Touch.ofBelow hb⟩
    gi_wp2
    rw [HR.out]
    exact ⟨.bool true, by simp [results, Tryz.results106, go_sem], rfl, HEND.out.1, HEND.out.2⟩
  · rw [if_neg h0] at hR
    have h0b : (st.cf.watch == 0) = false := by simp [h0]
    have HR := hide hR
    clear hR h0
    gi_wp2_with (refine ⟨trivial, ?_⟩; gi_at_call 145; refine (callsIn_wide.2 (partAll_any _ _ _)).mono ?_; rintro e w' ⟨rfl, rfl⟩)
    have bA := Boxed.new w 74 (.pointer (some ⟨L.mb, 0, none⟩))
    have bR := Boxed.new (w.alloc (.cells #[.pointer (some ⟨L.mb, 0, none⟩)] 74)) 4 (.bool false)
    have bC := Boxed.new ((w.alloc (.cells #[.pointer (some ⟨L.mb, 0, none⟩)] 74)).alloc (.cells #[.bool false] 4)) 111 (.slice (some ⟨L.pb, 0, none⟩) N N)
    simp only [World.size_alloc] at bC bR
    have bA2 := (bA.alloc (.cells #[.bool false] 4)).alloc (.cells #[.slice (some ⟨L.pb, 0, none⟩) N N] 111)
    have bR2 := bR.alloc (.cells #[.slice (some ⟨L.pb, 0, none⟩) N N] 111)
    obtain ⟨w2, hw2⟩ : ∃ w2, w2 = ((w.alloc (.cells #[.pointer (some ⟨L.mb, 0, none⟩)] 74)).alloc (.cells #[.bool false] 4)).alloc (.cells #[.slice (some ⟨L.pb, 0, none⟩) N N] 111) := ⟨_, rfl⟩
    have hs2 : w2.heap.size = w.heap.size + 3 := by rw [hw2]; simp
    have hb2 : Below w.heap.size w w2 := by rw [hw2]; exact (((Below.refl _ _).alloc (Nat.le_refl _) _).alloc (by simp) _).alloc (by simp; omega) _
    rw [← hw2] at bC bA2 bR2 ⊢
    have hM2 := h.mono hb2
    have HS2 := hide hs2
    clear hw2 bA bR
    have hlt2 : ∀ b, Dm L g st b → b < w.heap.size := fun b hb => h.lt b hb
    have hsr : ∀ pre : List (Fin N), SRun (loopL watchS pre (st, F)).2 := fun pre => SRun.loopL watchS Lk.watch (fun k s hs hk => hs.watch k hk) (st, F) HN.out pre _ ⟨hrun, h.ok⟩ (Lk.refl _)
    have hlk : ∀ pre : List (Fin N), Lk st (loopL watchS pre (st, F)).2.1 := fun pre => Lk.loopL watchS Lk.watch (st, F) pre _ (Lk.refl _)
    refine wpIn_rangeFunc_ownG rfl (by omega) (gf := 184) (lb := #[.pointer (some ⟨w.heap.size + 1 + 1, 0, none⟩)]) rfl trivial (enters_of Tryz.func184 (by kernel_rfl) rfl)
      (partAll_stops _ _ trivial rfl (by omega) N hN2 (w.heap.size + 1 + 1) L.pb w2 (by omega) bC) (fun h k => k.trans h) (fun W l o o' hl _ _ _ => World.putObj_heap_other (by omega)) (Below.refl _ _) (fun _ => rfl)
      (fun pre W => ((loopL watchS pre (st, F)).1 = true) ∧ Mo W L g (loopL watchS pre (st, F)).2.1 (loopL watchS pre (st, F)).2.2 ∧ Boxed W w.heap.size 74 (.pointer (some ⟨L.mb, 0, none⟩)) ∧ Boxed W (w.heap.size + 1) 4 (.bool false) ∧ Boxed W (w.heap.size + 1 + 1) 111 (.slice (some ⟨L.pb, 0, none⟩) N N) ∧ Touch (Dm L g st) w W)
      (fun c pre W => (c = .ret ∧ (loopL watchS pre (st, F)).1 = false) ∧ Mo W L g (loopL watchS pre (st, F)).2.1 (loopL watchS pre (st, F)).2.2 ∧ Boxed W (w.heap.size + 1) 4 (.bool false) ∧ Touch (Dm L g st) w W)
      (OwnFrom.and (ownFrom_pure _ _) (OwnFrom.and (ownFrom_mo (fun pre => (loopL watchS pre (st, F)).2.1) (fun pre => (loopL watchS pre (st, F)).2.2) (fun pre b hb => by have := hlt2 b (Dm.like (hlk pre) hb); omega)) (OwnFrom.and (Own.from (boxed_own _ _ _) _) (OwnFrom.and (Own.from (boxed_own _ _ _) _) (OwnFrom.and (Own.from (boxed_own _ _ _) _) (ownFrom_touch (by omega)))))))
      (fun c => OwnFrom.and (ownFrom_pure _ _) (OwnFrom.and (ownFrom_mo (fun pre => (loopL watchS pre (st, F)).2.1) (fun pre => (loopL watchS pre (st, F)).2.2) (fun pre b hb => by have := hlt2 b (Dm.like (hlk pre) hb); omega)) (OwnFrom.and (Own.from (boxed_own _ _ _) _) (ownFrom_touch (by omega)))))
      ⟨rfl, hM2, bA2, bR2, bC, Touch.ofBelow hb2⟩
      (fun k => { tmps := #[.pointer (some ⟨L.mb, 0, none⟩), .pointer (some ⟨w.heap.size, 0, none⟩), .pointer (some ⟨w.heap.size + 1, 0, none⟩), undef, .pointer (some ⟨L.pb, k.1 * 14, none⟩), .pointer (some ⟨L.mb, 0, none⟩), .pointer (some ⟨L.mb, 0, none⟩), .pointer (some ⟨L.mb, 2, none⟩), .int .i64 st.cf.watch, .bool false, .pointer (some ⟨L.mb, 0, none⟩), .pointer (some ⟨L.mb, 0, none⟩), .pointer (some ⟨L.mb, 3, none⟩), .agg #[.slice (some ⟨L.pb, 0, none⟩) N N], .func (.func 184) #[] #[.pointer (some ⟨w.heap.size + 1 + 1, 0, none⟩)], .int .i64 k.1, .pointer (some ⟨L.pb, k.1 * 14, none⟩), undef, undef, undef, undef, undef, undef, undef, undef, undef, undef, undef, undef, undef, undef, undef, undef, undef, undef, undef, undef, undef, undef, undef, undef, undef, undef, undef, undef, undef, undef], defers := [] }) ?assign ?body ?done ?stop
    case assign =>
      intro l k W K hK
      gi_wp2
      exact hK
    case body =>
      rintro l pre k W ⟨hy, hm, hv, hr, hc, hT⟩ hlt
      have hl := hlk pre
      obtain ⟨X, hX⟩ : ∃ X, X = loopL watchS pre (st, F) := ⟨_, rfl⟩
      rw [← hX] at hy hm hl
      have hki : k.1 < X.2.1.parts.length := by rw [hl.len, ← HN.out]; exact k.2
      have d9 := hm.mach.partAt k.1 9 hki (by omega)
      have d13 := hm.mach.partAt k.1 13 hki (by omega)
      simp only [mpartC, List.getElem?_cons_succ, List.getElem?_cons_zero] at d9 d13
      have d2 := hm.mach.machAt 2
      have d6 := hm.mach.machAt 6
      simp only [List.getElem?_toArray, List.getElem?_cons_succ, List.getElem?_cons_zero] at d2 d6
      have dv := hv.cell
      have f13 := free_of_block hm.mach.parts (k.1 * 14 + 13)
      have HRU : Hid (∀ q, Calls Tryz.prog 77 #[.pointer (some ⟨L.pb, k.1 * 14, none⟩)] (W.drewN q) fun e w' => e = .returned (.bool ((X.2.1.part k.1).mode != 3)) ∧ w' = W.drewN q) := fun q => runs_any L.pb (k.1 * 14) _ (W.drewN q) d9
      have HSN := hide (loopL_snoc watchS pre k (st, F) (by rw [← hX]; exact hy))
      rw [← hX] at HSN
      have HWS : Hid (watchS k.1 X.2 = if (X.2.1.part k.1).mode = 3 ∨ X.2.1.now - (X.2.1.part k.1).watch < X.2.1.cf.watch then (true, X.2) else faultS k.1 0 5 (X.2.1.setPart k.1 { X.2.1.part k.1 with watch := X.2.1.now }, X.2.2)) := rfl
      have hrr := hsr pre
      rw [← hX] at hrr
      have hrw := hrr.1.watch k.1 hki
      have hrn := hrr.1.now
      have hone := (hrr.2.one k.1 hki).1
      have HFA : Hid (∀ q, Calls Tryz.prog 78 #[.pointer (some ⟨L.mb, 0, none⟩), .pointer (some ⟨L.pb, k.1 * 14, none⟩), .pointer none, .int .i64 5] ((W.drewN q).setCell ⟨L.pb, k.1 * 14 + 13, none⟩ (.int .i64 X.2.1.now)) fun e w' => e = .returned (.bool (faultS k.1 0 5 (X.2.1.setPart k.1 { X.2.1.part k.1 with watch := X.2.1.now }, X.2.2)).1) ∧ Mo w' L g (faultS k.1 0 5 (X.2.1.setPart k.1 { X.2.1.part k.1 with watch := X.2.1.now }, X.2.2)).2.1 (faultS k.1 0 5 (X.2.1.setPart k.1 { X.2.1.part k.1 with watch := X.2.1.now }, X.2.2)).2.2 ∧ Touch (Dm L g st) W w') := fun q => by
        have hmq : Mo (W.drewN q) L g X.2.1 X.2.2 := hm.mono ⟨rfl, rfl, rfl, Nat.le_refl _, fun _ _ => rfl⟩
        have hst2 := hmq.setPart k.1 { X.2.1.part k.1 with watch := X.2.1.now } rfl rfl (Touch.ofSet (W.drewN q) L.pb (k.1 * 14 + 13) (.int .i64 X.2.1.now) rfl) (hmq.mach.setWatch k.1 X.2.1.now hki)
        refine (fault_any L g _ X.2.2 k.1 0 5 none _ hst2.1 (by rw [RSt.setPart_len]; exact hki) (by rw [RSt.part_set hki]; exact hone) (by omega) (.inr rfl)).mono ?_
        rintro e w' ⟨h1, h2, h3⟩
        exact ⟨h1, h2, (Touch.ofDrewN W q).andThen ((hst2.2.to (fun b hb => Dm.like hl hb)).andThen (h3.to (fun b hb => Dm.like hl (Dm.like (Lk.setPart _ _ _) hb))))⟩
      have HY := hide hy
      have HM := hide hm
      have HV := hide hv
      have HRB := hide hr
      have HC := hide hc
      have HT := hide hT
      have HLT := hide hlt2
      have hdv : ¬ L.pb = w.heap.size := by have := hlt2 L.pb (.inr (.inl rfl)); omega
      clear hy hm hv hr hc hT hM2 c2 c3 hlt hsr hlk hl hrr d9 hX hlt2 h hrun
      obtain ⟨xb, xs, xF⟩ := X
      simp only at *
      have e1 : IntKind.i64.wrap (xs.now - (xs.part k.1).watch) = xs.now - (xs.part k.1).watch := by rw [IntKind.wrap_i64]; omega
      have HSAME : Hid (watchS k.1 (xs, xF) = (true, xs, xF) → KeepsFrom w2.heap.size W (W.drewN 1) ∧ True) := fun _ => ⟨⟨Nat.le_refl _, fun _ _ _ h0 _ => h0⟩, trivial⟩
      have HGO : Hid (∀ q, loopL watchS (pre ++ [k]) (st, F) = (true, xs, xF) → KeepsFrom w2.heap.size W (W.drewN q) ∧ (W.drewN q).heap[w.heap.size + 1 + 1]? = W.heap[w.heap.size + 1 + 1]? ∧ ((loopL watchS (pre ++ [k]) (st, F)).1 = true) ∧ Mo (W.drewN q) L g (loopL watchS (pre ++ [k]) (st, F)).2.1 (loopL watchS (pre ++ [k]) (st, F)).2.2 ∧ Boxed (W.drewN q) w.heap.size 74 (.pointer (some ⟨L.mb, 0, none⟩)) ∧ Boxed (W.drewN q) (w.heap.size + 1) 4 (.bool false) ∧ Boxed (W.drewN q) (w.heap.size + 1 + 1) 111 (.slice (some ⟨L.pb, 0, none⟩) N N) ∧ Touch (Dm L g st) w (W.drewN q)) := fun q e => by
        rw [e]
        exact ⟨⟨Nat.le_refl _, fun _ _ _ h0 _ => h0⟩, rfl, rfl, HM.out.mono ⟨rfl, rfl, rfl, Nat.le_refl _, fun _ _ => rfl⟩, HV.out, HRB.out, HC.out, HT.out.drewN2 q⟩
      clear HSAME
      by_cases h3 : (xs.part k.1).mode = 3
      · have h3b : ((xs.part k.1).mode != 3) = false := by simp [h3]
        rw [if_pos (.inl h3)] at HWS
        rw [HWS.out] at HSN
        clear h3 HFA
        generalize (xs.part k.1).mode = mo at *
        generalize (xs.part k.1).watch = wt at *
        gi_wp2_with fail
        refine region_quiet_round (by kernel_rfl) hmx (by kernel_rfl) ?_
        repeat (refine wpQuietIn_step (fun _ _ _ _ => trivial) (fun K hK => ?_); go_simp; first | (refine hK _ ?_; clear hK K) | (apply Exists.intro; refine ⟨fun _ => ?_, hK _ ?_⟩; (gi_at_call 77; exact CallsIn.quiet_of_same (CallsIn.inRound l (callsIn_wide.2 (HRU.out _)))); clear hK K))
        refine wpQuietIn_nil ?_
        intro _ hw'
        obtain ⟨nq, hw''⟩ := hw'
        subst hw''
        gi_wp2
        exact HGO.out _ HSN.out
      · have h3b : ((xs.part k.1).mode != 3) = true := by simp [h3]
        by_cases hwt : xs.now - (xs.part k.1).watch < xs.cf.watch
        · rw [if_pos (.inr hwt)] at HWS
          rw [HWS.out] at HSN
          clear h3 HFA
          generalize (xs.part k.1).mode = mo at *
          generalize (xs.part k.1).watch = wt at *
          gi_wp2_with fail
          refine region_quiet_round (by kernel_rfl) hmx (by kernel_rfl) ?_
          repeat (refine wpQuietIn_step (fun _ _ _ _ => trivial) (fun K hK => ?_); go_simp; first | (refine hK _ ?_; clear hK K) | (apply Exists.intro; refine ⟨fun _ => ?_, hK _ ?_⟩; (gi_at_call 77; exact CallsIn.quiet_of_same (CallsIn.inRound l (callsIn_wide.2 (HRU.out _)))); clear hK K))
          refine wpQuietIn_nil ?_
          intro _ hw'
          obtain ⟨nq, hw''⟩ := hw'
          subst hw''
          gi_wp2
          exact HGO.out _ HSN.out
        · rw [if_neg (by rintro (h | h); exact h3 h; exact hwt h)] at HWS
          rw [HWS.out] at HSN
          clear h3
          generalize (xs.part k.1).mode = mo at *
          have hwb : decide (xs.now - (xs.part k.1).watch < xs.cf.watch) = false := by simp; omega
          clear hwt
          gi_wp2_with fail
          refine region_quiet_round (by kernel_rfl) hmx (by kernel_rfl) ?_
          repeat (refine wpQuietIn_step (fun _ _ _ _ => trivial) (fun K hK => ?_); go_simp; first | (refine hK _ ?_; clear hK K) | (apply Exists.intro; refine ⟨fun _ => ?_, hK _ ?_⟩; (gi_at_call 77; exact CallsIn.quiet_of_same (CallsIn.inRound l (callsIn_wide.2 (HRU.out _)))); clear hK K))
          refine wpQuietIn_nil ?_
          intro _ hw'
          obtain ⟨nq, hw''⟩ := hw'
          subst hw''
          gi_wp2_with fail
          refine ⟨trivial, ?_⟩
          refine (CallsIn.inRound l (callsIn_wide.2 (HFA.out _))).mono ?_
          rintro e W5 ⟨rfl, h51, h52⟩
          rw [← HSN.out] at h51 ⊢
          have hb1 : W5.heap[w.heap.size]? = W.heap[w.heap.size]? := h52.block _ HV.out.lt (fun hd => by have := HLT.out _ hd; omega)
          have hb2' : W5.heap[w.heap.size + 1]? = W.heap[w.heap.size + 1]? := h52.block _ HRB.out.lt (fun hd => by have := HLT.out _ hd; omega)
          have hb3 : W5.heap[w.heap.size + 1 + 1]? = W.heap[w.heap.size + 1 + 1]? := h52.block _ HC.out.lt (fun hd => by have := HLT.out _ hd; omega)
          have hKF : KeepsFrom w2.heap.size W W5 := keepsFrom_touch h52 (fun b hb => by have := HLT.out b hb; have := HS2.out; omega)
          have hbr : Boxed W5 (w.heap.size + 1) 4 (.bool false) := hb2'.trans HRB.out
          have HEND : Hid (KeepsFrom w2.heap.size W W5 ∧ W5.heap[w.heap.size + 1 + 1]? = W.heap[w.heap.size + 1 + 1]? ∧ Mo W5 L g (loopL watchS (pre ++ [k]) (st, F)).2.1 (loopL watchS (pre ++ [k]) (st, F)).2.2 ∧ Boxed W5 w.heap.size 74 (.pointer (some ⟨L.mb, 0, none⟩)) ∧ Boxed W5 (w.heap.size + 1) 4 (.bool false) ∧ Boxed W5 (w.heap.size + 1 + 1) 111 (.slice (some ⟨L.pb, 0, none⟩) N N) ∧ Touch (Dm L g st) w W5) := ⟨hKF, hb3, h51, hb1.trans HV.out, hbr, hb3.trans HC.out, HT.out.andThen h52⟩
          have cr := hbr.cell
          have fr := hbr.frozen
          have hts : Touch (· = w.heap.size + 1) W5 (W5.setCell ⟨w.heap.size + 1, 0, none⟩ (.bool false)) := Touch.ofSet W5 _ _ _ rfl
          have HENF : Hid (KeepsFrom w2.heap.size W (W5.setCell ⟨w.heap.size + 1, 0, none⟩ (.bool false)) ∧ Mo (W5.setCell ⟨w.heap.size + 1, 0, none⟩ (.bool false)) L g (loopL watchS (pre ++ [k]) (st, F)).2.1 (loopL watchS (pre ++ [k]) (st, F)).2.2 ∧ Boxed (W5.setCell ⟨w.heap.size + 1, 0, none⟩ (.bool false)) (w.heap.size + 1) 4 (.bool false) ∧ Touch (Dm L g st) w (W5.setCell ⟨w.heap.size + 1, 0, none⟩ (.bool false))) := by
            refine ⟨⟨Nat.le_trans hKF.size hts.size, fun x o h0 h1 h2 => (hts.block x (lt_of_heap (hKF.same x o h0 h1 h2)) (by intro e; have e2 : x = w.heap.size + 1 := e; have := HS2.out; omega)).trans (hKF.same x o h0 h1 h2)⟩, h51.box hbr (by decide) hts, hbr.set _, (HT.out.andThen h52).trans hts (fun i e => .inr (by have e2 : i = w.heap.size + 1 := e; omega))⟩
          clear h51 h52 hb1 hb2' hb3 hKF hbr hts HFA HGO
          cases hbb : (loopL watchS (pre ++ [k]) (st, F)).1 with
          | true =>
            have HBB := hide hbb
            clear hbb
            gi_wp2
            exact ⟨HEND.out.1, HEND.out.2.1, HBB.out, HEND.out.2.2⟩
          | false =>
            have HBB := hide hbb
            clear hbb
            gi_wp2
            exact ⟨HENF.out.1, ⟨rfl, HBB.out⟩, HENF.out.2⟩
    case done =>
      rintro D ys W hD rfl ⟨hy, hm, hv, hr, hc, hT⟩ hK
      rw [loopL_upto watchS N (st, F) N (Nat.le_refl _), HN.out, ← HR.out] at hy hm
      have hLR : Lk st R.2.1 := by rw [HR.out]; exact Lk.loopB watchS Lk.watch _ (st, F)
      have cr := hr.cell
      have fr := hr.frozen
      have hdl := HS2.out
      have hts : Touch (· = w.heap.size + 1) W (W.setCell ⟨w.heap.size + 1, 0, none⟩ (.bool true)) := Touch.ofSet W _ _ _ rfl
      have hKD : (W.setCell ⟨w.heap.size + 1, 0, none⟩ (.bool true)).heap[D]? = some (.deferred (some [])) := (hts.block D (lt_of_heap hK) (by omega)).trans hK
      have hM5 := hm.box hr (by decide) hts
      have HEND : Hid (Mo ((W.setCell ⟨w.heap.size + 1, 0, none⟩ (.bool true)).putObj D (.deferred none)) L g R.2.1 R.2.2 ∧ Touch (Dm L g st) w ((W.setCell ⟨w.heap.size + 1, 0, none⟩ (.bool true)).putObj D (.deferred none))) :=
        ⟨hM5.put hKD rfl (fun hd => by have := hlt2 D (Dm.like hLR hd); omega) _, (hT.trans hts (fun i e => .inr (by have e2 : i = w.heap.size + 1 := e; omega))).put (by omega) _⟩
      have hcR : ((W.setCell ⟨w.heap.size + 1, 0, none⟩ (.bool true)).putObj D (.deferred none)).cell? ⟨w.heap.size + 1, 0, none⟩ = some (.bool true) := by
        rw [World.cell?_of_block (World.putObj_heap_other (by dsimp only; omega))]
        exact (hr.set (.bool true)).cell
      have HY := hide hy
      have HKD := hide hKD
      have HCR := hide hcR
      clear hy hm hv hr hc hT hK hKD hM5 hts hcR hM2 hlt2 hlk hLR h
      gi_wp2
      refine ⟨by simp, .inl ⟨_, _, rfl, run_takeDeferred HKD.out, ?_⟩⟩
      rw [HY.out]
      exact ⟨.bool true, by simp [results, Tryz.results106, go_sem, HCR.out], rfl, HEND.out.1, HEND.out.2⟩
    case stop =>
      rintro D c pre W hD ⟨k, hk, rfl⟩ ⟨⟨rfl, hy⟩, hm, hr, hT⟩ hK
      have e1 : R = loopL watchS (upto N k) (st, F) := by
        rw [HR.out, loopL_upto watchS N (st, F) k hk]
        rw [loopL_upto watchS N (st, F) k hk] at hy
        exact loopB_stop watchS (st, F) k _ (by rw [← HN.out]; exact hk) hy
      rw [← e1] at hy hm
      have hLR : Lk st R.2.1 := by rw [HR.out]; exact Lk.loopB watchS Lk.watch _ (st, F)
      have hdl := HS2.out
      have HEND : Hid (Mo (W.putObj D (.deferred none)) L g R.2.1 R.2.2 ∧ Touch (Dm L g st) w (W.putObj D (.deferred none))) :=
        ⟨hm.put hK rfl (fun hd => by have := hlt2 D (Dm.like hLR hd); omega) _, hT.put (by omega) _⟩
      have hcR : (W.putObj D (.deferred none)).cell? ⟨w.heap.size + 1, 0, none⟩ = some (.bool false) := by
        rw [World.cell?_of_block (World.putObj_heap_other (by dsimp only; omega))]
        exact hr.cell
      have HY := hide hy
      have HKD := hide hK
      have HCR := hide hcR
      clear hy hm hr hT hK hcR hM2 hlt2 hlk hLR h e1
      gi_wp2
      refine ⟨by simp, .inl ⟨_, _, rfl, run_takeDeferred HKD.out, ?_⟩⟩
      rw [HY.out]
      exact ⟨.bool false, by simp [results, Tryz.results106, go_sem, HCR.out], rfl, HEND.out.1, HEND.out.2⟩
end Go.Proofs.YtnjlbgolnbdkaaaGreat
/- The program's deadlines. -/
namespace Go.Proofs.YtnjlbgolnbdkaaaGreat
open Go.RowKit Go.Shelf

attribute [local go_sem] Oper.semAt_some

theorem SRun.lates {s : SF} (h : SRun s) (i : Nat) (hi : i < s.1.parts.length) : SRun (latesS i s).2 := by
  unfold latesS
  have key : ∀ k, k ≤ (s.1.part i).procs.length → SRun (loopB (lateS i) k s).2 ∧ Lk s.1 (loopB (lateS i) k s).2.1 := by
    intro k
    induction k with
    | zero => intro _; exact ⟨h, Lk.refl _⟩
    | succ k ih =>
      intro hk
      obtain ⟨h1, h2⟩ := ih (by omega)
      refine ⟨?_, Lk.loopB _ (Lk.late i) _ s⟩
      show SRun (andB _ _).2
      unfold andB
      split
      · refine h1.late i k (by rw [h2.len]; exact hi) ?_
        have e1 := (h1.2.part i (by rw [h2.len]; exact hi)).2
        have e2 := (h.2.part i hi).2
        rw [h2.cf] at e1
        show k < ((loopB (lateS i) k s).2.1.parts.getD i default).procs.length
        rw [e1, ← e2]
        exact hk
      · exact h1
  exact (key _ (Nat.le_refl _)).1
theorem Lk.procs {s s' : RSt} (h : Lk s s') (ho : StOk s) (ho' : StOk s') (i : Nat) (hi : i < s.parts.length) : (s'.part i).procs.length = (s.part i).procs.length := by
  have e1 := (ho'.part i (by rw [h.len]; exact hi)).2
  have e2 := (ho.part i hi).2
  rw [h.cf] at e1
  exact e1.trans e2.symm
theorem SRun.loopLate (i : Nat) (s : SF) (hs : SRun s) (hi : i < s.1.parts.length) {N : Nat} (hN : N = (s.1.part i).procs.length) : ∀ (pre : List (Fin N)) (r : Bool × SF), SRun r.2 → Lk s.1 r.2.1 → SRun (pre.foldl (fun r k => andB r (lateS i k.1)) r).2 := by
  intro pre
  induction pre with
  | nil => intro r h _; exact h
  | cons a l ih =>
    intro r h k
    have h1 : SRun (andB r (lateS i a.1)).2 := by
      unfold andB
      split
      · exact h.late i a.1 (by rw [k.len]; exact hi) (by rw [k.procs hs.2 h.2 i hi, ← hN]; exact a.2)
      · exact h
    have h2 : Lk s.1 (andB r (lateS i a.1)).2.1 := andB_ok (fun x => Lk s.1 x.1) k (fun x hx => hx.trans (Lk.late i a.1 x))
    exact ih _ h1 h2
theorem late_prog (x : RProc) (now : Int) (len : Nat) (h : PrRun len now x) : ((!x.stopped && (dlOf x.dl != 0 && decide (dlOf x.dl ≤ now))) = true) ↔ ¬ (x.stopped = true ∨ x.dl < 0 ∨ now < x.dl) := by
  have hd := h.dl
  unfold dlOf
  cases x.stopped
  · split
    · simp; omega
    · simp; omega
  · simp
set_option maxRecDepth 100000 in
set_option maxHeartbeats 4000000 in
theorem deadlines_any (L : MLay) (g : Nat) (st : RSt) (F : Fl) (w : World) (h : Mo w L g st F) (hrun : StRun st) :
    Calls Tryz.prog 105 #[.pointer (some ⟨L.mb, 0, none⟩)] w fun e w' => e = .returned (.bool (deadS (st, F)).1) ∧ Mo w' L g (deadS (st, F)).2.1 (deadS (st, F)).2.2 ∧ Touch (Dm L g st) w w' := by
  have hmx : Tryz.prog.follows .mixedOrders = true := by kernel_rfl
  obtain ⟨N, hN⟩ : ∃ N, N = st.parts.length := ⟨_, rfl⟩
  have hN2 : N ≤ 1000 := by have := h.ok.good.few; have := h.ok.len; omega
  have c3 := h.mach.machAt 3
  simp only [List.getElem?_toArray, List.getElem?_cons_succ, List.getElem?_cons_zero] at c3
  rw [← hN] at c3
  have HN := hide hN
  have hmb := lt_of_block h.mach.mach
  clear hN
  obtain ⟨R, hR⟩ : ∃ R, R = deadS (st, F) := ⟨_, rfl⟩
  rw [← hR]
  have HR : Hid (R = loopB latesS st.parts.length (st, F)) := hR
  clear hR
  refine (callsIn_wide (n := 8)).1 ?_
  refine callsIn_of_wp_marks Tryz.func105 rfl trivial ?_ rfl
  simp only [Tryz.ntmps105, List.size_toArray, List.length_cons, List.length_nil, Nat.reduceAdd, Nat.reduceSub, Array.replicate_succ, Array.replicate_zero, List.push_toArray, List.append_toArray, List.nil_append, List.cons_append]
  gi_wp2_with (refine ⟨trivial, ?_⟩; gi_at_call 145; refine (callsIn_wide.2 (partAll_any _ _ _)).mono ?_; rintro e w' ⟨rfl, rfl⟩)
  have bA := Boxed.new w 74 (.pointer (some ⟨L.mb, 0, none⟩))
  have bR := Boxed.new (w.alloc (.cells #[.pointer (some ⟨L.mb, 0, none⟩)] 74)) 4 (.bool false)
  have bC := Boxed.new ((w.alloc (.cells #[.pointer (some ⟨L.mb, 0, none⟩)] 74)).alloc (.cells #[.bool false] 4)) 111 (.slice (some ⟨L.pb, 0, none⟩) N N)
  simp only [World.size_alloc] at bC bR
  have bA2 := (bA.alloc (.cells #[.bool false] 4)).alloc (.cells #[.slice (some ⟨L.pb, 0, none⟩) N N] 111)
  have bR2 := bR.alloc (.cells #[.slice (some ⟨L.pb, 0, none⟩) N N] 111)
  obtain ⟨w2, hw2⟩ : ∃ w2, w2 = ((w.alloc (.cells #[.pointer (some ⟨L.mb, 0, none⟩)] 74)).alloc (.cells #[.bool false] 4)).alloc (.cells #[.slice (some ⟨L.pb, 0, none⟩) N N] 111) := ⟨_, rfl⟩
  have hs2 : w2.heap.size = w.heap.size + 3 := by rw [hw2]; simp
  have hb2 : Below w.heap.size w w2 := by rw [hw2]; exact (((Below.refl _ _).alloc (Nat.le_refl _) _).alloc (by simp) _).alloc (by simp; omega) _
  rw [← hw2] at bC bA2 bR2 ⊢
  have hM2 := h.mono hb2
  have HS2 := hide hs2
  clear hw2 bA bR
  have hlt2 : ∀ b, Dm L g st b → b < w.heap.size := fun b hb => h.lt b hb
  have hsr : ∀ pre : List (Fin N), SRun (loopL latesS pre (st, F)).2 := fun pre => SRun.loopL latesS Lk.lates (fun k s hs hk => hs.lates k hk) (st, F) HN.out pre _ ⟨hrun, h.ok⟩ (Lk.refl _)
  have hlk : ∀ pre : List (Fin N), Lk st (loopL latesS pre (st, F)).2.1 := fun pre => Lk.loopL latesS Lk.lates (st, F) pre _ (Lk.refl _)
  refine wpIn_rangeFunc_ownH rfl (by omega) (gf := 184) (lb := #[.pointer (some ⟨w.heap.size + 1 + 1, 0, none⟩)]) rfl trivial (enters_of Tryz.func184 (by kernel_rfl) rfl)
    (partAll_stops _ _ trivial rfl (by omega) N hN2 (w.heap.size + 1 + 1) L.pb w2 (by omega) bC) (fun h k => k.trans h) (fun W l o o' hl _ _ _ => World.putObj_heap_other (by omega)) (Below.refl _ _) (fun _ => rfl)
    (fun pre W => ((loopL latesS pre (st, F)).1 = true) ∧ Mo W L g (loopL latesS pre (st, F)).2.1 (loopL latesS pre (st, F)).2.2 ∧ Boxed W w.heap.size 74 (.pointer (some ⟨L.mb, 0, none⟩)) ∧ Boxed W (w.heap.size + 1) 4 (.bool false) ∧ Boxed W (w.heap.size + 1 + 1) 111 (.slice (some ⟨L.pb, 0, none⟩) N N) ∧ Touch (Dm L g st) w W)
    (fun c pre W => (c = .ret ∧ (loopL latesS pre (st, F)).1 = false) ∧ Mo W L g (loopL latesS pre (st, F)).2.1 (loopL latesS pre (st, F)).2.2 ∧ Boxed W (w.heap.size + 1) 4 (.bool false) ∧ Touch (Dm L g st) w W)
    (OwnFrom.and (ownFrom_pure _ _) (OwnFrom.and (ownFrom_mo (fun pre => (loopL latesS pre (st, F)).2.1) (fun pre => (loopL latesS pre (st, F)).2.2) (fun pre b hb => by have := hlt2 b (Dm.like (hlk pre) hb); omega)) (OwnFrom.and (Own.from (boxed_own _ _ _) _) (OwnFrom.and (Own.from (boxed_own _ _ _) _) (OwnFrom.and (Own.from (boxed_own _ _ _) _) (ownFrom_touch (by omega)))))))
    (fun c => OwnFrom.and (ownFrom_pure _ _) (OwnFrom.and (ownFrom_mo (fun pre => (loopL latesS pre (st, F)).2.1) (fun pre => (loopL latesS pre (st, F)).2.2) (fun pre b hb => by have := hlt2 b (Dm.like (hlk pre) hb); omega)) (OwnFrom.and (Own.from (boxed_own _ _ _) _) (ownFrom_touch (by omega)))))
    ⟨rfl, hM2, bA2, bR2, bC, Touch.ofBelow hb2⟩
    (fun k a' W => ∃ b, w2.heap.size ≤ b ∧ Boxed W b 158 (.pointer (some ⟨L.pb, k.1 * 14, none⟩)) ∧ a' = { tmps := #[.pointer (some ⟨L.mb, 0, none⟩), .pointer (some ⟨w.heap.size, 0, none⟩), .pointer (some ⟨w.heap.size + 1, 0, none⟩), undef, .pointer (some ⟨b, 0, none⟩), undef, undef, .pointer (some ⟨L.mb, 0, none⟩), .pointer (some ⟨L.mb, 0, none⟩), .pointer (some ⟨L.mb, 3, none⟩), .agg #[.slice (some ⟨L.pb, 0, none⟩) N N], .func (.func 184) #[] #[.pointer (some ⟨w.heap.size + 1 + 1, 0, none⟩)], .int .i64 k.1, .pointer (some ⟨L.pb, k.1 * 14, none⟩), undef, undef, undef, undef, undef, undef, undef, undef, undef, undef, undef, undef, undef, undef, undef, undef, undef, undef, undef, undef, undef, undef, undef, undef, undef, undef, undef, undef], defers := [] })
    (fun k a' => ?own) ?assign ?body ?done ?stop
  case own =>
    rintro s W W' row ⟨b, h1, h2, h3⟩ hg hr
    exact ⟨b, h1, h2.kept hg (fun e => by obtain ⟨o, ho, hc⟩ := (hr b e.symm).2; rw [show W.heap[b]? = _ from h2] at ho; cases ho; cases hc), h3⟩
  case assign =>
    rintro l pre k W K ⟨hy, hm, hv, hr, hc, hT⟩ hK
    have hwz : w2.heap.size ≤ W.heap.size := by have := hc.lt; omega
    have hbl : Below W.heap.size W (W.alloc (.cells #[.pointer (some ⟨L.pb, k.1 * 14, none⟩)] 158)) := (Below.refl _ _).alloc (Nat.le_refl _) _
    have HKK := hide (fun a' hx => hK a' (W.alloc (.cells #[.pointer (some ⟨L.pb, k.1 * 14, none⟩)] 158)) ((KeepsOthers.alloc W _).from _) (hbl.block _ hc.lt) ⟨hy, hm.mono hbl, hv.alloc _, hr.alloc _, hc.alloc _, hT.andThen (Touch.ofBelow hbl)⟩ hx)
    have HBX := hide (Boxed.new W 158 (.pointer (some ⟨L.pb, k.1 * 14, none⟩)))
    have HWZ := hide hwz
    clear hy hm hv hr hc hT hK hbl hwz hM2 c3 hlt2 hsr hlk h hrun
    gi_wp2
    exact HKK.out _ ⟨W.heap.size, HWZ.out, HBX.out, rfl⟩
  case body =>
    rintro l pre k a' W hl ⟨r₀, hr₀⟩ ⟨hy, hm, hv, hr, hc, hT⟩ ⟨b, hb, hbx, rfl⟩ hlt
    have hl1 := hlk pre
    have hrr := hsr pre
    have HSN := hide (loopL_snoc latesS pre k (st, F) hy)
    generalize loopL latesS pre (st, F) = X0 at *
    obtain ⟨xb, X⟩ := X0
    simp only at hy hm hl1 hrr HSN
    have hki : k.1 < X.1.parts.length := by rw [hl1.len, ← HN.out]; exact k.2
    obtain ⟨np, hnp⟩ : ∃ np, np = (X.1.part k.1).procs.length := ⟨_, rfl⟩
    have hnp2 : np ≤ 1000 := by have := hrr.2.one k.1 hki; omega
    have d11 := hm.mach.partAt k.1 11 hki (by omega)
    simp only [mpartC, List.getElem?_cons_succ, List.getElem?_cons_zero] at d11
    rw [← hnp] at d11
    have HNP := hide hnp
    have HLS : Hid (latesS k.1 X = loopB (lateS k.1) np X) := by show _ = _; rw [hnp]; rfl
    rw [HLS.out] at HSN
    have dbx := hbx.cell
    have hlw := lt_of_heap hr₀
    clear hnp
    gi_wp2_with (refine ⟨trivial, ?_⟩; gi_at_call 146; refine (CallsIn.inRound l (callsIn_wide.2 (procAll_any _ _ _))).mono ?_; rintro e w' ⟨rfl, rfl⟩)
    have bP := Boxed.new W 118 (.slice (some ⟨L.pr k.1, 0, none⟩) np np)
    have hbl : Below W.heap.size W (W.alloc (.cells #[.slice (some ⟨L.pr k.1, 0, none⟩) np np] 118)) := (Below.refl _ _).alloc (Nat.le_refl _) _
    have hkf : KeepsFrom w2.heap.size W (W.alloc (.cells #[.slice (some ⟨L.pr k.1, 0, none⟩) np np] 118)) := (KeepsOthers.alloc W _).from _
    have hv2 := hv.alloc (.cells #[.slice (some ⟨L.pr k.1, 0, none⟩) np np] 118)
    have hr2 := hr.alloc (.cells #[.slice (some ⟨L.pr k.1, 0, none⟩) np np] 118)
    have hc2 := hc.alloc (.cells #[.slice (some ⟨L.pr k.1, 0, none⟩) np np] 118)
    have hx2 := hbx.alloc (.cells #[.slice (some ⟨L.pr k.1, 0, none⟩) np np] 118)
    have hwz : w2.heap.size ≤ W.heap.size := by have := hbx.lt; omega
    obtain ⟨W2, hW2⟩ : ∃ W2, W2 = W.alloc (.cells #[.slice (some ⟨L.pr k.1, 0, none⟩) np np] 118) := ⟨_, rfl⟩
    have hsW : W2.heap.size = W.heap.size + 1 := by rw [hW2]; simp
    rw [← hW2] at bP hbl hkf hv2 hr2 hc2 hx2 ⊢
    have HSW := hide hsW
    have hm2 := hm.mono hbl
    have hblt := hbx.lt
    have hpl : ∀ pre2 : List (Fin np), Lk X.1 (loopL (lateS k.1) pre2 X).2.1 := fun pre2 => Lk.loopL (lateS k.1) (Lk.late k.1) X pre2 _ (Lk.refl _)
    have hpr : ∀ pre2 : List (Fin np), SRun (loopL (lateS k.1) pre2 X).2 := fun pre2 => SRun.loopLate k.1 X hrr hki HNP.out pre2 _ hrr (Lk.refl _)
    have HCW := hide hc
    have HLT := hide (fun (x : Nat) (hx : Dm L g X.1 x) => hlt2 x (Dm.like hl1 hx))
    have HDL := hide (fun (x : Nat) (hx : Dm L g X.1 x) => (Dm.like hl1 hx : Dm L g st x))
    clear hW2 hM2 c3 hsr hlk h hrun hm hv hr hc hbx
    refine wpIn_rangeFunc_ownN (r₀ := r₀) rfl ((hbl.block l hlw).trans hr₀) (by omega) (gf := 185) (lb := #[.pointer (some ⟨W.heap.size, 0, none⟩)]) rfl trivial (enters_of Tryz.func185 (by kernel_rfl) rfl)
      ((procAll_stops Fence.wide _ trivial rfl (by omega) np hnp2 W.heap.size (L.pr k.1) W2 (by omega) bP).inRound l) (fun h k => k.trans h) (fun W' l' o o' hl' _ _ _ => World.putObj_heap_other (by omega)) (Below.refl _ _) (fun _ => rfl)
      (fun pre2 W' => ((loopL (lateS k.1) pre2 X).1 = true) ∧ Mo W' L g (loopL (lateS k.1) pre2 X).2.1 (loopL (lateS k.1) pre2 X).2.2 ∧ Boxed W' w.heap.size 74 (.pointer (some ⟨L.mb, 0, none⟩)) ∧ Boxed W' (w.heap.size + 1) 4 (.bool false) ∧ Boxed W' (w.heap.size + 1 + 1) 111 (.slice (some ⟨L.pb, 0, none⟩) N N) ∧ Boxed W' b 158 (.pointer (some ⟨L.pb, k.1 * 14, none⟩)) ∧ Boxed W' W.heap.size 118 (.slice (some ⟨L.pr k.1, 0, none⟩) np np) ∧ Touch (Dm L g st) w W' ∧ KeepsFrom w2.heap.size W W')
      (fun c pre2 W' => (c = .ret ∧ (loopL (lateS k.1) pre2 X).1 = false) ∧ Mo W' L g (loopL (lateS k.1) pre2 X).2.1 (loopL (lateS k.1) pre2 X).2.2 ∧ Boxed W' (w.heap.size + 1) 4 (.bool false) ∧ Touch (Dm L g st) w W' ∧ KeepsFrom w2.heap.size W W')
      (OwnFrom.and (ownFrom_pure _ _) (OwnFrom.and (ownFrom_mo (fun pre2 => (loopL (lateS k.1) pre2 X).2.1) (fun pre2 => (loopL (lateS k.1) pre2 X).2.2) (fun pre2 b hb => by have := hlt2 b (Dm.like hl1 (Dm.like (hpl pre2) hb)); omega)) (OwnFrom.and (Own.from (boxed_own _ _ _) _) (OwnFrom.and (Own.from (boxed_own _ _ _) _) (OwnFrom.and (Own.from (boxed_own _ _ _) _) (OwnFrom.and (Own.from (boxed_own _ _ _) _) (OwnFrom.and (Own.from (boxed_own _ _ _) _) (OwnFrom.and (ownFrom_touch (by omega)) (ownFrom_keepsFrom (by omega))))))))))
      (fun c => OwnFrom.and (ownFrom_pure _ _) (OwnFrom.and (ownFrom_mo (fun pre2 => (loopL (lateS k.1) pre2 X).2.1) (fun pre2 => (loopL (lateS k.1) pre2 X).2.2) (fun pre2 b hb => by have := hlt2 b (Dm.like hl1 (Dm.like (hpl pre2) hb)); omega)) (OwnFrom.and (Own.from (boxed_own _ _ _) _) (OwnFrom.and (ownFrom_touch (by omega)) (ownFrom_keepsFrom (by omega))))))
      ⟨rfl, hm2, hv2, hr2, hc2, hx2, bP, hT.andThen (Touch.ofBelow hbl), hkf⟩
      (fun q a' _ => a' = { tmps := #[.pointer (some ⟨L.mb, 0, none⟩), .pointer (some ⟨w.heap.size, 0, none⟩), .pointer (some ⟨w.heap.size + 1, 0, none⟩), undef, .pointer (some ⟨b, 0, none⟩), undef, .pointer (some ⟨L.pr k.1, q.1 * 6, none⟩), .pointer (some ⟨L.mb, 0, none⟩), .pointer (some ⟨L.mb, 0, none⟩), .pointer (some ⟨L.mb, 3, none⟩), .agg #[.slice (some ⟨L.pb, 0, none⟩) N N], .func (.func 184) #[] #[.pointer (some ⟨w.heap.size + 1 + 1, 0, none⟩)], .int .i64 k.1, .pointer (some ⟨L.pb, k.1 * 14, none⟩), .pointer (some ⟨L.pb, k.1 * 14, none⟩), .pointer (some ⟨L.pb, k.1 * 14, none⟩), .pointer (some ⟨L.pb, k.1 * 14 + 11, none⟩), .agg #[.slice (some ⟨L.pr k.1, 0, none⟩) np np], .func (.func 185) #[] #[.pointer (some ⟨W.heap.size, 0, none⟩)], .int .i64 q.1, .pointer (some ⟨L.pr k.1, q.1 * 6, none⟩), undef, undef, undef, undef, undef, undef, undef, undef, undef, undef, undef, undef, undef, undef, undef, undef, undef, undef, undef, undef, undef], defers := [] })
      (fun _ _ _ _ _ _ hs _ _ => hs) ?assign2 ?body2 ?done2 ?stop2
    case assign2 =>
      rintro l2 pre2 q W' K hI hK
      have HK := hide (fun a' e => hK a' W' (KeepsFrom.refl _ _) rfl hI e)
      clear hI hK
      gi_wp2
      exact HK.out _ rfl
    case body2 =>
      rintro l2 pre2 q a' W' hl2 - ⟨iy, im, iv, ir, ic, ib, ip, iT, iK⟩ rfl hlt2'
      have hLY := hpl pre2
      have hRY := hpr pre2
      have HSY := hide (loopL_snoc (lateS k.1) pre2 q X iy)
      obtain ⟨Z, hZ⟩ : ∃ Z, Z = loopL (lateS k.1) (pre2 ++ [q]) X := ⟨_, rfl⟩
      rw [← hZ] at HSY
      have HPOST : Hid (∀ W6 : World, KeepsFrom W2.heap.size W' W6 → W6.heap[W.heap.size]? = W'.heap[W.heap.size]? → Mo W6 L g Z.2.1 Z.2.2 → Boxed W6 w.heap.size 74 (.pointer (some ⟨L.mb, 0, none⟩)) → Boxed W6 (w.heap.size + 1) 4 (.bool false) → Boxed W6 (w.heap.size + 1 + 1) 111 (.slice (some ⟨L.pb, 0, none⟩) N N) → Boxed W6 b 158 (.pointer (some ⟨L.pb, k.1 * 14, none⟩)) → Touch (Dm L g st) w W6 → KeepsFrom w2.heap.size W W6 → (Z.1 = true → KeepsFrom W2.heap.size W' W6 ∧ W6.heap[W.heap.size]? = W'.heap[W.heap.size]? ∧ ((loopL (lateS k.1) (pre2 ++ [q]) X).1 = true) ∧ Mo W6 L g (loopL (lateS k.1) (pre2 ++ [q]) X).2.1 (loopL (lateS k.1) (pre2 ++ [q]) X).2.2 ∧ Boxed W6 w.heap.size 74 (.pointer (some ⟨L.mb, 0, none⟩)) ∧ Boxed W6 (w.heap.size + 1) 4 (.bool false) ∧ Boxed W6 (w.heap.size + 1 + 1) 111 (.slice (some ⟨L.pb, 0, none⟩) N N) ∧ Boxed W6 b 158 (.pointer (some ⟨L.pb, k.1 * 14, none⟩)) ∧ Boxed W6 W.heap.size 118 (.slice (some ⟨L.pr k.1, 0, none⟩) np np) ∧ Touch (Dm L g st) w W6 ∧ KeepsFrom w2.heap.size W W6)) := fun W6 h1 h2 h3 h4 h5 h6 h7 h8 h9 hz => by
        rw [← hZ]
        exact ⟨h1, h2, hz, h3, h4, h5, h6, h7, h2.trans ip, h8, h9⟩
      have HPOSX : Hid (∀ W6 : World, KeepsFrom W2.heap.size W' W6 → Mo W6 L g Z.2.1 Z.2.2 → Boxed W6 (w.heap.size + 1) 4 (.bool false) → Touch (Dm L g st) w W6 → KeepsFrom w2.heap.size W W6 → (Z.1 = false → KeepsFrom W2.heap.size W' W6 ∧ ((loopL (lateS k.1) (pre2 ++ [q]) X).1 = false) ∧ Mo W6 L g (loopL (lateS k.1) (pre2 ++ [q]) X).2.1 (loopL (lateS k.1) (pre2 ++ [q]) X).2.2 ∧ Boxed W6 (w.heap.size + 1) 4 (.bool false) ∧ Touch (Dm L g st) w W6 ∧ KeepsFrom w2.heap.size W W6)) := fun W6 h1 h2 h3 h4 h5 hz => by
        rw [← hZ]
        exact ⟨h1, hz, h2, h3, h4, h5⟩
      generalize loopL (lateS k.1) pre2 X = Y0 at *
      obtain ⟨yb, Y⟩ := Y0
      simp only at iy im hLY hRY HSY
      have hki2 : k.1 < Y.1.parts.length := by rw [hLY.len]; exact hki
      have hqn : q.1 < (Y.1.part k.1).procs.length := by rw [hLY.procs hrr.2 hRY.2 k.1 hki, ← HNP.out]; exact q.2
      have hpp := hRY.1.proc k.1 q.1 hki2 hqn
      have e9 := im.mach.partAt k.1 9 hki2 (by omega)
      simp only [mpartC, List.getElem?_cons_succ, List.getElem?_cons_zero] at e9
      have e6 := im.mach.machAt 6
      simp only [List.getElem?_toArray, List.getElem?_cons_succ, List.getElem?_cons_zero] at e6
      have p3 := im.mach.procAt k.1 q.1 3 hki2 hqn (by omega)
      have p5 := im.mach.procAt k.1 q.1 5 hki2 hqn (by omega)
      simp only [mprocCells, List.getElem?_cons_succ, List.getElem?_cons_zero] at p3 p5
      have g5 := free_of_block (im.mach.procs k.1 hki2) (q.1 * 6 + 5)
      have ev := iv.cell
      have eb := ib.cell
      have HRU := hide (runs_any L.pb (k.1 * 14) _ W' e9)
      have HLT3 := hide (late_any (L.pr k.1) (q.1 * 6) _ _ Y.1.now W' p3 p5)
      have HLP := hide (late_prog _ _ _ hpp)
      have HLS2 : Hid (lateS k.1 q.1 Y = if (Y.1.part k.1).mode = 3 ∨ (Y.1.proc k.1 q.1).stopped = true ∨ (Y.1.proc k.1 q.1).dl < 0 ∨ Y.1.now < (Y.1.proc k.1 q.1).dl then (true, Y) else faultS k.1 q.1 2 (Y.1.setProc k.1 q.1 { Y.1.proc k.1 q.1 with dl := -1 }, Y.2)) := rfl
      have hst2 := im.setProc k.1 q.1 { Y.1.proc k.1 q.1 with dl := -1 } hki2 (Touch.ofSet W' (L.pr k.1) (q.1 * 6 + 5) (.int .i64 0) rfl) (im.mach.procCell im.lay k.1 q.1 5 (.int .i64 0) _ hki2 hqn (by omega) rfl)
      have HFA := hide (fault_any L g _ Y.2 k.1 q.1 2 (some ⟨L.pr k.1, q.1 * 6, none⟩) _ hst2.1 (by rw [(setProc_like _ _ _ _).2.1]; exact hki2) (by rw [(setProc_like _ _ _ _).2.2]; exact hqn) (by omega) (.inl rfl))
      have HTS : Hid (Touch (Dm L g st) W' (W'.setCell ⟨L.pr k.1, q.1 * 6 + 5, none⟩ (.int .i64 0))) := hst2.2.to (fun x hx => HDL.out x (Dm.like hLY hx))
      have HTF := hide (fun (x : Nat) (hx : Dm L g (Y.1.setProc k.1 q.1 { Y.1.proc k.1 q.1 with dl := -1 }) x) => HDL.out x (Dm.like hLY (Dm.like (Lk.setProc _ _ _ _) hx)))
      have HLW : Hid (∀ x, Dm L g st x → x < w.heap.size) := hlt2
      have IM := hide im
      have IV := hide iv
      have IR := hide ir
      have IC := hide ic
      have IB := hide ib
      have IT := hide iT
      have IK := hide iK
      have IPL := hide ip.lt
      clear iy im iv ir ic ib ip iT iK hm2 hpl hpr hlt2 hst2 hLY hRY hpp e9 hZ
      have hq2 : ¬ w.heap.size = L.pr k.1 := by have := HLW.out (L.pr k.1) (HDL.out _ (.inr (.inr (.inl ⟨k.1, hki, .inr rfl⟩)))); omega
      have HHS2 : Hid (w.heap.size + 3 ≤ W2.heap.size) := by show _ ≤ _; omega
      clear hs2 hsW
      generalize (Y.1.part k.1).mode = mo at *
      gi_wp2_with fail
      refine ⟨trivial, ?_⟩
      refine (CallsIn.inRound l2 (callsIn_wide.2 HRU.out)).mono ?_
      rintro e W9 ⟨rfl, rfl⟩
      by_cases h3 : mo = 3
      · have h3b : (mo != 3) = false := by simp [h3]
        rw [if_pos (.inl h3)] at HLS2
        rw [HLS2.out] at HSY
        have HG := hide (HPOST.out W9 (KeepsFrom.refl _ _) rfl (by rw [HSY.out]; exact IM.out) IV.out IR.out IC.out IB.out IT.out IK.out (by rw [HSY.out]))
        clear h3
        gi_wp2
        refine ⟨trivial, ?_⟩
        gi_wp2
        exact ⟨HG.out.1, rfl, HG.out.2.2⟩
      · have h3b : (mo != 3) = true := by simp [h3]
        gi_wp2_with fail
        refine ⟨trivial, ?_⟩
        refine (CallsIn.inRound l2 (callsIn_wide.2 HLT3.out)).mono ?_
        rintro e W8 ⟨rfl, rfl⟩
        cases hbb : (!(Y.1.proc k.1 q.1).stopped && (dlOf (Y.1.proc k.1 q.1).dl != 0 && decide (dlOf (Y.1.proc k.1 q.1).dl ≤ Y.1.now))) with
        | false =>
          have hc9 : (Y.1.proc k.1 q.1).stopped = true ∨ (Y.1.proc k.1 q.1).dl < 0 ∨ Y.1.now < (Y.1.proc k.1 q.1).dl := by
            refine Classical.byContradiction (fun hn => ?_)
            have := HLP.out.2 hn
            rw [hbb] at this
            cases this
          rw [if_pos (.inr hc9)] at HLS2
          rw [HLS2.out] at HSY
          have HG := hide (HPOST.out W8 (KeepsFrom.refl _ _) rfl (by rw [HSY.out]; exact IM.out) IV.out IR.out IC.out IB.out IT.out IK.out (by rw [HSY.out]))
          clear h3 hc9 hbb
          gi_wp2
          exact ⟨HG.out.1, rfl, HG.out.2.2⟩
        | true =>
          have hc9 := HLP.out.1 hbb
          rw [if_neg (by rintro (h | h); exact h3 h; exact hc9 h)] at HLS2
          rw [HLS2.out] at HSY
          clear h3 hc9 hbb HLS2 HLP HLT3 HRU
          gi_wp2_with fail
          refine ⟨trivial, ?_⟩
          refine (CallsIn.inRound l2 (callsIn_wide.2 HFA.out)).mono ?_
          rintro e W5 ⟨rfl, h51, h52⟩
          rw [← HSY.out] at h51 ⊢
          have h52' : Touch (Dm L g st) W8 W5 := HTS.out.andThen (h52.to HTF.out)
          have kp : ∀ {x : Nat} {t : TypeId} {v : Value}, w.heap.size ≤ x → Boxed W8 x t v → Boxed W5 x t v := fun hx hb => (h52'.block _ hb.lt (fun hd => by have := HLW.out _ hd; omega)).trans hb
          have hKF : KeepsFrom W2.heap.size W8 W5 := keepsFrom_touch h52' (fun x hx => by have := HLW.out x hx; have := HHS2.out; omega)
          have hKF2 : KeepsFrom w2.heap.size W W5 := IK.out.trans (keepsFrom_touch h52' (fun x hx => by have := HLW.out x hx; have := HS2.out; omega))
          have hbr := kp (by omega) IR.out
          have cr := hbr.cell
          have fr := hbr.frozen
          have HG := hide (HPOST.out W5 hKF (h52'.block _ IPL.out (fun hd => by have := HLW.out _ hd; have := HS2.out; omega)) h51 (kp (by omega) IV.out) hbr (kp (by omega) IC.out) (kp (by have := HS2.out; omega) IB.out) (IT.out.andThen h52') hKF2)
          have hts : Touch (· = w.heap.size + 1) W5 (W5.setCell ⟨w.heap.size + 1, 0, none⟩ (.bool false)) := Touch.ofSet W5 _ _ _ rfl
          have HGX := hide (HPOSX.out (W5.setCell ⟨w.heap.size + 1, 0, none⟩ (.bool false)) ⟨Nat.le_trans hKF.size hts.size, fun x o h0 h1 h2 => (hts.block x (lt_of_heap (hKF.same x o h0 h1 h2)) (by intro e; have e2 : x = w.heap.size + 1 := e; have := HHS2.out; omega)).trans (hKF.same x o h0 h1 h2)⟩ (h51.box hbr (by decide) hts) (hbr.set _) ((IT.out.andThen h52').trans hts (fun i e => .inr (by have e2 : i = w.heap.size + 1 := e; omega))) ⟨Nat.le_trans hKF2.size hts.size, fun x o h0 h1 h2 => (hts.block x (lt_of_heap (hKF2.same x o h0 h1 h2)) (by intro e; have e2 : x = w.heap.size + 1 := e; have := HS2.out; omega)).trans (hKF2.same x o h0 h1 h2)⟩)
          clear h51 h52 h52' hKF hKF2 hbr hts HFA
          obtain ⟨zb, Z2⟩ := Z
          simp only at HG HGX ⊢
          cases zb with
          | true =>
            gi_wp2
            exact HG.out trivial
          | false =>
            gi_wp2
            have := HGX.out trivial
            exact ⟨this.1, ⟨rfl, this.2.1⟩, this.2.2⟩
    case done2 =>
      rintro ys W' rfl ⟨iy, im, iv, ir, ic, ib, ip, iT, iK⟩
      rw [loopL_upto (lateS k.1) np X np (Nat.le_refl _), ← HSN.out] at iy im
      have HEND : Hid (KeepsFrom w2.heap.size W W' ∧ W'.heap[w.heap.size + 1 + 1]? = W.heap[w.heap.size + 1 + 1]? ∧ ((loopL latesS (pre ++ [k]) (st, F)).1 = true) ∧ Mo W' L g (loopL latesS (pre ++ [k]) (st, F)).2.1 (loopL latesS (pre ++ [k]) (st, F)).2.2 ∧ Boxed W' w.heap.size 74 (.pointer (some ⟨L.mb, 0, none⟩)) ∧ Boxed W' (w.heap.size + 1) 4 (.bool false) ∧ Boxed W' (w.heap.size + 1 + 1) 111 (.slice (some ⟨L.pb, 0, none⟩) N N) ∧ Touch (Dm L g st) w W') := ⟨iK, ic.trans HCW.out.symm, iy, im, iv, ir, ic, iT⟩
      clear iy im iv ir ic ib ip iT iK hm2 hpl hpr hlt2 hs2 hsW
      gi_wp2
      exact HEND.out
    case stop2 =>
      rintro c pre2 W' ⟨j, hj, rfl⟩ ⟨⟨rfl, iy⟩, im, ir, iT, iK⟩
      have e1 : loopL latesS (pre ++ [k]) (st, F) = loopL (lateS k.1) (upto np j) X := by
        rw [HSN.out, loopL_upto (lateS k.1) np X j hj]
        rw [loopL_upto (lateS k.1) np X j hj] at iy
        exact loopB_stop (lateS k.1) X j _ hj iy
      rw [← e1] at iy im
      have HEND : Hid (KeepsFrom w2.heap.size W W' ∧ ((loopL latesS (pre ++ [k]) (st, F)).1 = false) ∧ Mo W' L g (loopL latesS (pre ++ [k]) (st, F)).2.1 (loopL latesS (pre ++ [k]) (st, F)).2.2 ∧ Boxed W' (w.heap.size + 1) 4 (.bool false) ∧ Touch (Dm L g st) w W') := ⟨iK, iy, im, ir, iT⟩
      clear iy im ir iT iK hm2 hpl hpr hlt2 e1 hs2 hsW
      gi_wp2
      exact ⟨HEND.out.1, ⟨rfl, HEND.out.2.1⟩, HEND.out.2.2⟩
  case done =>
    rintro D ys W hD rfl ⟨hy, hm, hv, hr, hc, hT⟩ hK
    rw [loopL_upto latesS N (st, F) N (Nat.le_refl _), HN.out, ← HR.out] at hy hm
    have hLR : Lk st R.2.1 := by rw [HR.out]; exact Lk.loopB latesS Lk.lates _ (st, F)
    have cr := hr.cell
    have fr := hr.frozen
    have hdl := HS2.out
    have hts : Touch (· = w.heap.size + 1) W (W.setCell ⟨w.heap.size + 1, 0, none⟩ (.bool true)) := Touch.ofSet W _ _ _ rfl
    have hKD : (W.setCell ⟨w.heap.size + 1, 0, none⟩ (.bool true)).heap[D]? = some (.deferred (some [])) := (hts.block D (lt_of_heap hK) (by omega)).trans hK
    have hM5 := hm.box hr (by decide) hts
    have HEND : Hid (Mo ((W.setCell ⟨w.heap.size + 1, 0, none⟩ (.bool true)).putObj D (.deferred none)) L g R.2.1 R.2.2 ∧ Touch (Dm L g st) w ((W.setCell ⟨w.heap.size + 1, 0, none⟩ (.bool true)).putObj D (.deferred none))) :=
      ⟨hM5.put hKD rfl (fun hd => by have := hlt2 D (Dm.like hLR hd); omega) _, (hT.trans hts (fun i e => .inr (by have e2 : i = w.heap.size + 1 := e; omega))).put (by omega) _⟩
    have hcR : ((W.setCell ⟨w.heap.size + 1, 0, none⟩ (.bool true)).putObj D (.deferred none)).cell? ⟨w.heap.size + 1, 0, none⟩ = some (.bool true) := by
      rw [World.cell?_of_block (World.putObj_heap_other (by dsimp only; omega))]
      exact (hr.set (.bool true)).cell
    have HY := hide hy
    have HKD := hide hKD
    have HCR := hide hcR
    clear hy hm hv hr hc hT hK hKD hM5 hts hcR hM2 hlt2 hlk hLR h hsr
    gi_wp2
    refine ⟨by simp, .inl ⟨_, _, rfl, run_takeDeferred HKD.out, ?_⟩⟩
    rw [HY.out]
    exact ⟨.bool true, by simp [results, Tryz.results105, go_sem, HCR.out], rfl, HEND.out.1, HEND.out.2⟩
  case stop =>
    rintro D c pre W hD ⟨k, hk, rfl⟩ ⟨⟨rfl, hy⟩, hm, hr, hT⟩ hK
    have e1 : R = loopL latesS (upto N k) (st, F) := by
      rw [HR.out, loopL_upto latesS N (st, F) k hk]
      rw [loopL_upto latesS N (st, F) k hk] at hy
      exact loopB_stop latesS (st, F) k _ (by rw [← HN.out]; exact hk) hy
    rw [← e1] at hy hm
    have hLR : Lk st R.2.1 := by rw [HR.out]; exact Lk.loopB latesS Lk.lates _ (st, F)
    have hdl := HS2.out
    have HEND : Hid (Mo (W.putObj D (.deferred none)) L g R.2.1 R.2.2 ∧ Touch (Dm L g st) w (W.putObj D (.deferred none))) :=
      ⟨hm.put hK rfl (fun hd => by have := hlt2 D (Dm.like hLR hd); omega) _, hT.put (by omega) _⟩
    have hcR : (W.putObj D (.deferred none)).cell? ⟨w.heap.size + 1, 0, none⟩ = some (.bool false) := by
      rw [World.cell?_of_block (World.putObj_heap_other (by dsimp only; omega))]
      exact hr.cell
    have HY := hide hy
    have HKD := hide hK
    have HCR := hide hcR
    clear hy hm hr hT hK hcR hM2 hlt2 hlk hLR h e1 hsr
    gi_wp2
    refine ⟨by simp, .inl ⟨_, _, rfl, run_takeDeferred HKD.out, ?_⟩⟩
    rw [HY.out]
    exact ⟨.bool false, by simp [results, Tryz.results105, go_sem, HCR.out], rfl, HEND.out.1, HEND.out.2⟩
end Go.Proofs.YtnjlbgolnbdkaaaGreat
