/- Texts of the proofs of Watched and Clocked, one behind the other. -/
import Derived.Test.YtnjlbgolnbdkaaaGreatM17
/- The program's instructions: one of them is done. -/
namespace Go.Proofs.YtnjlbgolnbdkaaaGreat
open Go.RowKit

def s8 (a : Nat) : Int := if (127 : Int) < a then (a : Int) - 256 else a
theorem s8_wrap (a : Nat) (h : a ≤ 255) : IntKind.i8.wrap (a : Int) = s8 a := by
  unfold s8
  have e : IntKind.i8.wrap (a : Int) = if (a : Int) % 256 ≥ 128 then (a : Int) % 256 - 256 else (a : Int) % 256 := by simp [IntKind.wrap, IntKind.signed, IntKind.bits]
  rw [e]
  split <;> split <;> omega
theorem Mo.fin {w w' : World} {L : MLay} {g : Nat} {st st' : RSt} {F : Fl} (h : Mo w' L g st' F) (ht : Touch (Dm L g st) w w') (o : Obj) : Mo (w'.alloc o) L g st' F ∧ Touch (Dm L g st) w (w'.alloc o) := by
  have hb : Below w'.heap.size w' (w'.alloc o) := (Below.refl _ _).alloc (Nat.le_refl _) _
  exact ⟨h.mono hb, ht.andThen (Touch.ofBelow hb)⟩
set_option maxHeartbeats 1000000 in
theorem deadline_any (L : MLay) (g : Nat) (st : RSt) (a : Nat) (w : World) (h : MachAt w L g st) (ha : a ≤ 255) (hnow : 0 ≤ st.now ∧ st.now ≤ 1000000000000) :
    Calls Tryz.prog 219 #[.pointer (some ⟨L.mb, 0, none⟩), .int .i64 a] w fun e w' => e = .returned (.int .i64 (if a = 0 then 0 else st.now + a)) ∧ w' = w := by
  have c6 := h.machAt 6
  simp only [List.getElem?_toArray, List.getElem?_cons_succ, List.getElem?_cons_zero] at c6
  clear h
  by_cases h0 : a = 0
  · subst h0
    go_enter Tryz.func219, Tryz.ntmps219
    go_wp2
    go_ret
    exact ⟨rfl, rfl⟩
  · have h0b : ((a : Int) == 0) = false := by simp [h0]
    rw [if_neg h0]
    clear h0
    go_enter Tryz.func219, Tryz.ntmps219
    go_wp2
    go_ret
    exact ⟨rfl, rfl⟩
def doS (bs : List Int) (i n : Nat) (op : Int) (a : Nat) (rc : Int) (st : RSt) : Int × RSt :=
  if op = 1 then (-1, st.setProc i n { st.proc i n with acc := IntKind.i64.wrap ((st.proc i n).acc + s8 a) })
  else if op = 2 ∨ op = 3 ∨ op = 12 then accessS i n op a st
  else if op = 4 then (-1, if (st.proc i n).acc ≠ 0 then st.setProc i n (st.follow i n a) else st)
  else if op = 5 then (-1, st.setProc i n { st.proc i n with til := st.now + a })
  else if op = 6 then sendS i n a st
  else if op = 7 then (if mineTo st i a = true then (-1, st.setProc i n { st.proc i n with acc := rc }) else (4, st))
  else if op = 8 then (3, st)
  else if op = 9 then (-1, st.setPart i { st.part i with watch := st.now })
  else if op = 10 then (-1, st.setProc i n { st.proc i n with stopped := true })
  else if op = 11 then (-1, st.setProc i n { st.proc i n with dl := if a = 0 then -1 else st.now + a })
  else if op = 13 then countS bs i n a st
  else (-1, st)
section
variable (L : MLay) (g : Nat) (st : RSt) (F : Fl) (i n a : Nat) (rc : Int) (w : World)
abbrev DoPost (op : Int) (e : Ending) (w' : World) : Prop := e = .returned (.int .i64 (doS F.bs i n op a rc st).1) ∧ Mo w' L g (doS F.bs i n op a rc st).2 F ∧ Touch (Dm L g st) w w'
set_option maxRecDepth 100000 in
set_option maxHeartbeats 2000000 in
theorem do_0 (h : Mo w L g st F) (hi : i < st.parts.length) (hn : n < (st.part i).procs.length) (ha : a ≤ 255) (hnow : 0 ≤ st.now ∧ st.now ≤ 1000000000000) :
    Calls Tryz.prog 213 #[.pointer (some ⟨L.mb, 0, none⟩), .pointer (some ⟨L.pb, i * 14, none⟩), .pointer (some ⟨L.pr i, n * 6, none⟩), .agg #[.int .i64 0, .int .i64 a], .int .i64 rc] w (DoPost L g st F i n a rc w 0) := by
  have hb1 : Below w.heap.size w (w.alloc (.cells #[.int .i64 0, .int .i64 a] 210)) := (Below.refl _ _).alloc (Nat.le_refl _) _
  have _u := And.intro hi (And.intro hn (And.intro ha hnow))
  clear _u
  have HM := hide (h.mono hb1)
  have HT := hide (Touch.ofBelow (S := Dm L g st) hb1)
  have HR : Hid (doS F.bs i n 0 a rc st = ((-1), st)) := rfl
  clear h hb1
  go_enter Tryz.func213, Tryz.ntmps213
  go_wp2
  go_ret
  show _ ∧ _ ∧ _
  rw [HR.out]
  exact ⟨rfl, HM.out, HT.out⟩
set_option maxRecDepth 100000 in
set_option maxHeartbeats 2000000 in
theorem do_8 (h : Mo w L g st F) (hi : i < st.parts.length) (hn : n < (st.part i).procs.length) (ha : a ≤ 255) (hnow : 0 ≤ st.now ∧ st.now ≤ 1000000000000) :
    Calls Tryz.prog 213 #[.pointer (some ⟨L.mb, 0, none⟩), .pointer (some ⟨L.pb, i * 14, none⟩), .pointer (some ⟨L.pr i, n * 6, none⟩), .agg #[.int .i64 8, .int .i64 a], .int .i64 rc] w (DoPost L g st F i n a rc w 8) := by
  have hb1 : Below w.heap.size w (w.alloc (.cells #[.int .i64 8, .int .i64 a] 210)) := (Below.refl _ _).alloc (Nat.le_refl _) _
  have _u := And.intro hi (And.intro hn (And.intro ha hnow))
  clear _u
  have HM := hide (h.mono hb1)
  have HT := hide (Touch.ofBelow (S := Dm L g st) hb1)
  have HR : Hid (doS F.bs i n 8 a rc st = (3, st)) := rfl
  clear h hb1
  go_enter Tryz.func213, Tryz.ntmps213
  go_wp2
  go_ret
  show _ ∧ _ ∧ _
  rw [HR.out]
  exact ⟨rfl, HM.out, HT.out⟩
set_option maxRecDepth 100000 in
set_option maxHeartbeats 2000000 in
theorem do_10 (h : Mo w L g st F) (hi : i < st.parts.length) (hn : n < (st.part i).procs.length) (ha : a ≤ 255) (hnow : 0 ≤ st.now ∧ st.now ≤ 1000000000000) :
    Calls Tryz.prog 213 #[.pointer (some ⟨L.mb, 0, none⟩), .pointer (some ⟨L.pb, i * 14, none⟩), .pointer (some ⟨L.pr i, n * 6, none⟩), .agg #[.int .i64 10, .int .i64 a], .int .i64 rc] w (DoPost L g st F i n a rc w 10) := by
  have hb1 : Below w.heap.size w (w.alloc (.cells #[.int .i64 10, .int .i64 a] 210)) := (Below.refl _ _).alloc (Nat.le_refl _) _
  have _u := And.intro hi (And.intro hn (And.intro ha hnow))
  clear _u
  have HM := hide (h.mono hb1)
  have HT := hide (Touch.ofBelow (S := Dm L g st) hb1)
  have HR : Hid (doS F.bs i n 10 a rc st = (-1, st.setProc i n { st.proc i n with stopped := true })) := rfl
  have p3 := h.mach.procAt i n 3 hi hn (by omega)
  simp only [mprocCells, List.getElem?_cons_succ, List.getElem?_cons_zero] at p3
  have hlp3 := lt_of_cell p3
  have f3 := free_of_block (h.mach.procs i hi) (n * 6 + 3)
  have HE := hide (Mo.fin (h.setProc i n { st.proc i n with stopped := true } hi (Touch.ofSet w (L.pr i) (n * 6 + 3) (.bool true) rfl) (h.mach.procCell h.lay i n 3 (.bool true) _ hi hn (by omega) rfl)).1 (h.setProc i n { st.proc i n with stopped := true } hi (Touch.ofSet w (L.pr i) (n * 6 + 3) (.bool true) rfl) (h.mach.procCell h.lay i n 3 (.bool true) _ hi hn (by omega) rfl)).2 (.cells #[.int .i64 10, .int .i64 a] 210))
  clear h hb1
  go_enter Tryz.func213, Tryz.ntmps213
  go_wp2
  go_ret
  show _ ∧ _ ∧ _
  rw [HR.out]
  exact ⟨rfl, HE.out.1, HE.out.2⟩
set_option maxRecDepth 100000 in
set_option maxHeartbeats 2000000 in
theorem do_5 (h : Mo w L g st F) (hi : i < st.parts.length) (hn : n < (st.part i).procs.length) (ha : a ≤ 255) (hnow : 0 ≤ st.now ∧ st.now ≤ 1000000000000) :
    Calls Tryz.prog 213 #[.pointer (some ⟨L.mb, 0, none⟩), .pointer (some ⟨L.pb, i * 14, none⟩), .pointer (some ⟨L.pr i, n * 6, none⟩), .agg #[.int .i64 5, .int .i64 a], .int .i64 rc] w (DoPost L g st F i n a rc w 5) := by
  have hb1 : Below w.heap.size w (w.alloc (.cells #[.int .i64 5, .int .i64 a] 210)) := (Below.refl _ _).alloc (Nat.le_refl _) _
  have _u := And.intro hi (And.intro hn (And.intro ha hnow))
  clear _u
  have HM := hide (h.mono hb1)
  have HT := hide (Touch.ofBelow (S := Dm L g st) hb1)
  have HR : Hid (doS F.bs i n 5 a rc st = (-1, st.setProc i n { st.proc i n with til := st.now + a })) := rfl
  have p4 := h.mach.procAt i n 4 hi hn (by omega)
  simp only [mprocCells, List.getElem?_cons_succ, List.getElem?_cons_zero] at p4
  have hlp4 := lt_of_cell p4
  have f4 := free_of_block (h.mach.procs i hi) (n * 6 + 4)
  have c6 := h.mach.machAt 6
  simp only [List.getElem?_toArray, List.getElem?_cons_succ, List.getElem?_cons_zero] at c6
  have hlm := lt_of_cell c6
  have HE := hide (Mo.fin (h.setProc i n { st.proc i n with til := st.now + a } hi (Touch.ofSet w (L.pr i) (n * 6 + 4) (.int .i64 (st.now + a)) rfl) (h.mach.procCell h.lay i n 4 (.int .i64 (st.now + a)) _ hi hn (by omega) rfl)).1 (h.setProc i n { st.proc i n with til := st.now + a } hi (Touch.ofSet w (L.pr i) (n * 6 + 4) (.int .i64 (st.now + a)) rfl) (h.mach.procCell h.lay i n 4 (.int .i64 (st.now + a)) _ hi hn (by omega) rfl)).2 (.cells #[.int .i64 5, .int .i64 a] 210))
  clear h hb1
  go_enter Tryz.func213, Tryz.ntmps213
  go_wp2_with fail
  go_region
  all_goals (
    go_wp2
    go_ret
    show _ ∧ _ ∧ _
    rw [HR.out]
    exact ⟨rfl, HE.out.1.mono (Below.refl _ _).drew, HE.out.2.andThen (Touch.ofDrew _)⟩)
set_option maxRecDepth 100000 in
set_option maxHeartbeats 2000000 in
theorem do_9 (h : Mo w L g st F) (hi : i < st.parts.length) (hn : n < (st.part i).procs.length) (ha : a ≤ 255) (hnow : 0 ≤ st.now ∧ st.now ≤ 1000000000000) :
    Calls Tryz.prog 213 #[.pointer (some ⟨L.mb, 0, none⟩), .pointer (some ⟨L.pb, i * 14, none⟩), .pointer (some ⟨L.pr i, n * 6, none⟩), .agg #[.int .i64 9, .int .i64 a], .int .i64 rc] w (DoPost L g st F i n a rc w 9) := by
  have hb1 : Below w.heap.size w (w.alloc (.cells #[.int .i64 9, .int .i64 a] 210)) := (Below.refl _ _).alloc (Nat.le_refl _) _
  have _u := And.intro hi (And.intro hn (And.intro ha hnow))
  clear _u
  have HM := hide (h.mono hb1)
  have HT := hide (Touch.ofBelow (S := Dm L g st) hb1)
  have HR : Hid (doS F.bs i n 9 a rc st = (-1, st.setPart i { st.part i with watch := st.now })) := rfl
  have c6 := h.mach.machAt 6
  simp only [List.getElem?_toArray, List.getElem?_cons_succ, List.getElem?_cons_zero] at c6
  have hlm := lt_of_cell c6
  have p13 := h.mach.partAt i 13 hi (by omega)
  simp only [mpartC, List.getElem?_cons_succ, List.getElem?_cons_zero] at p13
  have hlp := lt_of_cell p13
  have f13 := free_of_block h.mach.parts (i * 14 + 13)
  have HE := hide (Mo.fin (h.setPart i { st.part i with watch := st.now } rfl rfl (Touch.ofSet w L.pb (i * 14 + 13) (.int .i64 st.now) rfl) (h.mach.setWatch i st.now hi)).1 (h.setPart i { st.part i with watch := st.now } rfl rfl (Touch.ofSet w L.pb (i * 14 + 13) (.int .i64 st.now) rfl) (h.mach.setWatch i st.now hi)).2 (.cells #[.int .i64 9, .int .i64 a] 210))
  clear h hb1
  go_enter Tryz.func213, Tryz.ntmps213
  go_wp2
  go_ret
  show _ ∧ _ ∧ _
  rw [HR.out]
  exact ⟨rfl, HE.out.1, HE.out.2⟩
set_option maxRecDepth 100000 in
set_option maxHeartbeats 2000000 in
theorem do_1 (h : Mo w L g st F) (hi : i < st.parts.length) (hn : n < (st.part i).procs.length) (ha : a ≤ 255) (hnow : 0 ≤ st.now ∧ st.now ≤ 1000000000000) :
    Calls Tryz.prog 213 #[.pointer (some ⟨L.mb, 0, none⟩), .pointer (some ⟨L.pb, i * 14, none⟩), .pointer (some ⟨L.pr i, n * 6, none⟩), .agg #[.int .i64 1, .int .i64 a], .int .i64 rc] w (DoPost L g st F i n a rc w 1) := by
  have hb1 : Below w.heap.size w (w.alloc (.cells #[.int .i64 1, .int .i64 a] 210)) := (Below.refl _ _).alloc (Nat.le_refl _) _
  have _u := And.intro hi (And.intro hn (And.intro ha hnow))
  clear _u
  have HM := hide (h.mono hb1)
  have HT := hide (Touch.ofBelow (S := Dm L g st) hb1)
  have HR : Hid (doS F.bs i n 1 a rc st = (-1, st.setProc i n { st.proc i n with acc := IntKind.i64.wrap ((st.proc i n).acc + s8 a) })) := rfl
  have p2 := h.mach.procAt i n 2 hi hn (by omega)
  simp only [mprocCells, List.getElem?_cons_succ, List.getElem?_cons_zero] at p2
  have hlp2 := lt_of_cell p2
  have f2 := free_of_block (h.mach.procs i hi) (n * 6 + 2)
  have HS8 := hide (s8_wrap a ha)
  have HE := hide (Mo.fin (h.setProc i n { st.proc i n with acc := IntKind.i64.wrap ((st.proc i n).acc + s8 a) } hi (Touch.ofSet w (L.pr i) (n * 6 + 2) (.int .i64 (IntKind.i64.wrap ((st.proc i n).acc + s8 a))) rfl) (h.mach.procCell h.lay i n 2 (.int .i64 (IntKind.i64.wrap ((st.proc i n).acc + s8 a))) _ hi hn (by omega) rfl)).1 (h.setProc i n { st.proc i n with acc := IntKind.i64.wrap ((st.proc i n).acc + s8 a) } hi (Touch.ofSet w (L.pr i) (n * 6 + 2) (.int .i64 (IntKind.i64.wrap ((st.proc i n).acc + s8 a))) rfl) (h.mach.procCell h.lay i n 2 (.int .i64 (IntKind.i64.wrap ((st.proc i n).acc + s8 a))) _ hi hn (by omega) rfl)).2 (.cells #[.int .i64 1, .int .i64 a] 210))
  clear h hb1
  generalize (st.proc i n).acc = ac at *
  go_enter Tryz.func213, Tryz.ntmps213
  go_wp2_with fail
  go_region
  all_goals (
    go_wp2
    go_ret
    show _ ∧ _ ∧ _
    have ev : wrap64 (ac + wrap64 (IntKind.i8.wrap (a : Int))) = IntKind.i64.wrap (ac + s8 a) := by
      rw [HS8.out, IntKind.wrap_i64]
      have hs : -128 ≤ s8 a ∧ s8 a ≤ 127 := by unfold s8; split <;> omega
      unfold wrap64
      omega
    rw [HR.out, ev]
    exact ⟨rfl, HE.out.1.mono (Below.refl _ _).drew, HE.out.2.andThen (Touch.ofDrew _)⟩)
set_option maxRecDepth 100000 in
set_option maxHeartbeats 2000000 in
theorem do_2 (h : Mo w L g st F) (hi : i < st.parts.length) (hn : n < (st.part i).procs.length) (ha : a ≤ 255) (hnow : 0 ≤ st.now ∧ st.now ≤ 1000000000000) :
    Calls Tryz.prog 213 #[.pointer (some ⟨L.mb, 0, none⟩), .pointer (some ⟨L.pb, i * 14, none⟩), .pointer (some ⟨L.pr i, n * 6, none⟩), .agg #[.int .i64 2, .int .i64 a], .int .i64 rc] w (DoPost L g st F i n a rc w 2) := by
  have hb1 : Below w.heap.size w (w.alloc (.cells #[.int .i64 2, .int .i64 a] 210)) := (Below.refl _ _).alloc (Nat.le_refl _) _
  have _u := And.intro hi (And.intro hn (And.intro ha hnow))
  clear _u
  have HM := hide (h.mono hb1)
  have HT := hide (Touch.ofBelow (S := Dm L g st) hb1)
  have HR : Hid (doS F.bs i n 2 a rc st = accessS i n 2 a st) := rfl
  have HC := hide (access_any L g st F i n 2 a _ (h.mono hb1) hi hn (by decide))
  clear h hb1
  go_enter Tryz.func213, Tryz.ntmps213
  go_wp2_with fail
  refine HC.out.mono ?_
  rintro e w2 ⟨rfl, h1, h2⟩
  have HE := hide (And.intro h1 (HT.out.andThen h2))
  clear h1 h2
  go_wp2
  go_ret
  show _ ∧ _ ∧ _
  rw [HR.out]
  exact ⟨rfl, HE.out.1, HE.out.2⟩
set_option maxRecDepth 100000 in
set_option maxHeartbeats 2000000 in
theorem do_3 (h : Mo w L g st F) (hi : i < st.parts.length) (hn : n < (st.part i).procs.length) (ha : a ≤ 255) (hnow : 0 ≤ st.now ∧ st.now ≤ 1000000000000) :
    Calls Tryz.prog 213 #[.pointer (some ⟨L.mb, 0, none⟩), .pointer (some ⟨L.pb, i * 14, none⟩), .pointer (some ⟨L.pr i, n * 6, none⟩), .agg #[.int .i64 3, .int .i64 a], .int .i64 rc] w (DoPost L g st F i n a rc w 3) := by
  have hb1 : Below w.heap.size w (w.alloc (.cells #[.int .i64 3, .int .i64 a] 210)) := (Below.refl _ _).alloc (Nat.le_refl _) _
  have _u := And.intro hi (And.intro hn (And.intro ha hnow))
  clear _u
  have HM := hide (h.mono hb1)
  have HT := hide (Touch.ofBelow (S := Dm L g st) hb1)
  have HR : Hid (doS F.bs i n 3 a rc st = accessS i n 3 a st) := rfl
  have HC := hide (access_any L g st F i n 3 a _ (h.mono hb1) hi hn (by decide))
  clear h hb1
  go_enter Tryz.func213, Tryz.ntmps213
  go_wp2_with fail
  refine HC.out.mono ?_
  rintro e w2 ⟨rfl, h1, h2⟩
  have HE := hide (And.intro h1 (HT.out.andThen h2))
  clear h1 h2
  go_wp2
  go_ret
  show _ ∧ _ ∧ _
  rw [HR.out]
  exact ⟨rfl, HE.out.1, HE.out.2⟩
set_option maxRecDepth 100000 in
set_option maxHeartbeats 2000000 in
theorem do_12 (h : Mo w L g st F) (hi : i < st.parts.length) (hn : n < (st.part i).procs.length) (ha : a ≤ 255) (hnow : 0 ≤ st.now ∧ st.now ≤ 1000000000000) :
    Calls Tryz.prog 213 #[.pointer (some ⟨L.mb, 0, none⟩), .pointer (some ⟨L.pb, i * 14, none⟩), .pointer (some ⟨L.pr i, n * 6, none⟩), .agg #[.int .i64 12, .int .i64 a], .int .i64 rc] w (DoPost L g st F i n a rc w 12) := by
  have hb1 : Below w.heap.size w (w.alloc (.cells #[.int .i64 12, .int .i64 a] 210)) := (Below.refl _ _).alloc (Nat.le_refl _) _
  have _u := And.intro hi (And.intro hn (And.intro ha hnow))
  clear _u
  have HM := hide (h.mono hb1)
  have HT := hide (Touch.ofBelow (S := Dm L g st) hb1)
  have HR : Hid (doS F.bs i n 12 a rc st = accessS i n 12 a st) := rfl
  have HC := hide (access_any L g st F i n 12 a _ (h.mono hb1) hi hn (by decide))
  clear h hb1
  go_enter Tryz.func213, Tryz.ntmps213
  go_wp2_with fail
  refine HC.out.mono ?_
  rintro e w2 ⟨rfl, h1, h2⟩
  have HE := hide (And.intro h1 (HT.out.andThen h2))
  clear h1 h2
  go_wp2
  go_ret
  show _ ∧ _ ∧ _
  rw [HR.out]
  exact ⟨rfl, HE.out.1, HE.out.2⟩
set_option maxRecDepth 100000 in
set_option maxHeartbeats 2000000 in
theorem do_6 (h : Mo w L g st F) (hi : i < st.parts.length) (hn : n < (st.part i).procs.length) (ha : a ≤ 255) (hnow : 0 ≤ st.now ∧ st.now ≤ 1000000000000) :
    Calls Tryz.prog 213 #[.pointer (some ⟨L.mb, 0, none⟩), .pointer (some ⟨L.pb, i * 14, none⟩), .pointer (some ⟨L.pr i, n * 6, none⟩), .agg #[.int .i64 6, .int .i64 a], .int .i64 rc] w (DoPost L g st F i n a rc w 6) := by
  have hb1 : Below w.heap.size w (w.alloc (.cells #[.int .i64 6, .int .i64 a] 210)) := (Below.refl _ _).alloc (Nat.le_refl _) _
  have _u := And.intro hi (And.intro hn (And.intro ha hnow))
  clear _u
  have HM := hide (h.mono hb1)
  have HT := hide (Touch.ofBelow (S := Dm L g st) hb1)
  have HR : Hid (doS F.bs i n 6 a rc st = sendS i n a st) := rfl
  have HC := hide (msend_any L g st F i n 6 a _ (h.mono hb1) hi hn)
  clear h hb1
  go_enter Tryz.func213, Tryz.ntmps213
  go_wp2_with fail
  refine HC.out.mono ?_
  rintro e w2 ⟨rfl, h1, h2⟩
  have HE := hide (And.intro h1 (HT.out.andThen h2))
  clear h1 h2
  go_wp2
  go_ret
  show _ ∧ _ ∧ _
  rw [HR.out]
  exact ⟨rfl, HE.out.1, HE.out.2⟩
set_option maxRecDepth 100000 in
set_option maxHeartbeats 2000000 in
theorem do_13 (h : Mo w L g st F) (hi : i < st.parts.length) (hn : n < (st.part i).procs.length) (ha : a ≤ 255) (hnow : 0 ≤ st.now ∧ st.now ≤ 1000000000000) :
    Calls Tryz.prog 213 #[.pointer (some ⟨L.mb, 0, none⟩), .pointer (some ⟨L.pb, i * 14, none⟩), .pointer (some ⟨L.pr i, n * 6, none⟩), .agg #[.int .i64 13, .int .i64 a], .int .i64 rc] w (DoPost L g st F i n a rc w 13) := by
  have hb1 : Below w.heap.size w (w.alloc (.cells #[.int .i64 13, .int .i64 a] 210)) := (Below.refl _ _).alloc (Nat.le_refl _) _
  have _u := And.intro hi (And.intro hn (And.intro ha hnow))
  clear _u
  have HM := hide (h.mono hb1)
  have HT := hide (Touch.ofBelow (S := Dm L g st) hb1)
  have HR : Hid (doS F.bs i n 13 a rc st = countS F.bs i n a st) := rfl
  have HC := hide (mcount_any L g st F i n 13 a _ (h.mono hb1) hi hn)
  clear h hb1
  go_enter Tryz.func213, Tryz.ntmps213
  go_wp2_with fail
  refine HC.out.mono ?_
  rintro e w2 ⟨rfl, h1, h2⟩
  have HE := hide (And.intro h1 (HT.out.andThen h2))
  clear h1 h2
  go_wp2
  go_ret
  show _ ∧ _ ∧ _
  rw [HR.out]
  exact ⟨rfl, HE.out.1, HE.out.2⟩
set_option maxRecDepth 100000 in
set_option maxHeartbeats 2000000 in
theorem do_4 (h : Mo w L g st F) (hi : i < st.parts.length) (hn : n < (st.part i).procs.length) (ha : a ≤ 255) (hnow : 0 ≤ st.now ∧ st.now ≤ 1000000000000) :
    Calls Tryz.prog 213 #[.pointer (some ⟨L.mb, 0, none⟩), .pointer (some ⟨L.pb, i * 14, none⟩), .pointer (some ⟨L.pr i, n * 6, none⟩), .agg #[.int .i64 4, .int .i64 a], .int .i64 rc] w (DoPost L g st F i n a rc w 4) := by
  have hb1 : Below w.heap.size w (w.alloc (.cells #[.int .i64 4, .int .i64 a] 210)) := (Below.refl _ _).alloc (Nat.le_refl _) _
  have _u := And.intro hi (And.intro hn (And.intro ha hnow))
  clear _u
  have HM := hide (h.mono hb1)
  have HT := hide (Touch.ofBelow (S := Dm L g st) hb1)
  have HR : Hid (doS F.bs i n 4 a rc st = (-1, if (st.proc i n).acc ≠ 0 then st.setProc i n (st.follow i n a) else st)) := rfl
  have p2 := h.mach.procAt i n 2 hi hn (by omega)
  simp only [mprocCells, List.getElem?_cons_succ, List.getElem?_cons_zero] at p2
  have hlp2 := lt_of_cell p2
  have f2 := free_of_block (h.mach.procs i hi) (n * 6 + 2)
  have HF1 := hide (follow_any L g st i n a _ (h.mono hb1).mach (h.mono hb1).lay hi hn)
  have HMM := hide (h.mono hb1)
  clear h hb1
  by_cases h0 : (st.proc i n).acc = 0
  · rw [if_neg (by simpa using h0)] at HR
    have h0b : ((st.proc i n).acc != 0) = false := by simp [h0]
    clear h0
    generalize (st.proc i n).acc = ac at *
    go_enter Tryz.func213, Tryz.ntmps213
    go_wp2
    go_ret
    show _ ∧ _ ∧ _
    rw [HR.out]
    exact ⟨rfl, HM.out, HT.out⟩
  · rw [if_pos h0] at HR
    have h0b : ((st.proc i n).acc != 0) = true := by simp [h0]
    clear h0
    generalize (st.proc i n).acc = ac at *
    go_enter Tryz.func213, Tryz.ntmps213
    go_wp2_with fail
    refine HF1.out.mono ?_
    rintro e w2 ⟨rfl, h1, h2⟩
    have h3 := HMM.out.setProc i n (st.follow i n a) hi h2 h1
    have HE := hide (And.intro h3.1 (HT.out.andThen h3.2))
    clear h1 h2 h3
    go_wp2
    go_ret
    show _ ∧ _ ∧ _
    rw [HR.out]
    exact ⟨rfl, HE.out.1, HE.out.2⟩
set_option maxRecDepth 100000 in
set_option maxHeartbeats 2000000 in
theorem do_11 (h : Mo w L g st F) (hi : i < st.parts.length) (hn : n < (st.part i).procs.length) (ha : a ≤ 255) (hnow : 0 ≤ st.now ∧ st.now ≤ 1000000000000) :
    Calls Tryz.prog 213 #[.pointer (some ⟨L.mb, 0, none⟩), .pointer (some ⟨L.pb, i * 14, none⟩), .pointer (some ⟨L.pr i, n * 6, none⟩), .agg #[.int .i64 11, .int .i64 a], .int .i64 rc] w (DoPost L g st F i n a rc w 11) := by
  have hb1 : Below w.heap.size w (w.alloc (.cells #[.int .i64 11, .int .i64 a] 210)) := (Below.refl _ _).alloc (Nat.le_refl _) _
  have _u := And.intro hi (And.intro hn (And.intro ha hnow))
  clear _u
  have HM := hide (h.mono hb1)
  have HT := hide (Touch.ofBelow (S := Dm L g st) hb1)
  have HR : Hid (doS F.bs i n 11 a rc st = (-1, st.setProc i n { st.proc i n with dl := if a = 0 then -1 else st.now + a })) := rfl
  have p5 := h.mach.procAt i n 5 hi hn (by omega)
  simp only [mprocCells, List.getElem?_cons_succ, List.getElem?_cons_zero] at p5
  have hlp5 := lt_of_cell p5
  have f5 := free_of_block (h.mach.procs i hi) (n * 6 + 5)
  have HD := hide (deadline_any L g st a _ (h.mono hb1).mach ha hnow)
  have hdl : dlOf (if a = 0 then -1 else st.now + a) = if a = 0 then 0 else st.now + a := by
    unfold dlOf
    split <;> split <;> omega
  have HE := hide (Mo.fin (h.setProc i n { st.proc i n with dl := if a = 0 then -1 else st.now + a } hi (Touch.ofSet w (L.pr i) (n * 6 + 5) (.int .i64 (if a = 0 then 0 else st.now + a)) rfl) (h.mach.procCell h.lay i n 5 (.int .i64 (if a = 0 then 0 else st.now + a)) _ hi hn (by omega) (by rw [← hdl]; rfl))).1 (h.setProc i n { st.proc i n with dl := if a = 0 then -1 else st.now + a } hi (Touch.ofSet w (L.pr i) (n * 6 + 5) (.int .i64 (if a = 0 then 0 else st.now + a)) rfl) (h.mach.procCell h.lay i n 5 (.int .i64 (if a = 0 then 0 else st.now + a)) _ hi hn (by omega) (by rw [← hdl]; rfl))).2 (.cells #[.int .i64 11, .int .i64 a] 210))
  clear h hb1 hdl
  generalize hdv : (if a = 0 then (0 : Int) else st.now + a) = dv at HD HE
  have HDV := hide hdv
  clear hdv
  go_enter Tryz.func213, Tryz.ntmps213
  go_wp2_with fail
  refine HD.out.mono ?_
  rintro e w2 ⟨rfl, rfl⟩
  go_wp2
  go_ret
  show _ ∧ _ ∧ _
  rw [HR.out]
  exact ⟨rfl, HE.out.1, HE.out.2⟩
set_option maxRecDepth 100000 in
set_option maxHeartbeats 2000000 in
theorem do_7 (h : Mo w L g st F) (hi : i < st.parts.length) (hn : n < (st.part i).procs.length) (ha : a ≤ 255) (hnow : 0 ≤ st.now ∧ st.now ≤ 1000000000000) :
    Calls Tryz.prog 213 #[.pointer (some ⟨L.mb, 0, none⟩), .pointer (some ⟨L.pb, i * 14, none⟩), .pointer (some ⟨L.pr i, n * 6, none⟩), .agg #[.int .i64 7, .int .i64 a], .int .i64 rc] w (DoPost L g st F i n a rc w 7) := by
  have hb1 : Below w.heap.size w (w.alloc (.cells #[.int .i64 7, .int .i64 a] 210)) := (Below.refl _ _).alloc (Nat.le_refl _) _
  have _u := And.intro hi (And.intro hn (And.intro ha hnow))
  clear _u
  have HM := hide (h.mono hb1)
  have HT := hide (Touch.ofBelow (S := Dm L g st) hb1)
  have HR : Hid (doS F.bs i n 7 a rc st = if mineTo st i a = true then (-1, st.setProc i n { st.proc i n with acc := rc }) else (4, st)) := rfl
  have HC := hide (receives_any L g st F i 7 a _ (h.mono hb1) hi)
  have HMM := hide (h.mono hb1)
  clear h hb1
  cases hmt : mineTo st i a with
  | false =>
    rw [hmt] at HC HR
    rw [if_neg (by decide)] at HR
    clear hmt
    go_enter Tryz.func213, Tryz.ntmps213
    go_wp2_with fail
    refine HC.out.mono ?_
    rintro e w2 ⟨rfl, h1⟩
    have HE := hide (And.intro (HMM.out.mono h1) (HT.out.andThen (Touch.ofBelow h1)))
    clear h1
    go_wp2
    go_ret
    show _ ∧ _ ∧ _
    rw [HR.out]
    exact ⟨rfl, HE.out.1, HE.out.2⟩
  | true =>
    rw [hmt] at HC HR
    rw [if_pos rfl] at HR
    clear hmt
    go_enter Tryz.func213, Tryz.ntmps213
    go_wp2_with fail
    refine HC.out.mono ?_
    rintro e w2 ⟨rfl, h1⟩
    have hm2 := HMM.out.mono h1
    have p2 := proc_acc hm2.mach i n hi hn
    have f2 := free_of_block (hm2.mach.procs i hi) (n * 6 + 2)
    have HE := hide (And.intro (hm2.setAcc i n rc hi hn).1 ((HT.out.andThen (Touch.ofBelow h1)).andThen (hm2.setAcc i n rc hi hn).2))
    clear h1 hm2
    go_wp2
    go_ret
    show _ ∧ _ ∧ _
    rw [HR.out]
    exact ⟨rfl, HE.out.1, HE.out.2⟩
theorem do_any (op : Int) (h : Mo w L g st F) (hi : i < st.parts.length) (hn : n < (st.part i).procs.length) (ha : a ≤ 255) (hnow : 0 ≤ st.now ∧ st.now ≤ 1000000000000) (hop : 0 ≤ op ∧ op ≤ 13) :
    Calls Tryz.prog 213 #[.pointer (some ⟨L.mb, 0, none⟩), .pointer (some ⟨L.pb, i * 14, none⟩), .pointer (some ⟨L.pr i, n * 6, none⟩), .agg #[.int .i64 op, .int .i64 a], .int .i64 rc] w (DoPost L g st F i n a rc w op) := by
  obtain rfl | rfl | rfl | rfl | rfl | rfl | rfl | rfl | rfl | rfl | rfl | rfl | rfl | rfl : op = 0 ∨ op = 1 ∨ op = 2 ∨ op = 3 ∨ op = 4 ∨ op = 5 ∨ op = 6 ∨ op = 7 ∨ op = 8 ∨ op = 9 ∨ op = 10 ∨ op = 11 ∨ op = 12 ∨ op = 13 := by omega
  · exact do_0 L g st F i n a rc w h hi hn ha hnow
  · exact do_1 L g st F i n a rc w h hi hn ha hnow
  · exact do_2 L g st F i n a rc w h hi hn ha hnow
  · exact do_3 L g st F i n a rc w h hi hn ha hnow
  · exact do_4 L g st F i n a rc w h hi hn ha hnow
  · exact do_5 L g st F i n a rc w h hi hn ha hnow
  · exact do_6 L g st F i n a rc w h hi hn ha hnow
  · exact do_7 L g st F i n a rc w h hi hn ha hnow
  · exact do_8 L g st F i n a rc w h hi hn ha hnow
  · exact do_9 L g st F i n a rc w h hi hn ha hnow
  · exact do_10 L g st F i n a rc w h hi hn ha hnow
  · exact do_11 L g st F i n a rc w h hi hn ha hnow
  · exact do_12 L g st F i n a rc w h hi hn ha hnow
  · exact do_13 L g st F i n a rc w h hi hn ha hnow
end
end Go.Proofs.YtnjlbgolnbdkaaaGreat
/- The program's machine: a process does its next instruction. -/
namespace Go.Proofs.YtnjlbgolnbdkaaaGreat
open Go.RowKit

theorem codeAt_read {w : World} {L : MLay} {g : Nat} {st : RSt} (h : MachAt w L g st) (i n k : Nat) (hi : i < st.parts.length) (hn : n < (st.part i).procs.length) (hk : k < (st.codeOf i n).length) :
    ∃ x c, L.code i n = .slice (some ⟨x, 0, none⟩) (st.codeOf i n).length c ∧ w.cell? ⟨x, k * 2, none⟩ = some (.int .i64 ((st.codeOf i n).getD k (0, 0)).1) ∧ w.cell? ⟨x, k * 2 + 1, none⟩ = some (.int .i64 ((st.codeOf i n).getD k (0, 0)).2) := by
  obtain ⟨_, ad, c, hv, hr⟩ := own_read (fun c : Int × Int => [Value.int .i64 c.1, .int .i64 c.2]) (fun _ => rfl) (st.codeOf i n) rfl (h.code i n hi hn)
  obtain ⟨x, hx, hc⟩ := hr k _ (List.getElem?_eq_getElem hk)
  subst hx
  refine ⟨x, c, hv, ?_, ?_⟩
  · have := hc 0 (by omega)
    simp only [List.getD_eq_getElem?_getD, List.getElem?_eq_getElem hk] at this ⊢
    simpa using this
  · have := hc 1 (by omega)
    simp only [List.getD_eq_getElem?_getD, List.getElem?_eq_getElem hk] at this ⊢
    simpa using this
theorem ins_good {st : RSt} (ho : StOk st) (i n k : Nat) (hi : i < st.parts.length) (hn : n < (st.part i).procs.length) (hk : k < (st.codeOf i n).length) : (0 ≤ ((st.codeOf i n).getD k (0, 0)).1 ∧ ((st.codeOf i n).getD k (0, 0)).1 ≤ 13) ∧ (0 ≤ ((st.codeOf i n).getD k (0, 0)).2 ∧ ((st.codeOf i n).getD k (0, 0)).2 ≤ 255) ∧ (((st.codeOf i n).getD k (0, 0)).1 = 4 → ((st.codeOf i n).getD k (0, 0)).2 < (st.codeOf i n).length) := by
  have hp := ho.good.parts (st.cf.parts.getD i default) (getD_mem (by rw [← ho.len]; exact hi))
  have hl := (ho.part i hi).2
  have hq := hp.procs ((st.cf.parts.getD i default).procs.getD n default) (getD_mem (by rw [← hl]; exact hn))
  refine hq.code _ ?_
  show (st.codeOf i n).getD k (0, 0) ∈ st.codeOf i n
  rw [List.getD_eq_getElem?_getD, List.getElem?_eq_getElem hk]
  exact List.getElem_mem hk
def stepP (i n : Nat) (rc : Int) (s : SF) : Int × RSt := doS s.2.bs i n (insOf s.1 i n).1 (insOf s.1 i n).2.toNat rc (s.1.setProc i n (s.1.follow i n ((s.1.proc i n).next + 1)))
def stepF (i n : Nat) (rc : Int) (s : SF) : Bool × SF := if (stepP i n rc s).1 = -1 then (true, (stepP i n rc s).2, s.2) else faultS i n (stepP i n rc s).1.toNat ((stepP i n rc s).2, s.2)
theorem ite_both {α : Type} {P : α → Prop} {b : Prop} [Decidable b] {x y : α} (hx : P x) (hy : P y) : P (if b then x else y) := by split <;> assumption
def CodeOk (r : Int × RSt) : Prop := -1 ≤ r.1 ∧ r.1 < 5
theorem doS_code (bs : List Int) (i n : Nat) (op : Int) (a : Nat) (rc : Int) (st : RSt) : CodeOk (doS bs i n op a rc st) := by
  have m1 : ∀ x : RSt, CodeOk (-1, x) := fun _ => ⟨Int.le_refl (-1), (by decide : (-1 : Int) < 5)⟩
  have m0 : ∀ x : RSt, CodeOk (0, x) := fun _ => ⟨(by decide : (-1 : Int) ≤ 0), (by decide : (0 : Int) < 5)⟩
  have m2 : ∀ x : RSt, CodeOk (1, x) := fun _ => ⟨(by decide : (-1 : Int) ≤ 1), (by decide : (1 : Int) < 5)⟩
  have m3 : ∀ x : RSt, CodeOk (3, x) := fun _ => ⟨(by decide : (-1 : Int) ≤ 3), (by decide : (3 : Int) < 5)⟩
  have m4 : ∀ x : RSt, CodeOk (4, x) := fun _ => ⟨(by decide : (-1 : Int) ≤ 4), (by decide : (4 : Int) < 5)⟩
  unfold doS accessS sendS countS
  repeat' (first | exact m1 _ | exact m0 _ | exact m2 _ | exact m3 _ | exact m4 _ | apply ite_both)
def LkOk (st : RSt) (r : Int × RSt) : Prop := Lk st r.2
theorem doS_like (bs : List Int) (i n : Nat) (op : Int) (a : Nat) (rc : Int) (st : RSt) : LkOk st (doS bs i n op a rc st) := by
  have m1 : ∀ (c : Int) (x : RProc), LkOk st (c, st.setProc i n x) := fun _ _ => Lk.setProc _ _ _ _
  have m2 : ∀ (c : Int) (x : RPart), LkOk st (c, st.setPart i x) := fun _ _ => Lk.setPart _ _ _
  have m3 : ∀ (c : Int), LkOk st (c, st) := fun _ => Lk.refl _
  have m4 : ∀ (c : Int) (q : List (List Int)), LkOk st (c, { st with queues := q }) := fun _ _ => ⟨rfl, rfl, rfl⟩
  have m5 : LkOk st (-1, if (st.proc i n).acc ≠ 0 then st.setProc i n (st.follow i n a) else st) := by
    show Lk st (if _ then _ else _)
    split
    · exact Lk.setProc _ _ _ _
    · exact Lk.refl _
  unfold doS accessS sendS countS
  repeat' (first | exact m1 _ _ | exact m2 _ _ | exact m3 _ | exact m5 | exact m4 _ _ | apply ite_both)
set_option maxRecDepth 100000 in
set_option maxHeartbeats 4000000 in
theorem step_any (L : MLay) (g : Nat) (st : RSt) (F : Fl) (i n : Nat) (rc : Int) (w : World) (h : Mo w L g st F) (hrun : StRun st) (hi : i < st.parts.length) (hn : n < (st.part i).procs.length) (hgo : (st.proc i n).stopped = false) :
    Calls Tryz.prog 190 #[.pointer (some ⟨L.mb, 0, none⟩), .pointer (some ⟨L.pb, i * 14, none⟩), .pointer (some ⟨L.pr i, n * 6, none⟩), .int .i64 rc] w fun e w' => e = .returned (.bool (stepF i n rc (st, F)).1) ∧ Mo w' L g (stepF i n rc (st, F)).2.1 (stepF i n rc (st, F)).2.2 ∧ Touch (Dm L g st) w w' := by
  have hpp := hrun.proc i n hi hn
  have hnx : (st.proc i n).next < (st.codeOf i n).length := by
    rcases hpp.next.2.2 with h1 | h1
    · rw [hgo] at h1; cases h1
    · exact h1
  obtain ⟨k, hk⟩ : ∃ k : Nat, (st.proc i n).next = k := ⟨(st.proc i n).next.toNat, by have := hpp.next.1; omega⟩
  have hkl : k < (st.codeOf i n).length := by omega
  obtain ⟨x, c, hcv, x0, x1⟩ := codeAt_read h.mach i n k hi hn hkl
  obtain ⟨hg1, hg2, hg3⟩ := ins_good h.ok i n k hi hn hkl
  have hil := h.ok.codeLen i n hi hn
  have HIN : Hid (insOf st i n = (st.codeOf i n).getD k (0, 0)) := by show _ = _; unfold insOf; rw [hk]; rfl
  generalize (st.codeOf i n).getD k (0, 0) = ins at *
  obtain ⟨op, av⟩ := ins
  simp only at x0 x1 hg1 hg2 hg3 HIN
  obtain ⟨a, rfl⟩ : ∃ a : Nat, av = a := ⟨av.toNat, by omega⟩
  have p0 := h.mach.procAt i n 0 hi hn (by omega)
  have p1 := h.mach.procAt i n 1 hi hn (by omega)
  simp only [mprocCells, List.getElem?_cons_succ, List.getElem?_cons_zero, Nat.add_zero] at p0 p1
  rw [hcv] at p0
  rw [hk] at p1
  have hlp := lt_of_cell p0
  have hlx := lt_of_cell x0
  obtain ⟨st1, hst1⟩ : ∃ st1, st1 = st.setProc i n (st.follow i n ((k : Int) + 1)) := ⟨_, rfl⟩
  have HSF : Hid (stepF i n rc (st, F) = if (doS F.bs i n op a rc st1).1 = -1 then (true, (doS F.bs i n op a rc st1).2, F) else faultS i n (doS F.bs i n op a rc st1).1.toNat ((doS F.bs i n op a rc st1).2, F)) := by
    show _ = _
    unfold stepF stepP
    simp only [HIN.out, hk, Int.toNat_natCast]
    rw [← hst1]
  have HLK : Hid (Lk st st1) := by rw [hst1]; exact Lk.setProc _ _ _ _
  have HBL : Hid (∀ o, Below w.heap.size w (w.alloc o)) := fun o => (Below.refl _ _).alloc (Nat.le_refl _) _
  have HFW : Hid (∀ W, Below w.heap.size w W → Calls Tryz.prog 212 #[.pointer (some ⟨L.pr i, n * 6, none⟩), .int .i64 ((k : Int) + 1)] W fun e w' => e = .returned (.tuple #[]) ∧ Mo w' L g st1 F ∧ Touch (Dm L g st) W w' ∧ Touch (· = L.pr i) W w') := fun W hW => by
    have hMW := h.mono hW
    refine (follow_any L g st i n ((k : Int) + 1) W hMW.mach hMW.lay hi hn).mono ?_
    rintro e w' ⟨rfl, h1, h2⟩
    have h3 := hMW.setProc i n _ hi h2 h1
    rw [← hst1] at h3
    exact ⟨rfl, h3.1, h3.2, h2⟩
  have hnow := hrun.now
  have hi1 : i < st1.parts.length := by rw [HLK.out.len]; exact hi
  have hn1 : n < (st1.part i).procs.length := by rw [hst1, (setProc_like _ _ _ _).2.2]; exact hn
  have HNW : Hid (st1.now = st.now) := HLK.out.now
  have hkn : (k : Int) ≤ 1000 := by have := hpp.next.2.1; omega
  have hpw : ¬ w.heap.size = L.pr i := by have := lt_of_block (h.mach.procs i hi); omega
  have H := hide h
  clear h hcv hst1 hrun hpp hgo
  generalize (st.codeOf i n).length = len at *
  go_enter Tryz.func190, Tryz.ntmps190
  go_wp2_with fail
  go_region
  all_goals
    go_wp2_with fail
    refine (HFW.out _ ((HBL.out _).drew)).mono ?_
    rintro e w2 ⟨rfl, hm2, ht2, hq2⟩
    have hbx : w2.heap[w.heap.size]? = some (.cells #[.int .i64 op, .int .i64 a] 210 (0, 0)) := (hq2.block _ (by simp [World.drew]) hpw).trans (heap_alloc_new w _)
    have b0 : w2.cell? ⟨w.heap.size, 0, none⟩ = some (.int .i64 op) := by rw [cell_of_row _ _ _ _ _ _ hbx]; rfl
    have b1 : w2.cell? ⟨w.heap.size, 1, none⟩ = some (.int .i64 a) := by rw [cell_of_row _ _ _ _ _ _ hbx]; rfl
    have HDO := hide (do_any L g st1 F i n a rc w2 op hm2 hi1 hn1 (by omega) (by rw [HNW.out]; exact hnow) hg1)
    have HT2 : Hid (Touch (Dm L g st) w w2) := (Touch.ofBelow ((HBL.out _).drew)).andThen ht2
    have HM2 := hide hm2
    clear hm2 ht2 hq2 hbx x0 x1 p0 p1 HFW
    go_wp2_with fail
    refine HDO.out.mono ?_
    rintro e w3 ⟨rfl, hm3, ht3⟩
    have hco := doS_code F.bs i n op a rc st1
    have hlk := doS_like F.bs i n op a rc st1
    have HT3 : Hid (Touch (Dm L g st) w w3) := HT2.out.andThen (ht3.to (fun b hb => Dm.like HLK.out hb))
    have hi3 : i < (doS F.bs i n op a rc st1).2.parts.length := by rw [Lk.len hlk]; exact hi1
    have hn3 : n < ((doS F.bs i n op a rc st1).2.part i).procs.length := by
      rw [Lk.procs hlk HM2.out.ok hm3.ok i hi1]
      exact hn1
    have HD3 : Hid (∀ b, Dm L g (doS F.bs i n op a rc st1).2 b → Dm L g st b) := fun b hb => Dm.like HLK.out (Dm.like hlk hb)
    generalize doS F.bs i n op a rc st1 = D at *
    obtain ⟨dc, ds⟩ := D
    simp only at hm3 hi3 hn3 HD3 HSF
    have hco1 : -1 ≤ dc := hco.1
    have hco2 : dc < 5 := hco.2
    clear hco hlk HDO
    by_cases hd : dc = -1
    · subst hd
      rw [if_pos rfl] at HSF
      have HM3 := hide hm3
      clear hm3 ht3
      go_wp2
      go_ret
      rw [HSF.out]
      exact ⟨rfl, HM3.out, HT3.out⟩
    · rw [if_neg hd] at HSF
      obtain ⟨cd, rfl⟩ : ∃ cd : Nat, dc = cd := ⟨dc.toNat, by omega⟩
      rw [Int.toNat_natCast] at HSF
      have HFA := hide (fault_any L g ds F i n cd (some ⟨L.pr i, n * 6, none⟩) w3 hm3 hi3 hn3 (by omega) (.inl rfl))
      rw [← HSF.out] at HFA
      have hdb : ((cd : Int) == -1) = false := by simp
      clear hm3 ht3 hd HSF
      go_wp2_with fail
      refine HFA.out.mono ?_
      rintro e w4 ⟨rfl, h1, h2⟩
      have HE := hide (And.intro h1 (HT3.out.andThen (h2.to HD3.out)))
      clear h1 h2
      go_wp2
      go_ret
      exact ⟨rfl, HE.out.1, HE.out.2⟩
end Go.Proofs.YtnjlbgolnbdkaaaGreat
/- The program's machine: a process need not wait for a number, or it comes. -/
namespace Go.Proofs.YtnjlbgolnbdkaaaGreat
open Go.RowKit

def recvS (i n : Nat) (st : RSt) : (Int × Bool) × RSt :=
  if ((insOf st i n).1 == 7 && mineTo st i (insOf st i n).2) = true then
    (match st.queues.getD (insOf st i n).2.toNat [] with | [] => ((0, false), st) | v :: vs => ((v, true), { st with queues := st.queues.set (insOf st i n).2.toNat vs }))
  else ((0, true), st)
set_option maxRecDepth 100000 in
set_option maxHeartbeats 4000000 in
theorem mreceive_any (L : MLay) (g : Nat) (st : RSt) (F : Fl) (i n : Nat) (w : World) (h : Mo w L g st F) (hrun : StRun st) (hi : i < st.parts.length) (hn : n < (st.part i).procs.length) (hgo : (st.proc i n).stopped = false) :
    Calls Tryz.prog 189 #[.pointer (some ⟨L.mb, 0, none⟩), .pointer (some ⟨L.pb, i * 14, none⟩), .pointer (some ⟨L.pr i, n * 6, none⟩)] w fun e w' => e = .returned (.tuple #[.int .i64 (recvS i n st).1.1, .bool (recvS i n st).1.2]) ∧ Mo w' L g (recvS i n st).2 F ∧ Touch (Dm L g st) w w' := by
  have hpp := hrun.proc i n hi hn
  have hnx : (st.proc i n).next < (st.codeOf i n).length := by
    rcases hpp.next.2.2 with h1 | h1
    · rw [hgo] at h1; cases h1
    · exact h1
  obtain ⟨k, hk⟩ : ∃ k : Nat, (st.proc i n).next = k := ⟨(st.proc i n).next.toNat, by have := hpp.next.1; omega⟩
  have hkl : k < (st.codeOf i n).length := by omega
  obtain ⟨x, c, hcv, x0, x1⟩ := codeAt_read h.mach i n k hi hn hkl
  obtain ⟨hg1, hg2, hg3⟩ := ins_good h.ok i n k hi hn hkl
  have HIN : Hid (insOf st i n = (st.codeOf i n).getD k (0, 0)) := by show _ = _; unfold insOf; rw [hk]; rfl
  generalize (st.codeOf i n).getD k (0, 0) = ins at *
  obtain ⟨op, av⟩ := ins
  simp only at x0 x1 hg1 hg2 hg3 HIN
  obtain ⟨a, rfl⟩ : ∃ a : Nat, av = a := ⟨av.toNat, by omega⟩
  have p0 := h.mach.procAt i n 0 hi hn (by omega)
  have p1 := h.mach.procAt i n 1 hi hn (by omega)
  simp only [mprocCells, List.getElem?_cons_succ, List.getElem?_cons_zero, Nat.add_zero] at p0 p1
  rw [hcv] at p0
  rw [hk] at p1
  have hlp := lt_of_cell p0
  have hlx := lt_of_cell x0
  obtain ⟨ι, hni, f, hf, hg⟩ := belowClass w
  have HC0 : Hid (∃ i, w.drew = f i) := hg _ (Below.refl _ _).drew
  have HC1 : Hid (∀ j, ∃ k, (f j).drew = f k) := fun j => hg _ ((hf j).drew)
  have HMf : Hid (∀ j, Mo (f j) L g st F) := fun j => h.mono (hf j)
  have HFB : Hid (∀ j, Below w.heap.size w (f j)) := hf
  have e0 : ∀ j, (f j).cell? ⟨L.pr i, n * 6, none⟩ = some (.slice (some ⟨x, 0, none⟩) (st.codeOf i n).length c) := fun j => ((hf j).cell (p := ⟨L.pr i, n * 6, none⟩) hlp).trans p0
  have e1 : ∀ j, (f j).cell? ⟨L.pr i, n * 6 + 1, none⟩ = some (.int .i64 k) := fun j => ((hf j).cell (p := ⟨L.pr i, n * 6 + 1, none⟩) hlp).trans p1
  have e2 : ∀ j, (f j).cell? ⟨x, k * 2, none⟩ = some (.int .i64 op) := fun j => ((hf j).cell (p := ⟨x, k * 2, none⟩) hlx).trans x0
  have e3 : ∀ j, (f j).cell? ⟨x, k * 2 + 1, none⟩ = some (.int .i64 a) := fun j => ((hf j).cell (p := ⟨x, k * 2 + 1, none⟩) hlx).trans x1
  have HRV : Hid (∀ j, Calls Tryz.prog 209 #[.pointer (some ⟨L.mb, 0, none⟩), .pointer (some ⟨L.pb, i * 14, none⟩), .agg #[.int .i64 op, .int .i64 a]] (f j) fun e w' => e = .returned (.bool (op == 7 && mineTo st i a)) ∧ ∃ k, w' = f k) := fun j => Calls.inClass hf hg j (receives_any L g st F i op a _ (HMf.out j) hi)
  obtain ⟨R, hR⟩ : ∃ R, R = recvS i n st := ⟨_, rfl⟩
  rw [← hR]
  have HRR : Hid (R = if (op == 7 && mineTo st i a) = true then (match st.queues.getD a [] with | [] => ((0, false), st) | v :: vs => ((v, true), { st with queues := st.queues.set a vs })) else ((0, true), st)) := by
    show _ = _
    rw [hR]
    unfold recvS
    rw [HIN.out]
    simp only [Int.toNat_natCast]
  cases hb : (op == 7 && mineTo st i a) with
  | false =>
    rw [hb] at HRV HRR
    rw [if_neg (by decide)] at HRR
    clear h hR hb hcv p0 p1 x0 x1 hrun hpp hgo hf hg hg3
    generalize (st.codeOf i n).length = len at *
    go_enter Tryz.func189, Tryz.ntmps189
    go_wp2_with fail
    refine region_class f (by kernel_rfl) (by kernel_rfl) HC0.out ?_
    repeat (go_big_quiet_step (first | (go_at_call 209; with_reducible exact HRV.out _)))
    refine wpQuiet_nil ?_
    rintro _ ⟨j, rfl⟩
    go_wp2
    go_ret2
    rw [HRR.out]
    exact ⟨rfl, HMf.out j, Touch.ofBelow (HFB.out j)⟩
  | true =>
    rw [hb] at HRV HRR
    rw [if_pos rfl] at HRR
    have hmt : mineTo st i a = true := by simp only [Bool.and_eq_true] at hb; exact hb.2
    have hal : a < st.cf.chans.length := by
      unfold mineTo at hmt
      simp only [decide_eq_true_eq] at hmt
      omega
    have HAT : Hid (∀ j, Calls Tryz.prog 210 #[.agg #[.slice (some ⟨L.cb, 0, none⟩) st.cf.chans.length st.cf.chans.length], .int .i64 a] (f j) fun e w' => e = .returned (.pointer (some ⟨L.cb, a * 3, none⟩)) ∧ ∃ k, w' = f k) := fun j => Calls.inClass hf hg j (chanAt_any L.cb _ a _ hal)
    obtain ⟨sr, hsr⟩ : ∃ sr, sr = (st.cf.chans.getD a default).src := ⟨_, rfl⟩
    obtain ⟨ds, hds⟩ : ∃ ds, ds = (st.cf.chans.getD a default).dst := ⟨_, rfl⟩
    obtain ⟨S, hS⟩ : ∃ S : World → Prop, S = fun W => W.cell? ⟨L.mb, 5, none⟩ = some (.slice (some ⟨L.cb, 0, none⟩) st.cf.chans.length st.cf.chans.length) ∧ W.cell? ⟨L.pr i, n * 6, none⟩ = some (.slice (some ⟨x, 0, none⟩) (st.codeOf i n).length c) ∧ W.cell? ⟨L.pr i, n * 6 + 1, none⟩ = some (.int .i64 k) ∧ W.cell? ⟨x, k * 2 + 1, none⟩ = some (.int .i64 a) ∧ W.cell? ⟨L.cb, a * 3, none⟩ = some (.int .i64 sr) ∧ W.cell? ⟨L.cb, a * 3 + 1, none⟩ = some (.int .i64 ds) ∧ W.cell? ⟨L.cb, a * 3 + 2, none⟩ = some (.chan (some (L.ch a))) := ⟨_, rfl⟩
    have HSE : Hid (∀ W, S W → W.cell? ⟨L.mb, 5, none⟩ = some (.slice (some ⟨L.cb, 0, none⟩) st.cf.chans.length st.cf.chans.length) ∧ W.cell? ⟨L.pr i, n * 6, none⟩ = some (.slice (some ⟨x, 0, none⟩) (st.codeOf i n).length c) ∧ W.cell? ⟨L.pr i, n * 6 + 1, none⟩ = some (.int .i64 k) ∧ W.cell? ⟨x, k * 2 + 1, none⟩ = some (.int .i64 a) ∧ W.cell? ⟨L.cb, a * 3, none⟩ = some (.int .i64 sr) ∧ W.cell? ⟨L.cb, a * 3 + 1, none⟩ = some (.int .i64 ds) ∧ W.cell? ⟨L.cb, a * 3 + 2, none⟩ = some (.chan (some (L.ch a)))) := fun W h => by rw [hS] at h; exact h
    have HSf : Hid (∀ k, S (f k)) := fun k => by
      rw [hS]
      have c5 := (HMf.out k).mach.machAt 5
      simp only [List.getElem?_toArray, List.getElem?_cons_succ, List.getElem?_cons_zero] at c5
      have k0 := (HMf.out k).mach.chanC a 0 hal (by omega)
      have k1 := (HMf.out k).mach.chanC a 1 hal (by omega)
      have k2 := (HMf.out k).mach.chanC a 2 hal (by omega)
      simp only [mchanCells, List.getElem?_cons_succ, List.getElem?_cons_zero, Nat.add_zero] at k0 k1 k2
      rw [← hsr] at k0
      rw [← hds] at k1
      exact ⟨c5, e0 k, e1 k, e3 k, k0, k1, k2⟩
    have HCS : Hid (∀ k, Calls Tryz.prog 211 #[.agg #[.int .i64 sr, .int .i64 ds, .chan (some (L.ch a))]] (f k) fun e w' => e = .returned (.tuple #[.int .i64 R.1.1, .bool R.1.2]) ∧ S w' ∧ Mo w' L g R.2 F ∧ Touch (Dm L g st) w w') := fun kk => by
      obtain ⟨s0, r0, hq⟩ := (HMf.out kk).mach.queue a hal
      have kS : ∀ W, (∀ b c t, (f kk).heap[b]? = some (Obj.cells c t (0, 0)) → W.heap[b]? = (f kk).heap[b]?) → S W := fun W hkk => by
        have h0 := HSf.out kk
        rw [hS] at h0 ⊢
        obtain ⟨cur, hcu⟩ := own_of ((HMf.out kk).mach.code i n hi hn) (by rw [hcv]; rfl)
        have hcu' : (f kk).heap[x]? = some (.cells cur 210 (0, 0)) := hcu
        exact ⟨(World.cell?_of_block (hkk _ _ _ (HMf.out kk).mach.mach)).trans h0.1, (World.cell?_of_block (hkk _ _ _ ((HMf.out kk).mach.procs i hi))).trans h0.2.1, (World.cell?_of_block (hkk _ _ _ ((HMf.out kk).mach.procs i hi))).trans h0.2.2.1, (World.cell?_of_block (hkk x _ _ hcu')).trans h0.2.2.2.1, (World.cell?_of_block (hkk _ _ _ (HMf.out kk).mach.chans)).trans h0.2.2.2.2.1, (World.cell?_of_block (hkk _ _ _ (HMf.out kk).mach.chans)).trans h0.2.2.2.2.2.1, (World.cell?_of_block (hkk _ _ _ (HMf.out kk).mach.chans)).trans h0.2.2.2.2.2.2⟩
      rw [HRR.out]
      cases hqq : st.queues.getD a [] with
      | nil =>
        rw [hqq] at hq
        refine (receive_none (L.ch a) _ s0 r0 sr ds (f kk) hq).mono ?_
        rintro e w' ⟨rfl, h1⟩
        exact ⟨rfl, kS w' (fun b c t hb => h1.block b (lt_of_block hb)), (HMf.out kk).mono h1, (Touch.ofBelow (HFB.out kk)).andThen (Touch.ofBelow h1)⟩
      | cons v vs =>
        rw [hqq] at hq
        refine (receive_some (L.ch a) _ s0 r0 v (vs.map (Value.int .i64)) sr ds (f kk) hq).mono ?_
        rintro e w' ⟨rfl, h1, h2⟩
        have h3 := (HMf.out kk).setQueue a hal h2 vs ⟨s0, r0 + 1, h1⟩
        exact ⟨rfl, kS w' (fun b c t hb => h2.block b (lt_of_block hb) (fun e => ne_of_chan hb hq e)), h3.1, (Touch.ofBelow (HFB.out kk)).andThen h3.2⟩
    obtain ⟨⟨rv, rb⟩, R2⟩ := R
    simp only at HCS
    clear h hR hb hcv p0 p1 x0 x1 hrun hpp hgo hf hg hg3 hsr hds hS HRR hmt
    generalize (st.codeOf i n).length = len at *
    generalize st.cf.chans.length = m at *
    go_enter Tryz.func189, Tryz.ntmps189
    go_wp2_with fail
    refine region_class f (by kernel_rfl) (by kernel_rfl) HC0.out ?_
    repeat (go_big_quiet_step (first | (go_at_call 209; with_reducible exact HRV.out _)))
    refine wpQuiet_nil ?_
    rintro _ ⟨j, rfl⟩
    obtain ⟨j1, hj1⟩ := HC1.out j
    have HS1 := hide (HSE.out _ (by rw [hj1]; exact HSf.out j1 : S (f j).drew))
    have HA1' : Hid (Calls Tryz.prog 210 #[.agg #[.slice (some ⟨L.cb, 0, none⟩) m m], .int .i64 a] (f j).drew fun e w' => e = .returned (.pointer (some ⟨L.cb, a * 3, none⟩)) ∧ ∃ k, w' = f k) := by rw [hj1]; exact HAT.out j1
    clear hj1
    go_wp2_with fail
    go_region_held (fun W : World => W.cell? ⟨L.mb, 5, none⟩ = some (.slice (some ⟨L.cb, 0, none⟩) m m) ∧ W.cell? ⟨L.pr i, n * 6, none⟩ = some (.slice (some ⟨x, 0, none⟩) len c) ∧ W.cell? ⟨L.pr i, n * 6 + 1, none⟩ = some (.int .i64 k) ∧ W.cell? ⟨x, k * 2 + 1, none⟩ = some (.int .i64 a) ∧ W.cell? ⟨L.cb, a * 3, none⟩ = some (.int .i64 sr) ∧ W.cell? ⟨L.cb, a * 3 + 1, none⟩ = some (.int .i64 ds) ∧ W.cell? ⟨L.cb, a * 3 + 2, none⟩ = some (.chan (some (L.ch a))))
      ((first | (with_reducible assumption) | (with_reducible exact HS1.out)))
      (first
      | (go_at_call 210; refine HA1'.out.mono ?_; rintro e w9 ⟨rfl, kz, rfl⟩; have hSS := HSE.out _ (HSf.out kz))
      | (go_at_call 211; refine (HCS.out _).mono ?_; rintro e w9 ⟨rfl, hs9, hm9, ht9⟩; have hSS2 := HSE.out _ hs9))
    all_goals (
      have HEND := hide (And.intro hm9 ht9)
      clear hm9 ht9 hs9
      go_wp2
      go_ret2
      exact ⟨rfl, HEND.out.1, HEND.out.2⟩)
end Go.Proofs.YtnjlbgolnbdkaaaGreat
