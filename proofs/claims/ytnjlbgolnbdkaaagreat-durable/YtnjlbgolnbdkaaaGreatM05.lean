/- Texts of the proofs of Watched and Clocked, one behind the other. -/
import Derived.Test.YtnjlbgolnbdkaaaGreatM04
import Derived.Test.YtnjlbgolnbdkaaaGreatM02
/- Texts of the proof of Boots, one behind the other. -/
namespace Go.Proofs.YtnjlbgolnbdkaaaGreat
open Go.RowKit

set_option maxRecDepth 100000 in
set_option maxHeartbeats 2000000 in
theorem list_ins (p1 p2 : Nat) (many : Nat) (hm : many ≤ 255) (S : Nat → Prop) (w : World) (hS : ∀ b, S b → b < w.heap.size) (I : Nat → List (Int × Int) → World → Prop)
    (hkeep : ∀ j l wr w', I j l wr → Touch (fun b => w.heap.size ≤ b ∧ OfType wr b (· = 210)) wr w' → I j l w')
    (hstep : ∀ j l wr, j < many → I j l wr → Calls Tryz.prog 164 #[.pointer (some ⟨p1, 0, none⟩), .pointer (some ⟨p2, 0, none⟩)] wr fun e w' => ∃ (a b : Int), e = .returned (.agg #[.int .i64 a, .int .i64 b]) ∧ I (j + 1) (l ++ [(a, b)]) w' ∧ Touch S wr w')
    (h0 : I 0 [] w) : Calls Tryz.prog 163 #[.int .i64 many, .func (.func 164) #[] #[.pointer (some ⟨p1, 0, none⟩), .pointer (some ⟨p2, 0, none⟩)]] w fun e w' => ∃ v l, e = .returned v ∧ I many l w' ∧ l.length = many ∧ w'.ownsRow w.heap.size 210 2 v l.length (insCells l) := by
  obtain ⟨i0, hi, hz0, hz1, hz2⟩ := info_parts Tryz.info210
  have HK := hide hkeep
  have HS := hide hS
  have HST := hide hstep
  have H0 := hide h0
  clear hkeep hS hstep h0
  go_enter Tryz.func163, Tryz.ntmps163
  go_wp2
  go_loopw [5, 7] (fun v i wr => ∃ (k : Nat) (l : List (Int × Int)), k ≤ many ∧ i = .int .i64 k ∧ l.length = k ∧ I k l wr ∧ w.heap.size ≤ wr.heap.size ∧ wr.ownsRow w.heap.size 210 2 v l.length (insCells l)) (fun _ i _ => many - (intOf i).toNat)
  case atStart => exact ⟨0, [], by omega, rfl, rfl, H0.out, Nat.le_refl _, World.ownsRow_nil _ _ _ _⟩
  case round =>
    obtain ⟨k, l, hk, rfl, hl, hI, hsz, hV⟩ := hrel
    by_cases hlt : k < many
    · have HB := hide (HST.out k l wr hlt hI)
      have HV := hide hV
      have HLL := hide hl
      clear hI hV hl H0
      go_wp2_with fail
      refine HB.out.mono ?_
      rintro e wB ⟨a, b, rfl, hIB, htB⟩
      have hsB := htB.size
      have HVB : Hid (wB.ownsRow w.heap.size 210 2 u5 l.length (insCells l)) := own_keep HV.out (fun b e => htB.block b (World.ownsRow.lt HV.out b e).2 (fun hs => by have := (World.ownsRow.lt HV.out b e).1; have := HS.out b hs; omega))
      have HIB := hide hIB
      clear hIB htB HB
      go_wp2_with (at_builtin; go_must (refine wpList_append_lies _ rfl (.tmp 9) (.tmp 12) 162 rfl w.heap.size 210 i0 _ 2 16 Tryz.underlying162 hi hz0 hz1 hz2 rfl (by decide) u5 l.length (insCells l) rfl (HVB.out.alloc _) ⟨wB.heap.size, 0, none⟩ 1 1 #[.int .i64 a, .int .i64 b].toList (by rfl) rfl (news_at wB #[.int .i64 a, .int .i64 b] 210) (by intro u hu; simp at hu; rcases hu with rfl | rfl <;> rfl) (by omega) (by have := HLL.out; unfold maxLen; omega) (by have := HLL.out; omega) (by simp; omega) _ rfl ?_))
      intro g c5 w5 hown5 hgrow5 _ _
      have hg5 := grown_alloc hgrow5
      have hs5 := hg5.size
      have t5 : Touch (fun b => w.heap.size ≤ b ∧ OfType wB b (· = 210)) wB w5 := Touch.ofGrown hg5 (fun b e => .inl ⟨(World.ownsRow.lt HVB.out b e).1, by obtain ⟨cur, hc⟩ := own_of HVB.out e; exact ⟨cur, 210, rfl, hc⟩⟩)
      have H5 := hide (And.intro (HK.out _ _ _ _ HIB.out t5) hown5)
      clear hown5 hgrow5 hg5 t5
      go_wp2
      go_roundw
      case rel =>
        refine ⟨k + 1, l ++ [(a, b)], by omega, by go_num, by rw [List.length_append, HLL.out]; rfl, H5.out.1, by omega, ?_⟩
        rw [insCells_snoc, List.length_append]
        exact H5.out.2
      case measure => simp [intOf]; omega
    · obtain rfl : k = many := by omega
      have HF := hide (And.intro hI (And.intro hl hV))
      clear hI hl hV H0 HST HK
      go_wp2
      go_ret
      exact ⟨u5, l, rfl, HF.out⟩

set_option maxRecDepth 100000 in
set_option maxHeartbeats 2000000 in
theorem list_proc (rb : Nat) (many : Nat) (hm : many ≤ 255) (S : Nat → Prop) (w : World) (hS : ∀ b, S b → b < w.heap.size) (I : Nat → List (Pr × Value) → World → Prop)
    (hkeep : ∀ j l wr w', I j l wr → Touch (fun b => w.heap.size ≤ b ∧ OfType wr b (· = 190)) wr w' → I j l w')
    (hstep : ∀ j l wr, j < many → I j l wr → Calls Tryz.prog 120 #[.pointer (some ⟨rb, 0, none⟩)] wr fun e w' => ∃ (p : Pr) (ad : Option Addr) (m c : Nat), e = .returned (.agg #[.int .i64 p.prio, .slice ad m c]) ∧ I (j + 1) (l ++ [(p, .slice ad m c)]) w' ∧ Touch S wr w')
    (h0 : I 0 [] w) : Calls Tryz.prog 119 #[.int .i64 many, .func (.func 120) #[.pointer (some ⟨rb, 0, none⟩)] #[]] w fun e w' => ∃ v l, e = .returned v ∧ I many l w' ∧ l.length = many ∧ w'.ownsRow w.heap.size 190 2 v l.length (procCells l) := by
  obtain ⟨i0, hi, hz0, hz1, hz2⟩ := info_parts Tryz.info190
  have HK := hide hkeep
  have HS := hide hS
  have HST := hide hstep
  have H0 := hide h0
  clear hkeep hS hstep h0
  go_enter Tryz.func119, Tryz.ntmps119
  go_wp2
  go_loopw [5, 7] (fun v i wr => ∃ (k : Nat) (l : List (Pr × Value)), k ≤ many ∧ i = .int .i64 k ∧ l.length = k ∧ I k l wr ∧ w.heap.size ≤ wr.heap.size ∧ wr.ownsRow w.heap.size 190 2 v l.length (procCells l)) (fun _ i _ => many - (intOf i).toNat)
  case atStart => exact ⟨0, [], by omega, rfl, rfl, H0.out, Nat.le_refl _, World.ownsRow_nil _ _ _ _⟩
  case round =>
    obtain ⟨k, l, hk, rfl, hl, hI, hsz, hV⟩ := hrel
    by_cases hlt : k < many
    · have HB := hide (HST.out k l wr hlt hI)
      have HV := hide hV
      have HLL := hide hl
      clear hI hV hl H0
      go_wp2_with fail
      refine HB.out.mono ?_
      rintro e wB ⟨p, ad, m, c, rfl, hIB, htB⟩
      have hsB := htB.size
      have HVB : Hid (wB.ownsRow w.heap.size 190 2 u5 l.length (procCells l)) := own_keep HV.out (fun b e => htB.block b (World.ownsRow.lt HV.out b e).2 (fun hs => by have := (World.ownsRow.lt HV.out b e).1; have := HS.out b hs; omega))
      have HIB := hide hIB
      clear hIB htB HB
      go_wp2_with (at_builtin; go_must (refine wpList_append_lies _ rfl (.tmp 9) (.tmp 12) 122 rfl w.heap.size 190 i0 _ 2 32 Tryz.underlying122 hi hz0 hz1 hz2 rfl (by decide) u5 l.length (procCells l) rfl (HVB.out.alloc _) ⟨wB.heap.size, 0, none⟩ 1 1 #[.int .i64 p.prio, .slice ad m c].toList (by rfl) rfl (news_at wB #[.int .i64 p.prio, .slice ad m c] 190) (by intro u hu; simp at hu; rcases hu with rfl | rfl <;> rfl) (by omega) (by have := HLL.out; unfold maxLen; omega) (by have := HLL.out; omega) (by simp; omega) _ rfl ?_))
      intro g c5 w5 hown5 hgrow5 _ _
      have hg5 := grown_alloc hgrow5
      have hs5 := hg5.size
      have t5 : Touch (fun b => w.heap.size ≤ b ∧ OfType wB b (· = 190)) wB w5 := Touch.ofGrown hg5 (fun b e => .inl ⟨(World.ownsRow.lt HVB.out b e).1, by obtain ⟨cur, hc⟩ := own_of HVB.out e; exact ⟨cur, 190, rfl, hc⟩⟩)
      have H5 := hide (And.intro (HK.out _ _ _ _ HIB.out t5) hown5)
      clear hown5 hgrow5 hg5 t5
      go_wp2
      go_roundw
      case rel =>
        refine ⟨k + 1, l ++ [(p, .slice ad m c)], by omega, by go_num, by rw [List.length_append, HLL.out]; rfl, H5.out.1, by omega, ?_⟩
        rw [procCells_snoc, List.length_append]
        exact H5.out.2
      case measure => simp [intOf]; omega
    · obtain rfl : k = many := by omega
      have HF := hide (And.intro hI (And.intro hl hV))
      clear hI hl hV H0 HST HK
      go_wp2
      go_ret
      exact ⟨u5, l, rfl, HF.out⟩

set_option maxRecDepth 100000 in
set_option maxHeartbeats 2000000 in
theorem list_part (rb : Nat) (many : Nat) (hm : many ≤ 255) (S : Nat → Prop) (w : World) (hS : ∀ b, S b → b < w.heap.size) (I : Nat → List (Pt × Value) → World → Prop)
    (hkeep : ∀ j l wr w', I j l wr → Touch (fun b => w.heap.size ≤ b ∧ OfType wr b (· = 124)) wr w' → I j l w')
    (hstep : ∀ j l wr, j < many → I j l wr → Calls Tryz.prog 82 #[.pointer (some ⟨rb, 0, none⟩)] wr fun e w' => ∃ (p : Pt) (ad : Option Addr) (m c : Nat), e = .returned (.agg #[.bool p.sys, .int .i64 p.words, .int .i64 p.limit, .int .i64 (p.acts.getD 0 0), .int .i64 (p.acts.getD 1 0), .int .i64 (p.acts.getD 2 0), .int .i64 (p.acts.getD 3 0), .int .i64 (p.acts.getD 4 0), .int .i64 (p.acts.getD 5 0), .slice ad m c]) ∧ I (j + 1) (l ++ [(p, .slice ad m c)]) w' ∧ Touch S wr w')
    (h0 : I 0 [] w) : Calls Tryz.prog 81 #[.int .i64 many, .func (.func 82) #[.pointer (some ⟨rb, 0, none⟩)] #[]] w fun e w' => ∃ v l, e = .returned v ∧ I many l w' ∧ l.length = many ∧ w'.ownsRow w.heap.size 124 10 v l.length (ptsCells l) := by
  obtain ⟨i0, hi, hz0, hz1, hz2⟩ := info_parts Tryz.info124
  have HK := hide hkeep
  have HS := hide hS
  have HST := hide hstep
  have H0 := hide h0
  clear hkeep hS hstep h0
  go_enter Tryz.func81, Tryz.ntmps81
  go_wp2
  go_loopw [5, 7] (fun v i wr => ∃ (k : Nat) (l : List (Pt × Value)), k ≤ many ∧ i = .int .i64 k ∧ l.length = k ∧ I k l wr ∧ w.heap.size ≤ wr.heap.size ∧ wr.ownsRow w.heap.size 124 10 v l.length (ptsCells l)) (fun _ i _ => many - (intOf i).toNat)
  case atStart => exact ⟨0, [], by omega, rfl, rfl, H0.out, Nat.le_refl _, World.ownsRow_nil _ _ _ _⟩
  case round =>
    obtain ⟨k, l, hk, rfl, hl, hI, hsz, hV⟩ := hrel
    by_cases hlt : k < many
    · have HB := hide (HST.out k l wr hlt hI)
      have HV := hide hV
      have HLL := hide hl
      clear hI hV hl H0
      go_wp2_with fail
      refine HB.out.mono ?_
      rintro e wB ⟨p, ad, m, c, rfl, hIB, htB⟩
      have hsB := htB.size
      have HVB : Hid (wB.ownsRow w.heap.size 124 10 u5 l.length (ptsCells l)) := own_keep HV.out (fun b e => htB.block b (World.ownsRow.lt HV.out b e).2 (fun hs => by have := (World.ownsRow.lt HV.out b e).1; have := HS.out b hs; omega))
      have HIB := hide hIB
      clear hIB htB HB
      go_wp2_with (at_builtin; go_must (refine wpList_append_lies _ rfl (.tmp 9) (.tmp 12) 67 rfl w.heap.size 124 i0 _ 10 96 Tryz.underlying67 hi hz0 hz1 hz2 rfl (by decide) u5 l.length (ptsCells l) rfl (HVB.out.alloc _) ⟨wB.heap.size, 0, none⟩ 1 1 #[.bool p.sys, .int .i64 p.words, .int .i64 p.limit, .int .i64 (p.acts.getD 0 0), .int .i64 (p.acts.getD 1 0), .int .i64 (p.acts.getD 2 0), .int .i64 (p.acts.getD 3 0), .int .i64 (p.acts.getD 4 0), .int .i64 (p.acts.getD 5 0), .slice ad m c].toList (by rfl) rfl (news_at wB #[.bool p.sys, .int .i64 p.words, .int .i64 p.limit, .int .i64 (p.acts.getD 0 0), .int .i64 (p.acts.getD 1 0), .int .i64 (p.acts.getD 2 0), .int .i64 (p.acts.getD 3 0), .int .i64 (p.acts.getD 4 0), .int .i64 (p.acts.getD 5 0), .slice ad m c] 124) (by intro u hu; simp at hu; rcases hu with rfl | rfl | rfl | rfl | rfl | rfl | rfl | rfl | rfl | rfl <;> rfl) (by omega) (by have := HLL.out; unfold maxLen; omega) (by have := HLL.out; omega) (by simp; omega) _ rfl ?_))
      intro g c5 w5 hown5 hgrow5 _ _
      have hg5 := grown_alloc hgrow5
      have hs5 := hg5.size
      have t5 : Touch (fun b => w.heap.size ≤ b ∧ OfType wB b (· = 124)) wB w5 := Touch.ofGrown hg5 (fun b e => .inl ⟨(World.ownsRow.lt HVB.out b e).1, by obtain ⟨cur, hc⟩ := own_of HVB.out e; exact ⟨cur, 124, rfl, hc⟩⟩)
      have H5 := hide (And.intro (HK.out _ _ _ _ HIB.out t5) hown5)
      clear hown5 hgrow5 hg5 t5
      go_wp2
      go_roundw
      case rel =>
        refine ⟨k + 1, l ++ [(p, .slice ad m c)], by omega, by go_num, by rw [List.length_append, HLL.out]; rfl, H5.out.1, by omega, ?_⟩
        rw [ptsCells_snoc, List.length_append]
        exact H5.out.2
      case measure => simp [intOf]; omega
    · obtain rfl : k = many := by omega
      have HF := hide (And.intro hI (And.intro hl hV))
      clear hI hl hV H0 HST HK
      go_wp2
      go_ret
      exact ⟨u5, l, rfl, HF.out⟩

set_option maxRecDepth 100000 in
set_option maxHeartbeats 2000000 in
theorem list_win (p1 p2 p3 p4 : Nat) (many : Nat) (hm : many ≤ 255) (S : Nat → Prop) (w : World) (hS : ∀ b, S b → b < w.heap.size) (I : Nat → List (Wn) → World → Prop)
    (hkeep : ∀ j l wr w', I j l wr → Touch (fun b => w.heap.size ≤ b ∧ OfType wr b (· = 131)) wr w' → I j l w')
    (hstep : ∀ j l wr, j < many → I j l wr → Calls Tryz.prog 122 #[.pointer (some ⟨p1, 0, none⟩), .pointer (some ⟨p2, 0, none⟩), .pointer (some ⟨p3, 0, none⟩), .pointer (some ⟨p4, 0, none⟩)] wr fun e w' => ∃ (p : Wn), e = .returned (.agg #[.int .i64 p.part, .int .i64 p.first, .int .i64 p.many]) ∧ I (j + 1) (l ++ [p]) w' ∧ Touch S wr w')
    (h0 : I 0 [] w) : Calls Tryz.prog 121 #[.int .i64 many, .func (.func 122) #[] #[.pointer (some ⟨p1, 0, none⟩), .pointer (some ⟨p2, 0, none⟩), .pointer (some ⟨p3, 0, none⟩), .pointer (some ⟨p4, 0, none⟩)]] w fun e w' => ∃ v l, e = .returned v ∧ I many l w' ∧ l.length = many ∧ w'.ownsRow w.heap.size 131 3 v l.length (winCells l) := by
  obtain ⟨i0, hi, hz0, hz1, hz2⟩ := info_parts Tryz.info131
  have HK := hide hkeep
  have HS := hide hS
  have HST := hide hstep
  have H0 := hide h0
  clear hkeep hS hstep h0
  go_enter Tryz.func121, Tryz.ntmps121
  go_wp2
  go_loopw [5, 7] (fun v i wr => ∃ (k : Nat) (l : List (Wn)), k ≤ many ∧ i = .int .i64 k ∧ l.length = k ∧ I k l wr ∧ w.heap.size ≤ wr.heap.size ∧ wr.ownsRow w.heap.size 131 3 v l.length (winCells l)) (fun _ i _ => many - (intOf i).toNat)
  case atStart => exact ⟨0, [], by omega, rfl, rfl, H0.out, Nat.le_refl _, World.ownsRow_nil _ _ _ _⟩
  case round =>
    obtain ⟨k, l, hk, rfl, hl, hI, hsz, hV⟩ := hrel
    by_cases hlt : k < many
    · have HB := hide (HST.out k l wr hlt hI)
      have HV := hide hV
      have HLL := hide hl
      clear hI hV hl H0
      go_wp2_with fail
      refine HB.out.mono ?_
      rintro e wB ⟨p, rfl, hIB, htB⟩
      have hsB := htB.size
      have HVB : Hid (wB.ownsRow w.heap.size 131 3 u5 l.length (winCells l)) := own_keep HV.out (fun b e => htB.block b (World.ownsRow.lt HV.out b e).2 (fun hs => by have := (World.ownsRow.lt HV.out b e).1; have := HS.out b hs; omega))
      have HIB := hide hIB
      clear hIB htB HB
      go_wp2_with (at_builtin; go_must (refine wpList_append_lies _ rfl (.tmp 9) (.tmp 12) 68 rfl w.heap.size 131 i0 _ 3 24 Tryz.underlying68 hi hz0 hz1 hz2 rfl (by decide) u5 l.length (winCells l) rfl (HVB.out.alloc _) ⟨wB.heap.size, 0, none⟩ 1 1 #[.int .i64 p.part, .int .i64 p.first, .int .i64 p.many].toList (by rfl) rfl (news_at wB #[.int .i64 p.part, .int .i64 p.first, .int .i64 p.many] 131) (by intro u hu; simp at hu; rcases hu with rfl | rfl | rfl <;> rfl) (by omega) (by have := HLL.out; unfold maxLen; omega) (by have := HLL.out; omega) (by simp; omega) _ rfl ?_))
      intro g c5 w5 hown5 hgrow5 _ _
      have hg5 := grown_alloc hgrow5
      have hs5 := hg5.size
      have t5 : Touch (fun b => w.heap.size ≤ b ∧ OfType wB b (· = 131)) wB w5 := Touch.ofGrown hg5 (fun b e => .inl ⟨(World.ownsRow.lt HVB.out b e).1, by obtain ⟨cur, hc⟩ := own_of HVB.out e; exact ⟨cur, 131, rfl, hc⟩⟩)
      have H5 := hide (And.intro (HK.out _ _ _ _ HIB.out t5) hown5)
      clear hown5 hgrow5 hg5 t5
      go_wp2
      go_roundw
      case rel =>
        refine ⟨k + 1, l ++ [p], by omega, by go_num, by rw [List.length_append, HLL.out]; rfl, H5.out.1, by omega, ?_⟩
        rw [winCells_snoc, List.length_append]
        exact H5.out.2
      case measure => simp [intOf]; omega
    · obtain rfl : k = many := by omega
      have HF := hide (And.intro hI (And.intro hl hV))
      clear hI hl hV H0 HST HK
      go_wp2
      go_ret
      exact ⟨u5, l, rfl, HF.out⟩

set_option maxRecDepth 100000 in
set_option maxHeartbeats 2000000 in
theorem list_chan (p1 p2 : Nat) (many : Nat) (hm : many ≤ 255) (S : Nat → Prop) (w : World) (hS : ∀ b, S b → b < w.heap.size) (I : Nat → List (Ch) → World → Prop)
    (hkeep : ∀ j l wr w', I j l wr → Touch (fun b => w.heap.size ≤ b ∧ OfType wr b (· = 142)) wr w' → I j l w')
    (hstep : ∀ j l wr, j < many → I j l wr → Calls Tryz.prog 85 #[.pointer (some ⟨p1, 0, none⟩), .pointer (some ⟨p2, 0, none⟩)] wr fun e w' => ∃ (p : Ch), e = .returned (.agg #[.int .i64 p.src, .int .i64 p.dst, .int .i64 p.depth]) ∧ I (j + 1) (l ++ [p]) w' ∧ Touch S wr w')
    (h0 : I 0 [] w) : Calls Tryz.prog 84 #[.int .i64 many, .func (.func 85) #[] #[.pointer (some ⟨p1, 0, none⟩), .pointer (some ⟨p2, 0, none⟩)]] w fun e w' => ∃ v l, e = .returned v ∧ I many l w' ∧ l.length = many ∧ w'.ownsRow w.heap.size 142 3 v l.length (chanCells l) := by
  obtain ⟨i0, hi, hz0, hz1, hz2⟩ := info_parts Tryz.info142
  have HK := hide hkeep
  have HS := hide hS
  have HST := hide hstep
  have H0 := hide h0
  clear hkeep hS hstep h0
  go_enter Tryz.func84, Tryz.ntmps84
  go_wp2
  go_loopw [5, 7] (fun v i wr => ∃ (k : Nat) (l : List (Ch)), k ≤ many ∧ i = .int .i64 k ∧ l.length = k ∧ I k l wr ∧ w.heap.size ≤ wr.heap.size ∧ wr.ownsRow w.heap.size 142 3 v l.length (chanCells l)) (fun _ i _ => many - (intOf i).toNat)
  case atStart => exact ⟨0, [], by omega, rfl, rfl, H0.out, Nat.le_refl _, World.ownsRow_nil _ _ _ _⟩
  case round =>
    obtain ⟨k, l, hk, rfl, hl, hI, hsz, hV⟩ := hrel
    by_cases hlt : k < many
    · have HB := hide (HST.out k l wr hlt hI)
      have HV := hide hV
      have HLL := hide hl
      clear hI hV hl H0
      go_wp2_with fail
      refine HB.out.mono ?_
      rintro e wB ⟨p, rfl, hIB, htB⟩
      have hsB := htB.size
      have HVB : Hid (wB.ownsRow w.heap.size 142 3 u5 l.length (chanCells l)) := own_keep HV.out (fun b e => htB.block b (World.ownsRow.lt HV.out b e).2 (fun hs => by have := (World.ownsRow.lt HV.out b e).1; have := HS.out b hs; omega))
      have HIB := hide hIB
      clear hIB htB HB
      go_wp2_with (at_builtin; go_must (refine wpList_append_lies _ rfl (.tmp 9) (.tmp 12) 69 rfl w.heap.size 142 i0 _ 3 24 Tryz.underlying69 hi hz0 hz1 hz2 rfl (by decide) u5 l.length (chanCells l) rfl (HVB.out.alloc _) ⟨wB.heap.size, 0, none⟩ 1 1 #[.int .i64 p.src, .int .i64 p.dst, .int .i64 p.depth].toList (by rfl) rfl (news_at wB #[.int .i64 p.src, .int .i64 p.dst, .int .i64 p.depth] 142) (by intro u hu; simp at hu; rcases hu with rfl | rfl | rfl <;> rfl) (by omega) (by have := HLL.out; unfold maxLen; omega) (by have := HLL.out; omega) (by simp; omega) _ rfl ?_))
      intro g c5 w5 hown5 hgrow5 _ _
      have hg5 := grown_alloc hgrow5
      have hs5 := hg5.size
      have t5 : Touch (fun b => w.heap.size ≤ b ∧ OfType wB b (· = 142)) wB w5 := Touch.ofGrown hg5 (fun b e => .inl ⟨(World.ownsRow.lt HVB.out b e).1, by obtain ⟨cur, hc⟩ := own_of HVB.out e; exact ⟨cur, 142, rfl, hc⟩⟩)
      have H5 := hide (And.intro (HK.out _ _ _ _ HIB.out t5) hown5)
      clear hown5 hgrow5 hg5 t5
      go_wp2
      go_roundw
      case rel =>
        refine ⟨k + 1, l ++ [p], by omega, by go_num, by rw [List.length_append, HLL.out]; rfl, H5.out.1, by omega, ?_⟩
        rw [chanCells_snoc, List.length_append]
        exact H5.out.2
      case measure => simp [intOf]; omega
    · obtain rfl : k = many := by omega
      have HF := hide (And.intro hI (And.intro hl hV))
      clear hI hl hV H0 HST HK
      go_wp2
      go_ret
      exact ⟨u5, l, rfl, HF.out⟩
end Go.Proofs.YtnjlbgolnbdkaaaGreat
/- Texts of the proof of Boots, one behind the other. -/
namespace Go.Proofs.YtnjlbgolnbdkaaaGreat
open Go.RowKit

def pgTo {α σ : Type} (f : σ → α × σ) : Nat → σ → List α × σ
  | 0, s => ([], s)
  | k + 1, s => ((pgTo f k s).1 ++ [(f (pgTo f k s).2).1], (f (pgTo f k s).2).2)
def pgIns (zs : List Int) (n : Int) (s : Rs) : (Int × Int) × Rs :=
  let a := pgB zs 0 13 [] s
  let b := pgB zs 0 (if a.1 = 4 then n - 1 else 255) [] a.2
  ((a.1, b.1), b.2)
def pgProc (zs : List Int) (s : Rs) : Pr × Rs :=
  let a := pgB zs 0 9 [] s
  let m := pgB zs 1 20 [] a.2
  let c := pgTo (pgIns zs m.1) m.1.toNat m.2
  (⟨a.1, c.1⟩, c.2)
def pgAct (zs : List Int) (c : Nat) (s : Rs) : Int × Rs := if c = 5 then pgB zs 1 7 [2, 3] s else pgB zs 1 7 [] s

theorem touch_alloc {S : Nat → Prop} (w : World) (o : Obj) : Touch S w (w.alloc o) := Touch.ofBelow ((Below.refl _ _).alloc (Nat.le_refl _) _)
theorem Touch.andThen {S : Nat → Prop} {a b c : World} (h : Touch S a b) (k : Touch S b c) : Touch S a c := Touch.trans (T := S) h k (fun _ h => .inl h)
theorem Touch.andNew {S : Nat → Prop} {a b c : World} (h : Touch S a b) (k : Touch (fun i => a.heap.size ≤ i) b c) : Touch S a c := Touch.trans (T := fun i => a.heap.size ≤ i) h k (fun _ h => .inr h)
section
variable {rb : Nat} {ao : Option Addr} {n cap : Nat} {zs : List Int} {s : Rs} {w w' : World}
theorem PgAt.alloc (h : PgAt rb ao n cap zs s w) (o : Obj) : PgAt rb ao n cap zs s (w.alloc o) := h.keep (S := fun _ => False) (touch_alloc w o) (fun h => h) (fun _ _ _ h => h)
theorem PgAt.new (h : PgAt rb ao n cap zs s w) {B : Nat} (hB : rb < B) (hz : ∀ ad, ao = some ad → 0 < n → ad.block < B) (t : Touch (fun i => B ≤ i) w w') : PgAt rb ao n cap zs s w' := h.keep t (by omega) (fun ad e hn hs => by have := hz ad e hn; omega)
end

theorem pgnum0 (rb : Nat) (ao : Option Addr) (n cap : Nat) (zs : List Int) (s : Rs) (lo hi : Int) (w : World) (h : PgAt rb ao n cap zs s w) :
    Calls Tryz.prog 80 #[.pointer (some ⟨rb, 0, none⟩), .int .i64 lo, .int .i64 hi, .slice none 0 0] w fun e w' => e = .returned (.int .i64 (pgB zs lo hi [] s).1) ∧ PgAt rb ao n cap zs (pgB zs lo hi [] s).2 w' ∧ Touch (· = rb) w w' :=
  pgnumber_any rb ao n cap zs s lo hi none 0 [] w h (ints_none w) (by simp)

set_option maxRecDepth 100000 in
set_option maxHeartbeats 2000000 in
theorem pgaction_any (rb : Nat) (ao : Option Addr) (n cap : Nat) (zs : List Int) (s : Rs) (c : Nat) (w : World) (h : PgAt rb ao n cap zs s w) (hc : c < 6) :
    Calls Tryz.prog 118 #[.pointer (some ⟨rb, 0, none⟩), .int .i64 c] w fun e w' => e = .returned (.int .i64 (pgAct zs c s).1) ∧ PgAt rb ao n cap zs (pgAct zs c s).2 w' ∧ Touch (· = rb) w w' := by
  by_cases h5 : c = 5
  · subst h5
    have HB := hide (pgnumber_any rb ao n cap zs s 1 7 (some ⟨w.heap.size, 0, none⟩) 2 [2, 3] _ (h.alloc (.cells #[.int .i64 2, .int .i64 3] 3)) (fun i hi => ⟨w.heap.size, 0, rfl, by
      rcases (show i = 0 ∨ i = 1 from by simp at hi; omega) with rfl | rfl <;> simp⟩) (by simp))
    have HA : Hid (pgAct zs 5 s = pgB zs 1 7 [2, 3] s) := rfl
    clear h hc
    go_enter Tryz.func118, Tryz.ntmps118
    go_wp2_with fail
    refine HB.out.mono ?_
    rintro e w1 ⟨rfl, hp, ht⟩
    have H := hide (And.intro hp ht)
    clear hp ht
    go_wp2
    go_ret
    rw [HA.out]
    exact ⟨rfl, H.out.1, (touch_alloc w _).andThen H.out.2⟩
  · have hb : ((c : Int) == 5) = false := by simp; omega
    have HB := hide (pgnum0 rb ao n cap zs s 1 7 w h)
    have HA : Hid (pgAct zs c s = pgB zs 1 7 [] s) := by show _ = _; unfold pgAct; rw [if_neg h5]
    clear h hc h5
    go_enter Tryz.func118, Tryz.ntmps118
    go_wp2_with fail
    refine HB.out.mono ?_
    rintro e w1 ⟨rfl, hp, ht⟩
    have H := hide (And.intro hp ht)
    clear hp ht
    go_wp2
    go_ret
    rw [HA.out]
    exact ⟨rfl, H.out⟩

set_option maxRecDepth 100000 in
set_option maxHeartbeats 2000000 in
theorem pginstr_any (rb : Nat) (ao : Option Addr) (n cap : Nat) (zs : List Int) (s : Rs) (N : Int) (w : World) (h : PgAt rb ao n cap zs s w) (hN : 0 ≤ N ∧ N ≤ 255) :
    Calls Tryz.prog 165 #[.pointer (some ⟨rb, 0, none⟩), .int .i64 N] w fun e w' => e = .returned (.agg #[.int .i64 (pgIns zs N s).1.1, .int .i64 (pgIns zs N s).1.2]) ∧ PgAt rb ao n cap zs (pgIns zs N s).2 w' ∧ Touch (· = rb) w w' := by
  have hrb := lt_of_block h.obj
  have HLT := hide h.held.lt
  have HIN : Hid (pgIns zs N s = (((pgB zs 0 13 [] s).1, (pgB zs 0 (if (pgB zs 0 13 [] s).1 = 4 then N - 1 else 255) [] (pgB zs 0 13 [] s).2).1), (pgB zs 0 (if (pgB zs 0 13 [] s).1 = 4 then N - 1 else 255) [] (pgB zs 0 13 [] s).2).2)) := rfl
  have HB := hide (pgnum0 rb ao n cap zs s 0 13 _ (h.alloc (.cells #[.int .i64 0, .int .i64 0] 210)))
  have hopb := pgB_small zs 0 13 [] s h.held.bytes
  have HBY := hide h.held.bytes
  clear h
  generalize (pgB zs 0 13 [] s).1 = op at HIN HB hopb
  generalize (pgB zs 0 13 [] s).2 = s1 at HIN HB
  go_enter Tryz.func165, Tryz.ntmps165
  go_wp2_with fail
  refine HB.out.mono ?_
  rintro e w1 ⟨rfl, hp, ht⟩
  have hs1 := ht.size
  simp at hs1
  have hB1 : w1.heap[w.heap.size]? = some (.cells #[.int .i64 0, .int .i64 0] 210 (0, 0)) := (ht.block _ (by simp) (by omega)).trans (heap_alloc_new w _)
  have HT1 : Hid (Touch (· = rb) w w1) := (touch_alloc w _).andThen ht
  obtain ⟨hiv, hhi⟩ : ∃ hiv, hiv = (if op = 4 then N - 1 else 255) := ⟨_, rfl⟩
  rw [← hhi] at HIN
  have HB2 := hide (pgnum0 rb ao n cap zs s1 0 hiv w1 hp)
  have harb := pgB_small zs 0 hiv [] s1 HBY.out
  generalize (pgB zs 0 hiv [] s1).1 = arg at HIN HB2 harb
  generalize (pgB zs 0 hiv [] s1).2 = s2 at HIN HB2
  have HB1 := hide hB1
  have hb4 : ((op == 4) = true ∧ hiv = N - 1) ∨ ((op == 4) = false ∧ hiv = 255) := by
    by_cases h4 : op = 4
    · exact .inl ⟨by simp [h4], by rw [hhi, if_pos h4]⟩
    · exact .inr ⟨by simpa using h4, by rw [hhi, if_neg h4]⟩
  clear hhi hp ht hB1 HB
  rcases hb4 with ⟨b4, hh⟩ | ⟨b4, hh⟩
  all_goals
    rw [hh] at HB2
    clear hh
    go_wp2_with fail
    refine HB2.out.mono ?_
    rintro e w2 ⟨rfl, hp2, ht2⟩
    have hs2 := ht2.size
    have hB2 : w2.heap[w.heap.size]? = some (.cells #[.int .i64 0, .int .i64 0] 210 (0, 0)) := (ht2.block _ (by omega) (by omega)).trans HB1.out
    have q0 : w2.cell? ⟨w.heap.size, 0, none⟩ = some (.int .i64 0) := by rw [cell_of_row _ _ _ _ _ _ hB2]; rfl
    have q1 : w2.cell? ⟨w.heap.size, 1, none⟩ = some (.int .i64 0) := by rw [cell_of_row _ _ _ _ _ _ hB2]; rfl
    have g0 := free_of_block hB2 0
    have g1 := free_of_block hB2 1
    have H := hide (And.intro hp2 (HT1.out.andThen ht2))
    clear hp2 ht2 hB2 HB2
    go_wp2
    refine bodyPost_ret (v := .agg #[.int .i64 op, .int .i64 arg]) (by simp [results, Tryz.results165, go_sem, q0, q1]) rfl ?_
    have tS : Touch (fun i => w.heap.size ≤ i) w2 ((w2.setCell ⟨w.heap.size, 0, none⟩ (.int .i64 op)).setCell ⟨w.heap.size, 1, none⟩ (.int .i64 arg)) := Touch.andThen (Touch.ofSet w2 _ 0 _ (Nat.le_refl _)) (Touch.ofSet _ _ 1 _ (Nat.le_refl _))
    rw [HIN.out]
    exact ⟨rfl, H.out.1.new hrb HLT.out tS, H.out.2.andNew tS⟩

set_option maxRecDepth 100000 in
set_option maxHeartbeats 2000000 in
theorem pginstr_lit (p1 p2 : Nat) (rb : Nat) (ao : Option Addr) (n cap : Nat) (zs : List Int) (s : Rs) (N : Int) (w : World) (h : PgAt rb ao n cap zs s w) (hN : 0 ≤ N ∧ N ≤ 255) (h1 : w.heap[p1]? = some (.cells #[.pointer (some ⟨rb, 0, none⟩)] 102 (0, 0))) (h2 : w.heap[p2]? = some (.cells #[.int .i64 N] 3 (0, 0))) :
    Calls Tryz.prog 164 #[.pointer (some ⟨p1, 0, none⟩), .pointer (some ⟨p2, 0, none⟩)] w fun e w' => e = .returned (.agg #[.int .i64 (pgIns zs N s).1.1, .int .i64 (pgIns zs N s).1.2]) ∧ PgAt rb ao n cap zs (pgIns zs N s).2 w' ∧ Touch (· = rb) w w' := by
  have hrb := lt_of_block h.obj
  have HLT := hide h.held.lt
  have hl1 := lt_of_block h1
  have hl2 := lt_of_block h2
  have c1 : w.cell? ⟨p1, 0, none⟩ = some (.pointer (some ⟨rb, 0, none⟩)) := by rw [cell_of_row _ _ _ _ _ _ h1]; rfl
  have c2 : w.cell? ⟨p2, 0, none⟩ = some (.int .i64 N) := by rw [cell_of_row _ _ _ _ _ _ h2]; rfl
  have HB := hide (pginstr_any rb ao n cap zs s N _ (h.alloc (.cells #[.int .i64 0, .int .i64 0] 210)) hN)
  clear h h1 h2 hN
  generalize pgIns zs N s = q at HB ⊢
  go_enter Tryz.func164, Tryz.ntmps164
  go_wp2_with fail
  refine HB.out.mono ?_
  rintro e w1 ⟨rfl, hp, ht⟩
  have hs1 := ht.size
  simp at hs1
  have hB1 : w1.heap[w.heap.size]? = some (.cells #[.int .i64 0, .int .i64 0] 210 (0, 0)) := (ht.block _ (by simp) (by omega)).trans (heap_alloc_new w _)
  have q0 : w1.cell? ⟨w.heap.size, 0, none⟩ = some (.int .i64 0) := by rw [cell_of_row _ _ _ _ _ _ hB1]; rfl
  have q1 : w1.cell? ⟨w.heap.size, 1, none⟩ = some (.int .i64 0) := by rw [cell_of_row _ _ _ _ _ _ hB1]; rfl
  have g0 := free_of_block hB1 0
  have g1 := free_of_block hB1 1
  have H := hide (And.intro hp ((touch_alloc w _).andThen ht))
  clear hp ht hB1 HB
  go_wp2
  refine bodyPost_ret (v := .agg #[.int .i64 q.1.1, .int .i64 q.1.2]) (by simp [results, Tryz.results164, go_sem, q0, q1]) rfl ?_
  have tS : Touch (fun i => w.heap.size ≤ i) w1 ((w1.setCell ⟨w.heap.size, 0, none⟩ (.int .i64 q.1.1)).setCell ⟨w.heap.size, 1, none⟩ (.int .i64 q.1.2)) := Touch.andThen (Touch.ofSet w1 _ 0 _ (Nat.le_refl _)) (Touch.ofSet _ _ 1 _ (Nat.le_refl _))
  exact ⟨rfl, H.out.1.new hrb HLT.out tS, H.out.2.andNew tS⟩
end Go.Proofs.YtnjlbgolnbdkaaaGreat
namespace Go.Proofs.YtnjlbgolnbdkaaaGreat
open Go.RowKit

theorem new_two (w : World) (o1 o2 : Obj) : ((w.alloc o1).alloc o2).heap[w.heap.size + 1]? = some o2 := by
  have h := heap_alloc_new (w.alloc o1) o2
  rw [show (w.alloc o1).heap.size = w.heap.size + 1 from by simp] at h
  exact h
theorem new_three (w : World) (o1 o2 o3 : Obj) : (((w.alloc o1).alloc o2).alloc o3).heap[w.heap.size + 1 + 1]? = some o3 := by
  have h := heap_alloc_new ((w.alloc o1).alloc o2) o3
  rw [show ((w.alloc o1).alloc o2).heap.size = w.heap.size + 1 + 1 from by simp] at h
  exact h
set_option maxRecDepth 100000 in
set_option maxHeartbeats 4000000 in
theorem pgprocess_any (rb : Nat) (ao : Option Addr) (n cap : Nat) (zs : List Int) (s : Rs) (w : World) (h : PgAt rb ao n cap zs s w) :
    Calls Tryz.prog 120 #[.pointer (some ⟨rb, 0, none⟩)] w fun e w' => ∃ ad m c, e = .returned (.agg #[.int .i64 (pgProc zs s).1.prio, .slice ad m c]) ∧ CodeV w.heap.size (.slice ad m c) (pgProc zs s).1.code w' ∧ PgAt rb ao n cap zs (pgProc zs s).2 w' ∧ Touch (· = rb) w w' := by
  have hrb := lt_of_block h.obj
  have HLT : Hid (∀ ad, ao = some ad → 0 < n → ad.block < w.heap.size) := h.held.lt
  have HBY := hide h.held.bytes
  have HSP : Hid (pgProc zs s = (⟨(pgB zs 0 9 [] s).1, (pgTo (pgIns zs (pgB zs 1 20 [] (pgB zs 0 9 [] s).2).1) (pgB zs 1 20 [] (pgB zs 0 9 [] s).2).1.toNat (pgB zs 1 20 [] (pgB zs 0 9 [] s).2).2).1⟩, (pgTo (pgIns zs (pgB zs 1 20 [] (pgB zs 0 9 [] s).2).1) (pgB zs 1 20 [] (pgB zs 0 9 [] s).2).1.toNat (pgB zs 1 20 [] (pgB zs 0 9 [] s).2).2).2)) := rfl
  obtain ⟨w0, hw0⟩ : ∃ w0, w0 = (((w.alloc (.cells #[.pointer (some ⟨rb, 0, none⟩)] 102)).alloc (.cells #[.int .i64 0, .slice none 0 0] 190)).alloc (.cells #[.int .i64 0, .slice none 0 0] 190)) := ⟨_, rfl⟩
  have hs0 : w0.heap.size = w.heap.size + 3 := by rw [hw0]; simp
  have hA0 : w0.heap[w.heap.size]? = some (.cells #[.pointer (some ⟨rb, 0, none⟩)] 102 (0, 0)) := by rw [hw0]; exact (Below.heap_alloc _ _ _ (by simp; omega)).trans ((Below.heap_alloc _ _ _ (by simp)).trans (heap_alloc_new w _))
  have hB0 : w0.heap[w.heap.size + 1]? = some (.cells #[.int .i64 0, .slice none 0 0] 190 (0, 0)) := by rw [hw0]; exact (Below.heap_alloc _ _ _ (by simp)).trans (new_two w _ _)
  have hC0 : w0.heap[w.heap.size + 1 + 1]? = some (.cells #[.int .i64 0, .slice none 0 0] 190 (0, 0)) := by rw [hw0]; exact new_three w _ _ _
  have hT0 : Touch (· = rb) w w0 := by rw [hw0]; exact ((touch_alloc _ _).andThen (touch_alloc _ _)).andThen (touch_alloc _ _)
  have hP0 : PgAt rb ao n cap zs s w0 := by rw [hw0]; exact ((h.alloc _).alloc _).alloc _
  have HB := hide (pgnum0 rb ao n cap zs s 0 9 _ hP0)
  have HW := hide hw0
  have H0 := hide (And.intro hA0 (And.intro hB0 (And.intro hC0 hT0)))
  have hprb := pgB_small zs 0 9 [] s HBY.out
  generalize (pgB zs 0 9 [] s).1 = prio at HSP HB hprb
  generalize (pgB zs 0 9 [] s).2 = s1 at HSP HB
  clear h hA0 hB0 hC0 hT0 hP0 hw0
  have a0 : w0.cell? ⟨w.heap.size, 0, none⟩ = some (.pointer (some ⟨rb, 0, none⟩)) := by rw [cell_of_row _ _ _ _ _ _ H0.out.1]; rfl
  go_enter Tryz.func120, Tryz.ntmps120
  go_wp2_with fail
  rw [← HW.out]
  refine HB.out.mono ?_
  rintro e w1 ⟨rfl, hp, ht⟩
  obtain ⟨hA0, hB0, hC0, hT0⟩ := H0.out
  have hs1 := ht.size
  have hA1 := (ht.block _ (by omega) (by omega)).trans hA0
  have hB1 := (ht.block _ (by omega) (by omega)).trans hB0
  have hC1 := (ht.block _ (by omega) (by omega)).trans hC0
  have hT1 := hT0.andThen ht
  obtain ⟨w2, hw2⟩ : ∃ w2, w2 = w1.setCell ⟨w.heap.size + 1 + 1, 0, none⟩ (.int .i64 prio) := ⟨_, rfl⟩
  have tS : Touch (fun i => i = w.heap.size + 1 + 1) w1 w2 := by rw [hw2]; exact Touch.ofSet w1 _ 0 _ rfl
  have hs2 : w2.heap.size = w1.heap.size := by rw [hw2]; simp
  have hA2 := (tS.block _ (by omega) (by omega)).trans hA1
  have hB2 := (tS.block _ (by omega) (by omega)).trans hB1
  have hC2 : w2.heap[w.heap.size + 1 + 1]? = some (.cells #[.int .i64 prio, .slice none 0 0] 190 (0, 0)) := by rw [hw2]; exact block_set hC1 0 _
  have hT2 : Touch (· = rb) w w2 := hT1.andNew (tS.mono (fun k hk => by omega))
  have hP2 : PgAt rb ao n cap zs s1 w2 := hp.new hrb HLT.out (tS.mono (fun k hk => by omega))
  have HB2 := hide (pgnum0 rb ao n cap zs s1 1 20 _ hP2)
  have hmb := pgB_small zs 1 20 [] s1 HBY.out
  have hmb2 := pgB_le zs 1 20 [] s1 (by omega)
  generalize (pgB zs 1 20 [] s1).1 = N at HSP HB2 hmb hmb2
  generalize (pgB zs 1 20 [] s1).2 = s2 at HSP HB2
  have f0 := free_of_block hC1 0
  have z0 : w1.cell? ⟨w.heap.size + 1 + 1, 0, none⟩ = some (.int .i64 0) := by rw [cell_of_row _ _ _ _ _ _ hC1]; rfl
  have a1 : w1.cell? ⟨w.heap.size, 0, none⟩ = some (.pointer (some ⟨rb, 0, none⟩)) := by rw [cell_of_row _ _ _ _ _ _ hA1]; rfl
  have HW2 := hide hw2
  have H2 := hide (And.intro hA2 (And.intro hB2 (And.intro hC2 hT2)))
  clear hA0 hB0 hC0 hT0 hA1 hB1 hC1 hT1 hA2 hB2 hC2 hT2 hP2 hp ht tS hw2 H0 HB a0 HW
  go_wp2_with fail
  rw [← HW2.out]
  refine HB2.out.mono ?_
  rintro e w3 ⟨rfl, hp, ht⟩
  obtain ⟨hA2, hB2, hC2, hT2⟩ := H2.out
  have hs3 := ht.size
  have hA3 := (ht.block _ (by omega) (by omega)).trans hA2
  have hB3 := (ht.block _ (by omega) (by omega)).trans hB2
  have hC3 := (ht.block _ (by omega) (by omega)).trans hC2
  have hT3 := hT2.andThen ht
  obtain ⟨w4, hw4⟩ : ∃ w4, w4 = w3.alloc (.cells #[.int .i64 N] 3) := ⟨_, rfl⟩
  have t4 : Touch (· = rb) w3 w4 := by rw [hw4]; exact touch_alloc _ _
  have hs4 : w4.heap.size = w3.heap.size + 1 := by rw [hw4]; simp
  have hA4 := (t4.block _ (by omega) (by omega)).trans hA3
  have hB4 := (t4.block _ (by omega) (by omega)).trans hB3
  have hC4 := (t4.block _ (by omega) (by omega)).trans hC3
  have hD4 : w4.heap[w3.heap.size]? = some (.cells #[.int .i64 N] 3 (0, 0)) := by rw [hw4]; exact heap_alloc_new w3 _
  have hT4 := hT3.andThen t4
  have hP4 : PgAt rb ao n cap zs s2 w4 := by rw [hw4]; exact hp.alloc _
  have HW4 := hide hw4
  have H4 := hide (And.intro hA4 (And.intro hB4 (And.intro hC4 (And.intro hT4 (And.intro hD4 hP4)))))
  clear hA2 hB2 hC2 hT2 hA3 hB3 hC3 hT3 hA4 hB4 hC4 hT4 hD4 hP4 hp ht t4 hw4 H2 HB2 f0 z0 a1 HW2
  have hLI := list_ins w.heap.size w3.heap.size N.toNat (by omega) (· = rb) w4 (fun b hb => by omega) (fun j l wr => l = (pgTo (pgIns zs N) j s2).1 ∧ PgAt rb ao n cap zs (pgTo (pgIns zs N) j s2).2 wr ∧ Touch (· = rb) w4 wr)
    (fun j l wr w' hI t => ⟨hI.1, hI.2.1.new (B := w4.heap.size) (by omega) (fun ad e hn => by have := HLT.out ad e hn; omega) (t.mono (fun k hk => hk.1)), hI.2.2.andNew (t.mono (fun k hk => hk.1))⟩)
    (fun j l wr hj hI => (pginstr_lit w.heap.size w3.heap.size rb ao n cap zs _ N wr hI.2.1 (by omega) ((hI.2.2.block _ (by omega) (by omega)).trans H4.out.1) ((hI.2.2.block _ (by omega) (by omega)).trans H4.out.2.2.2.2.1)).mono (fun e w' ⟨he, hp, ht⟩ => ⟨_, _, he, ⟨by rw [hI.1]; rfl, hp, hI.2.2.andThen ht⟩, ht⟩))
    ⟨rfl, H4.out.2.2.2.2.2, Touch.refl _ _⟩
  rw [show ((N.toNat : Nat) : Int) = N from by omega] at hLI
  have HLI := hide hLI
  clear hLI
  go_wp2_with fail
  rw [← HW4.out]
  refine HLI.out.mono ?_
  rintro e w5 ⟨v, l, rfl, ⟨hl, hp, ht⟩, hll, hV⟩
  obtain ⟨hA4, hB4, hC4, hT4, hD4, hP4⟩ := H4.out
  have hs5 := ht.size
  have hB5 := (ht.block _ (by omega) (by omega)).trans hB4
  have hC5 := (ht.block _ (by omega) (by omega)).trans hC4
  have hT5 := hT4.andThen ht
  obtain ⟨ad, cv, rfl⟩ := own_slice hV
  have HSP2 : Hid (pgProc zs s = (⟨prio, l⟩, (pgTo (pgIns zs N) N.toNat s2).2)) := by show _ = _; rw [HSP.out, hl]
  generalize (pgTo (pgIns zs N) N.toNat s2).2 = s3 at HSP2 hp
  have p0 : w5.cell? ⟨w.heap.size + 1 + 1, 0, none⟩ = some (.int .i64 prio) := by rw [cell_of_row _ _ _ _ _ _ hC5]; rfl
  have p1 : w5.cell? ⟨w.heap.size + 1 + 1, 1, none⟩ = some (.slice none 0 0) := by rw [cell_of_row _ _ _ _ _ _ hC5]; rfl
  have q0 : w5.cell? ⟨w.heap.size + 1, 0, none⟩ = some (.int .i64 0) := by rw [cell_of_row _ _ _ _ _ _ hB5]; rfl
  have q1 : w5.cell? ⟨w.heap.size + 1, 1, none⟩ = some (.slice none 0 0) := by rw [cell_of_row _ _ _ _ _ _ hB5]; rfl
  have f1 := free_of_block hC5 1
  have g0 := free_of_block hB5 0
  have g1 := free_of_block hB5 1
  have H5 := hide (And.intro hp (And.intro hT5 hV))
  clear hA4 hB4 hC4 hT4 hD4 hP4 hB5 hC5 hT5 hp ht hl hll hV H4 HLI HW4
  go_wp2
  refine bodyPost_ret (v := .agg #[.int .i64 prio, .slice ad l.length cv]) (by simp [results, Tryz.results120, go_sem, q0, q1]) rfl ?_
  have tS : Touch (fun i => i = w.heap.size + 1 + 1 ∨ i = w.heap.size + 1) w5 (((w5.setCell ⟨w.heap.size + 1 + 1, 1, none⟩ (.slice ad l.length cv)).setCell ⟨w.heap.size + 1, 0, none⟩ (.int .i64 prio)).setCell ⟨w.heap.size + 1, 1, none⟩ (.slice ad l.length cv)) := Touch.andThen (Touch.andThen (Touch.ofSet w5 _ 1 _ (.inl rfl)) (Touch.ofSet _ _ 0 _ (.inr rfl))) (Touch.ofSet _ _ 1 _ (.inr rfl))
  rw [HSP2.out]
  obtain ⟨hp, hT5, hV⟩ := H5.out
  refine ⟨ad, l.length, cv, rfl, ?_, hp.new hrb HLT.out (tS.mono (fun k hk => by omega)), hT5.andNew (tS.mono (fun k hk => by omega))⟩
  exact own_low (own_keep hV (fun b e => tS.block b (World.ownsRow.lt hV b e).2 (by have := (World.ownsRow.lt hV b e).1; omega))) (by omega)
end Go.Proofs.YtnjlbgolnbdkaaaGreat
namespace Go.Proofs.YtnjlbgolnbdkaaaGreat
open Go.RowKit

def Aparts (l : List (Pr × Value)) : Prop := l.Pairwise fun a b => ∀ x, a.2.ownBlock = some x → b.2.ownBlock ≠ some x
def ProcsIn (lo hi : Nat) (v : Value) (ps : List Pr) (w : World) : Prop := ∃ l : List (Pr × Value), l.map Prod.fst = ps ∧ w.ownsRow lo 190 2 v l.length (procCells l) ∧ (∀ b, v.ownBlock = some b → b < hi) ∧ (∀ p ∈ l, CodeV lo p.2 p.1.code w ∧ ∀ b, p.2.ownBlock = some b → b < hi) ∧ Aparts l
section
variable {lo hi lo' hi' bs bs' : Nat} {v vP vW vC : Value} {ps : List Pr} {pts : List Pt} {cf : Cf} {w w' : World}
theorem ProcsIn.procs (h : ProcsIn lo hi v ps w) : ProcsV lo v ps w := by
  obtain ⟨l, h1, h2, _, h4, _⟩ := h
  exact ⟨l, h1, h2, fun p hp => (h4 p hp).1⟩
theorem ProcsIn.keep (h : ProcsIn lo hi v ps w) (hs : ∀ b, lo ≤ b → b < hi → b < w.heap.size → OfType w b (fun t => t = 210 ∨ t = 190) → w'.heap[b]? = w.heap[b]?) : ProcsIn lo hi v ps w' := by
  obtain ⟨l, h1, h2, h3, h4, h5⟩ := h
  refine ⟨l, h1, own_keep h2 (fun b e => ?_), h3, fun p hp => ⟨own_keep (h4 p hp).1 (fun b e => ?_), (h4 p hp).2⟩, h5⟩
  · obtain ⟨cur, hc⟩ := own_of h2 e
    exact hs b (World.ownsRow.lt h2 b e).1 (h3 b e) (World.ownsRow.lt h2 b e).2 ⟨cur, 190, .inr rfl, hc⟩
  · obtain ⟨cur, hc⟩ := own_of (h4 p hp).1 e
    exact hs b (World.ownsRow.lt (h4 p hp).1 b e).1 ((h4 p hp).2 b e) (World.ownsRow.lt (h4 p hp).1 b e).2 ⟨cur, 210, .inl rfl, hc⟩
theorem ProcsIn.base (h : ProcsIn lo hi v ps w) (hb : lo' ≤ lo) : ProcsIn lo' hi v ps w := by
  obtain ⟨l, h1, h2, h3, h4, h5⟩ := h
  exact ⟨l, h1, own_low h2 hb, h3, fun p hp => ⟨(h4 p hp).1.base hb, (h4 p hp).2⟩, h5⟩
theorem ProcsIn.top (h : ProcsIn lo hi v ps w) (hb : hi ≤ hi') : ProcsIn lo hi' v ps w := by
  obtain ⟨l, h1, h2, h3, h4, h5⟩ := h
  exact ⟨l, h1, h2, fun b e => Nat.lt_of_lt_of_le (h3 b e) hb, fun p hp => ⟨(h4 p hp).1, fun b e => Nat.lt_of_lt_of_le ((h4 p hp).2 b e) hb⟩, h5⟩
theorem procs_in {l : List (Pr × Value)} (h2 : w.ownsRow lo 190 2 v l.length (procCells l)) (h3 : ∀ p ∈ l, CodeV lo p.2 p.1.code w) (h4 : Aparts l) : ProcsIn lo w.heap.size v (l.map Prod.fst) w :=
  ⟨l, rfl, h2, fun b e => (World.ownsRow.lt h2 b e).2, fun p hp => ⟨h3 p hp, fun b e => (World.ownsRow.lt (h3 p hp) b e).2⟩, h4⟩
theorem aparts_snoc {l : List (Pr × Value)} {p : Pr × Value} (h : Aparts l) (h1 : ∀ q ∈ l, CodeV lo q.2 q.1.code w) (h2 : CodeV w.heap.size p.2 p.1.code w') : Aparts (l ++ [p]) := by
  refine List.pairwise_append.2 ⟨h, List.pairwise_singleton _ _, fun a ha b hb x e1 e2 => ?_⟩
  obtain rfl := List.mem_singleton.1 hb
  have := (World.ownsRow.lt (h1 a ha) x e1).2
  have := (World.ownsRow.lt h2 x e2).1
  omega

def PartsS (bs : Nat) (v : Value) (ps : List Pt) (w : World) : Prop := ∃ (l : List (Pt × Value)) (c : Nat → Nat), l.map Prod.fst = ps ∧ w.ownsRow bs 124 10 v l.length (ptsCells l) ∧ (∀ i, bs ≤ c i) ∧ (∀ i, c i ≤ c (i + 1)) ∧ ∀ i p, l[i]? = some p → ProcsIn (c i) (c (i + 1)) p.2 p.1.procs w
theorem PartsS.parts (h : PartsS bs v pts w) : PartsV bs v pts w := by
  obtain ⟨l, c, h1, h2, h3, _, h5⟩ := h
  refine ⟨l, h1, h2, fun p hp => ?_⟩
  obtain ⟨i, hi⟩ := List.getElem?_of_mem hp
  exact (h5 i p hi).procs.base (h3 i)
theorem PartsS.keep (h : PartsS bs v pts w) (hs : ∀ b, bs ≤ b → b < w.heap.size → OfType w b (fun t => t = 124 ∨ t = 210 ∨ t = 190) → w'.heap[b]? = w.heap[b]?) : PartsS bs v pts w' := by
  obtain ⟨l, c, h1, h2, h3, h4, h5⟩ := h
  exact ⟨l, c, h1, own_type h2 (fun b hb hl ⟨cur, t, ht, hc⟩ => hs b hb hl ⟨cur, t, .inl ht, hc⟩), h3, h4, fun i p hp => (h5 i p hp).keep (fun b hb _ hl ⟨cur, t, ht, hc⟩ => hs b (Nat.le_trans (h3 i) hb) hl ⟨cur, t, .inr ht, hc⟩)⟩
theorem PartsS.base (h : PartsS bs v pts w) (hb : bs' ≤ bs) : PartsS bs' v pts w := by
  obtain ⟨l, c, h1, h2, h3, h4, h5⟩ := h
  exact ⟨l, c, h1, own_low h2 hb, fun i => Nat.le_trans hb (h3 i), h4, h5⟩
structure ConfS (bs : Nat) (vP vW vC : Value) (cf : Cf) (w : World) : Prop where
  parts : PartsS bs vP cf.parts w
  wins : WinsV bs vW cf.wins w
  chans : ChansV bs vC cf.chans w
theorem ConfS.keep (h : ConfS bs vP vW vC cf w) (hs : ∀ b, bs ≤ b → b < w.heap.size → w'.heap[b]? = w.heap[b]?) : ConfS bs vP vW vC cf w' :=
  ⟨h.parts.keep (fun b h1 h2 _ => hs b h1 h2), own_type h.wins (fun b h1 h2 _ => hs b h1 h2), own_type h.chans (fun b h1 h2 _ => hs b h1 h2)⟩
theorem ConfS.base (h : ConfS bs vP vW vC cf w) (hb : bs' ≤ bs) : ConfS bs' vP vW vC cf w := ⟨h.parts.base hb, own_low h.wins hb, own_low h.chans hb⟩
theorem ConfS.low (h : ConfS bs vP vW vC cf w) {S : Nat → Prop} (t : Touch S w w') (hS : ∀ b, S b → b < bs) : ConfS bs vP vW vC cf w' := h.keep (fun b h1 h2 => t.block b h2 (fun hs => by have := hS b hs; omega))
theorem confS_nil (bs : Nat) (w : World) : ConfS bs (.slice none 0 0) (.slice none 0 0) (.slice none 0 0) noCf w := ⟨⟨[], fun _ => bs, rfl, World.ownsRow_nil _ _ _ _, fun _ => Nat.le_refl _, fun _ => Nat.le_refl _, fun i p h => by simp at h⟩, World.ownsRow_nil _ _ _ _, World.ownsRow_nil _ _ _ _⟩
end
structure PartsAt (base : Nat) (l : List (Pt × Value)) (w : World) : Prop where
  ex : ∃ c : Nat → Nat, (∀ i, base ≤ c i) ∧ (∀ i, c i ≤ c (i + 1)) ∧ c l.length ≤ w.heap.size ∧ ∀ i p, l[i]? = some p → ProcsIn (c i) (c (i + 1)) p.2 p.1.procs w
theorem PartsAt.nil (w : World) : PartsAt w.heap.size [] w := ⟨fun _ => w.heap.size, fun _ => Nat.le_refl _, fun _ => Nat.le_refl _, Nat.le_refl _, fun i p h => by simp at h⟩
theorem PartsAt.touch {base : Nat} {l : List (Pt × Value)} {w w' : World} {S : Nat → Prop} (h : PartsAt base l w) (t : Touch S w w') (hS : ∀ b, S b → b < base ∨ OfType w b (· = 124)) : PartsAt base l w' := by
  obtain ⟨c, h1, h2, h3, h4⟩ := h.ex
  refine ⟨c, h1, h2, Nat.le_trans h3 t.size, fun i p hp => (h4 i p hp).keep (fun b hb _ hl ⟨cur, x, hx, hc⟩ => t.block b hl (fun hs => ?_))⟩
  rcases hS b hs with h' | ⟨c2, t2, ht2, hc2⟩
  · have := h1 i; omega
  · subst ht2
    rw [hc] at hc2
    rcases hx with rfl | rfl <;> simp at hc2
theorem PartsAt.snoc {base : Nat} {l : List (Pt × Value)} {p : Pt × Value} {w w' : World} {S : Nat → Prop} (h : PartsAt base l w) (hb : base ≤ w.heap.size) (t : Touch S w w') (hS : ∀ b, S b → b < base) (hp : ProcsIn w.heap.size w'.heap.size p.2 p.1.procs w') : PartsAt base (l ++ [p]) w' := by
  obtain ⟨c, h1, h2, h3, h4⟩ := (h.touch t (fun b hb => .inl (hS b hb))).ex
  obtain ⟨c0, h10, h20, h30, h40⟩ := h.ex
  refine ⟨fun i => if i ≤ l.length then c0 i else w'.heap.size, fun i => ?_, fun i => ?_, ?_, fun i q hq => ?_⟩
  · show base ≤ if i ≤ l.length then c0 i else w'.heap.size
    split
    · exact h10 i
    · have := t.size; omega
  · show (if i ≤ l.length then c0 i else w'.heap.size) ≤ if i + 1 ≤ l.length then c0 (i + 1) else w'.heap.size
    by_cases e1 : i + 1 ≤ l.length
    · rw [if_pos (by omega), if_pos e1]; exact h20 i
    · rw [if_neg e1]
      split
      · obtain rfl : i = l.length := by omega
        have := t.size; omega
      · exact Nat.le_refl _
  · show (if (l ++ [p]).length ≤ l.length then c0 _ else w'.heap.size) ≤ w'.heap.size
    rw [if_neg (by simp)]; exact Nat.le_refl _
  · show ProcsIn (if i ≤ l.length then c0 i else w'.heap.size) (if i + 1 ≤ l.length then c0 (i + 1) else w'.heap.size) q.2 q.1.procs w'
    by_cases e1 : i < l.length
    · rw [if_pos (by omega), if_pos (by omega)]
      rw [List.getElem?_append_left e1] at hq
      exact (h40 i q hq).keep (fun b hb' _ hl _ => t.block b hl (fun hs => by have := hS b hs; have := h10 i; omega))
    · have hi : i = l.length := by
        have := (List.getElem?_eq_some_iff.1 hq).1
        simp at this; omega
      subst hi
      rw [List.getElem?_append_right (Nat.le_refl _)] at hq
      simp at hq
      subst hq
      rw [if_pos (Nat.le_refl _), if_neg (by omega)]
      exact hp.base h30
end Go.Proofs.YtnjlbgolnbdkaaaGreat
/- Texts of the proof of Boots, one behind the other. -/
namespace Go.Proofs.YtnjlbgolnbdkaaaGreat
open Go.RowKit

def pgActs (zs : List Int) : Nat → Rs → List Int × Rs
  | 0, s => ([], s)
  | k + 1, s => ((pgActs zs k s).1 ++ [(pgAct zs k (pgActs zs k s).2).1], (pgAct zs k (pgActs zs k s).2).2)
theorem pgActs_length (zs : List Int) (k : Nat) (s : Rs) : (pgActs zs k s).1.length = k := by
  induction k with
  | zero => rfl
  | succ k ih => show ((pgActs zs k s).1 ++ [_]).length = k + 1; simp [ih]
def pgPart (zs : List Int) (s : Rs) : Pt × Rs :=
  let a := pgB zs 0 1 [] s
  let b := pgB zs 1 16 [] a.2
  let c := pgB zs 0 9 [] b.2
  let d := pgActs zs 6 c.2
  let m := pgB zs 1 2 [] d.2
  let q := pgTo (pgProc zs) m.1.toNat m.2
  (⟨a.1 == 1, b.1, c.1, d.1, q.1⟩, q.2)

structure PMk (rb : Nat) (ao : Option Addr) (n cap : Nat) (zs : List Int) (T : TypeId) (zero : Array Value) (w : World) (cells : Array Value) (s : Rs) (wr : World) : Prop where
  zero : wr.heap[w.heap.size]? = some (.cells zero T (0, 0))
  cur : wr.heap[w.heap.size + 1]? = some (.cells cells T (0, 0))
  rd : PgAt rb ao n cap zs s wr
  t : Touch (· = rb) w wr
section
variable {rb : Nat} {ao : Option Addr} {n cap : Nat} {zs : List Int} {T : TypeId} {zero : Array Value} {w : World} {cells : Array Value} {s s' : Rs} {wr w' : World}
theorem PMk.byte (h : PMk rb ao n cap zs T zero w cells s wr) (hrb : rb < w.heap.size) (hr : PgAt rb ao n cap zs s' w') (ht : Touch (· = rb) wr w') : PMk rb ao n cap zs T zero w cells s' w' :=
  ⟨(ht.block _ (lt_of_block h.zero) (by omega)).trans h.zero, (ht.block _ (lt_of_block h.cur) (by omega)).trans h.cur, hr, h.t.andThen ht⟩
theorem PMk.new (h : PMk rb ao n cap zs T zero w cells s wr) (hrb : rb < w.heap.size) (hlt : ∀ ad, ao = some ad → 0 < n → ad.block < w.heap.size) (t : Touch (fun i => w.heap.size + 2 ≤ i) wr w') : PMk rb ao n cap zs T zero w cells s w' :=
  ⟨(t.block _ (lt_of_block h.zero) (by omega)).trans h.zero, (t.block _ (lt_of_block h.cur) (by omega)).trans h.cur, h.rd.new hrb hlt (t.mono (fun k hk => by omega)), h.t.andNew (t.mono (fun k hk => by omega))⟩
theorem PMk.set (h : PMk rb ao n cap zs T zero w cells s wr) (hrb : rb < w.heap.size) (hlt : ∀ ad, ao = some ad → 0 < n → ad.block < w.heap.size) (o : Nat) (v : Value) : PMk rb ao n cap zs T zero w (cells.setIfInBounds o v) s (wr.setCell ⟨w.heap.size + 1, o, none⟩ v) := by
  have t : Touch (· = w.heap.size + 1) wr (wr.setCell ⟨w.heap.size + 1, o, none⟩ v) := Touch.ofSet wr _ o v rfl
  exact ⟨(t.block _ (lt_of_block h.zero) (by omega)).trans h.zero, block_set h.cur o v, h.rd.new hrb hlt (t.mono (fun k hk => by omega)), h.t.andNew (t.mono (fun k hk => by omega))⟩
theorem PMk.start (hr : PgAt rb ao n cap zs s w) (zero cells : Array Value) (T : TypeId) : PMk rb ao n cap zs T zero w cells s ((w.alloc (.cells zero T)).alloc (.cells cells T)) :=
  ⟨(Below.heap_alloc _ _ _ (by simp)).trans (heap_alloc_new w _), new_two w _ _, (hr.alloc _).alloc _, (touch_alloc _ _).andThen (touch_alloc _ _)⟩
end

theorem Touch.thenSet {S : Nat → Prop} {a b : World} (h : Touch S a b) {g : Nat} (o : Nat) (v : Value) (hg : S g) : Touch S a (b.setCell ⟨g, o, none⟩ v) := h.andThen (Touch.ofSet b g o v hg)
theorem code_touch {base : Nat} {v : Value} {code : List (Int × Int)} {w w' : World} {S : Nat → Prop} (h : CodeV base v code w) (t : Touch S w w') (hS : ∀ b, S b → base ≤ b → ¬ OfType w b (· = 210)) : CodeV base v code w' :=
  h.keep (fun b h1 h2 ⟨cur, hc⟩ => t.block b h2 (fun hs => hS b hs h1 ⟨cur, 210, rfl, hc⟩))
theorem oftype_ne {w : World} {b : Nat} {s t : TypeId} (h : OfType w b (· = s)) (hne : s ≠ t) : ¬ OfType w b (· = t) := by
  rintro ⟨c2, t2, ht2, h2⟩
  obtain ⟨c1, t1, ht1, h1⟩ := h
  subst ht1 ht2
  rw [h1] at h2
  simp at h2
  exact hne h2.2

set_option maxRecDepth 100000 in
set_option maxHeartbeats 4000000 in
theorem pgpartition_any (rb : Nat) (ao : Option Addr) (n cap : Nat) (zs : List Int) (s : Rs) (w : World) (h : PgAt rb ao n cap zs s w) :
    Calls Tryz.prog 82 #[.pointer (some ⟨rb, 0, none⟩)] w fun e w' => ∃ ad m c, e = .returned (.agg (ptCells (pgPart zs s).1.sys (pgPart zs s).1.words (pgPart zs s).1.limit (fun i => (pgPart zs s).1.acts.getD i 0) (.slice ad m c))) ∧ ProcsIn w.heap.size w'.heap.size (.slice ad m c) (pgPart zs s).1.procs w' ∧ PgAt rb ao n cap zs (pgPart zs s).2 w' ∧ Touch (· = rb) w w' := by
  have hrb := lt_of_block h.obj
  have HLT : Hid (∀ ad, ao = some ad → 0 < n → ad.block < w.heap.size) := h.held.lt
  have HBY := hide h.held.bytes
  have HM := hide (PMk.start h (ptCells false 0 0 (fun _ => 0) (.slice none 0 0)) (ptCells false 0 0 (fun _ => 0) (.slice none 0 0)) 124)
  clear h
  have HSP : Hid (pgPart zs s = (⟨(pgB zs 0 1 [] s).1 == 1, (pgB zs 1 16 [] (pgB zs 0 1 [] s).2).1, (pgB zs 0 9 [] (pgB zs 1 16 [] (pgB zs 0 1 [] s).2).2).1, (pgActs zs 6 (pgB zs 0 9 [] (pgB zs 1 16 [] (pgB zs 0 1 [] s).2).2).2).1, (pgTo (pgProc zs) (pgB zs 1 2 [] (pgActs zs 6 (pgB zs 0 9 [] (pgB zs 1 16 [] (pgB zs 0 1 [] s).2).2).2).2).1.toNat (pgB zs 1 2 [] (pgActs zs 6 (pgB zs 0 9 [] (pgB zs 1 16 [] (pgB zs 0 1 [] s).2).2).2).2).2).1⟩, (pgTo (pgProc zs) (pgB zs 1 2 [] (pgActs zs 6 (pgB zs 0 9 [] (pgB zs 1 16 [] (pgB zs 0 1 [] s).2).2).2).2).1.toNat (pgB zs 1 2 [] (pgActs zs 6 (pgB zs 0 9 [] (pgB zs 1 16 [] (pgB zs 0 1 [] s).2).2).2).2).2).2)) := rfl
  have HB1 := hide (pgnum0 rb ao n cap zs s 0 1 _ HM.out.rd)
  generalize (pgB zs 0 1 [] s).1 = sy at HSP HB1
  generalize (pgB zs 0 1 [] s).2 = r1 at HSP HB1
  go_enter Tryz.func82, Tryz.ntmps82
  go_wp2_with fail
  refine HB1.out.mono ?_
  rintro e w1 ⟨rfl, hr1, ht1⟩
  have HM1 := hide (HM.out.byte hrb hr1 ht1)
  have p0 : w1.cell? ⟨w.heap.size + 1, 0, none⟩ = some (.bool false) := by rw [cell_of_row _ _ _ _ _ _ HM1.out.cur]; rfl
  have f0 := free_of_block HM1.out.cur 0
  clear hr1 ht1 HM HB1
  have HM2 : Hid (PMk rb ao n cap zs 124 (ptCells false 0 0 (fun _ => 0) (.slice none 0 0)) w (ptCells (sy == 1) 0 0 (fun _ => 0) (.slice none 0 0)) r1 (w1.setCell ⟨w.heap.size + 1, 0, none⟩ (.bool (sy == 1)))) := HM1.out.set hrb HLT.out 0 (.bool (sy == 1))
  have HB2 := hide (pgnum0 rb ao n cap zs r1 1 16 _ HM2.out.rd)
  generalize (pgB zs 1 16 [] r1).1 = wd at HSP HB2
  generalize (pgB zs 1 16 [] r1).2 = r2 at HSP HB2
  go_wp2_with fail
  refine HB2.out.mono ?_
  rintro e w2 ⟨rfl, hr2, ht2⟩
  have HM3 := hide (HM2.out.byte hrb hr2 ht2)
  have p1 : w2.cell? ⟨w.heap.size + 1, 1, none⟩ = some (.int .i64 0) := by rw [cell_of_row _ _ _ _ _ _ HM3.out.cur]; rfl
  have f1 := free_of_block HM3.out.cur 1
  clear hr2 ht2 HM2 HB2 HM1 p0 f0
  have HM4 : Hid (PMk rb ao n cap zs 124 (ptCells false 0 0 (fun _ => 0) (.slice none 0 0)) w (ptCells (sy == 1) wd 0 (fun _ => 0) (.slice none 0 0)) r2 (w2.setCell ⟨w.heap.size + 1, 1, none⟩ (.int .i64 wd))) := HM3.out.set hrb HLT.out 1 (.int .i64 wd)
  have HB3 := hide (pgnum0 rb ao n cap zs r2 0 9 _ HM4.out.rd)
  generalize (pgB zs 0 9 [] r2).1 = lm at HSP HB3
  generalize (pgB zs 0 9 [] r2).2 = r3 at HSP HB3
  go_wp2_with fail
  refine HB3.out.mono ?_
  rintro e w3 ⟨rfl, hr3, ht3⟩
  have HM5 := hide (HM4.out.byte hrb hr3 ht3)
  have p2 : w3.cell? ⟨w.heap.size + 1, 2, none⟩ = some (.int .i64 0) := by rw [cell_of_row _ _ _ _ _ _ HM5.out.cur]; rfl
  have f2 := free_of_block HM5.out.cur 2
  clear hr3 ht3 HM4 HB3 HM3 p1 f1
  have HM6 : Hid (PMk rb ao n cap zs 124 (ptCells false 0 0 (fun _ => 0) (.slice none 0 0)) w (ptCells (sy == 1) wd lm (fun _ => 0) (.slice none 0 0)) r3 (w3.setCell ⟨w.heap.size + 1, 2, none⟩ (.int .i64 lm))) := HM5.out.set hrb HLT.out 2 (.int .i64 lm)
  go_wp2
  go_loopw [16] (fun i wr => ∃ k : Nat, k ≤ 6 ∧ i = .int .i64 k ∧ PMk rb ao n cap zs 124 (ptCells false 0 0 (fun _ => 0) (.slice none 0 0)) w (ptCells (sy == 1) wd lm (fun i => (pgActs zs k r3).1.getD i 0) (.slice none 0 0)) (pgActs zs k r3).2 wr) (fun i _ => 6 - (intOf i).toNat)
  case atStart => exact ⟨0, by omega, rfl, HM6.out⟩
  case round =>
    obtain ⟨k, hk, rfl, hM⟩ := hrel
    by_cases hlt : k < 6
    · have hlen := pgActs_length zs k r3
      have HST : Hid (pgActs zs (k + 1) r3 = ((pgActs zs k r3).1 ++ [(pgAct zs k (pgActs zs k r3).2).1], (pgAct zs k (pgActs zs k r3).2).2)) := rfl
      have HB := hide (pgaction_any rb ao n cap zs (pgActs zs k r3).2 k wr hM.rd hlt)
      have HM := hide hM
      clear hM
      generalize pgActs zs k r3 = S at HST HB HM hlen
      generalize (pgAct zs k S.2).1 = a at HST HB
      generalize (pgAct zs k S.2).2 = Ra at HST HB
      go_wp2_with fail
      refine HB.out.mono ?_
      rintro e wA ⟨rfl, hrA, htA⟩
      have HMA := hide (HM.out.byte hrb hrA htA)
      have hcurA := HMA.out.cur
      have pk : ∃ u, wA.cell? ⟨w.heap.size + 1, 3 + k, none⟩ = some u := by
        rw [cell_of_row _ _ _ _ _ _ hcurA]
        exact ⟨_, Array.getElem?_eq_getElem (show 3 + k < (ptCells (sy == 1) wd lm (fun i => S.1.getD i 0) (.slice none 0 0)).size from by show 3 + k < 10; omega)⟩
      obtain ⟨u, hu⟩ := pk
      have fk := free_of_block hcurA (3 + k)
      have HMS : Hid (PMk rb ao n cap zs 124 (ptCells false 0 0 (fun _ => 0) (.slice none 0 0)) w (ptCells (sy == 1) wd lm (fun i => (S.1 ++ [a]).getD i 0) (.slice none 0 0)) Ra (wA.setCell ⟨w.heap.size + 1, 3 + k, none⟩ (.int .i64 a))) := by
        have := HMA.out.set hrb HLT.out (3 + k) (.int .i64 a)
        obtain ⟨g1, g2⟩ := acts_getD S.1 a k hlen
        rw [pt_set (sy == 1) wd lm (fun i => S.1.getD i 0) (fun i => (S.1 ++ [a]).getD i 0) (.slice none 0 0) k a hlt g1 g2] at this
        exact this
      clear hrA htA HB HM hcurA
      go_wp2
      go_roundw
      case rel => exact ⟨k + 1, by omega, by go_num, by rw [HST.out]; exact HMS.out⟩
      case measure => simp [intOf]; omega
    · obtain HK : Hid (k = 6) := (by omega : k = 6)
      have HM := hide hM
      clear hM HM5 HM6 p2 f2
      have hM0 : PMk rb ao n cap zs 124 (ptCells false 0 0 (fun _ => 0) (.slice none 0 0)) w (ptCells (sy == 1) wd lm (fun i => (pgActs zs 6 r3).1.getD i 0) (.slice none 0 0)) (pgActs zs 6 r3).2 wr := by
        have h6 := HM.out
        rw [HK.out] at h6
        exact h6
      have HB := hide (pgnum0 rb ao n cap zs (pgActs zs 6 r3).2 1 2 wr hM0.rd)
      have HM0 := hide hM0
      have hN1 := pgB_small zs 1 2 [] (pgActs zs 6 r3).2 HBY.out
      have hN2 := pgB_le zs 1 2 [] (pgActs zs 6 r3).2 (by omega)
      generalize pgActs zs 6 r3 = S at HSP HB HM0 hN1 hN2
      generalize (pgB zs 1 2 [] S.2).1 = N at HSP HB hN1 hN2
      generalize (pgB zs 1 2 [] S.2).2 = r5 at HSP HB
      clear HM HK hM0
      obtain ⟨af, haf⟩ : ∃ af : Nat → Int, af = fun i => S.1.getD i 0 := ⟨_, rfl⟩
      rw [← haf] at HM0
      have HAF := hide haf
      clear haf
      go_wp2_with fail
      refine HB.out.mono ?_
      rintro e wP ⟨rfl, hrP, htP⟩
      have HMP := hide (HM0.out.byte hrb hrP htP)
      have hsP := lt_of_block HMP.out.cur
      clear hrP htP HB HM0
      have hLI := list_proc rb N.toNat (by omega) (· = rb) wP (fun b hb => by omega) (fun j l wr => l.map Prod.fst = (pgTo (pgProc zs) j r5).1 ∧ PgAt rb ao n cap zs (pgTo (pgProc zs) j r5).2 wr ∧ Touch (· = rb) wP wr ∧ (∀ p ∈ l, CodeV wP.heap.size p.2 p.1.code wr) ∧ Aparts l)
        (fun j l wr w' hI t => ⟨hI.1, hI.2.1.new (B := wP.heap.size) (by omega) (fun ad e hn => by have := HLT.out ad e hn; omega) (t.mono (fun k hk => hk.1)), hI.2.2.1.andNew (t.mono (fun k hk => hk.1)), fun p hp => code_touch (hI.2.2.2.1 p hp) t (fun b hb _ => oftype_ne hb.2 (by decide)), hI.2.2.2.2⟩)
        (fun j l wr hj hI => (pgprocess_any rb ao n cap zs _ wr hI.2.1).mono (fun e w' ⟨ad, m, c, he, hc, hp, ht⟩ => ⟨_, ad, m, c, he, ⟨by rw [List.map_append, hI.1]; rfl, hp, hI.2.2.1.andThen ht, fun p hp => by
          rcases List.mem_append.1 hp with hp | hp
          · exact code_touch (hI.2.2.2.1 p hp) ht (fun b hb h2 => by omega)
          · obtain rfl := List.mem_singleton.1 hp
            exact hc.base hI.2.2.1.size, aparts_snoc hI.2.2.2.2 hI.2.2.2.1 hc⟩, ht⟩))
        ⟨rfl, HMP.out.rd, Touch.refl _ _, fun p hp => by simp at hp, List.Pairwise.nil⟩
      rw [show ((N.toNat : Nat) : Int) = N from by omega] at hLI
      have HLI := hide hLI
      clear hLI
      go_wp2_with fail
      refine HLI.out.mono ?_
      rintro e w5 ⟨v, l, rfl, ⟨hl, hp, ht, hco, hap⟩, hll, hV⟩
      have hs5 := ht.size
      have HM5 := hide (HMP.out.byte hrb hp ht)
      obtain ⟨ad, cv, rfl⟩ := own_slice hV
      have HSP2 : Hid (pgPart zs s = (⟨sy == 1, wd, lm, S.1, l.map Prod.fst⟩, (pgTo (pgProc zs) N.toNat r5).2)) := by show _ = _; rw [HSP.out, hl]
      generalize (pgTo (pgProc zs) N.toNat r5).2 = s3 at HSP2 HM5
      have HV : Hid (ProcsIn wP.heap.size w5.heap.size (.slice ad l.length cv) (l.map Prod.fst) w5) := procs_in hV hco hap
      clear hl hp ht hco hap hll hV HLI HMP HSP
      have hcur := HM5.out.cur
      have hzero := HM5.out.zero
      have p0 : w5.cell? ⟨w.heap.size + 1, 0, none⟩ = some (.bool (sy == 1)) := by rw [cell_of_row _ _ _ _ _ _ hcur]; rfl
      have p1 : w5.cell? ⟨w.heap.size + 1, 1, none⟩ = some (.int .i64 wd) := by rw [cell_of_row _ _ _ _ _ _ hcur]; rfl
      have p2 : w5.cell? ⟨w.heap.size + 1, 2, none⟩ = some (.int .i64 lm) := by rw [cell_of_row _ _ _ _ _ _ hcur]; rfl
      have p3 : w5.cell? ⟨w.heap.size + 1, 3, none⟩ = some (.int .i64 (af 0)) := by rw [cell_of_row _ _ _ _ _ _ hcur]; rfl
      have p4 : w5.cell? ⟨w.heap.size + 1, 4, none⟩ = some (.int .i64 (af 1)) := by rw [cell_of_row _ _ _ _ _ _ hcur]; rfl
      have p5 : w5.cell? ⟨w.heap.size + 1, 5, none⟩ = some (.int .i64 (af 2)) := by rw [cell_of_row _ _ _ _ _ _ hcur]; rfl
      have p6 : w5.cell? ⟨w.heap.size + 1, 6, none⟩ = some (.int .i64 (af 3)) := by rw [cell_of_row _ _ _ _ _ _ hcur]; rfl
      have p7 : w5.cell? ⟨w.heap.size + 1, 7, none⟩ = some (.int .i64 (af 4)) := by rw [cell_of_row _ _ _ _ _ _ hcur]; rfl
      have p8 : w5.cell? ⟨w.heap.size + 1, 8, none⟩ = some (.int .i64 (af 5)) := by rw [cell_of_row _ _ _ _ _ _ hcur]; rfl
      have p9 : w5.cell? ⟨w.heap.size + 1, 9, none⟩ = some (.slice none 0 0) := by rw [cell_of_row _ _ _ _ _ _ hcur]; rfl
      have f9 := free_of_block hcur 9
      have q0 : w5.cell? ⟨w.heap.size, 0, none⟩ = some (.bool false) := by rw [cell_of_row _ _ _ _ _ _ hzero]; rfl
      have q1 : w5.cell? ⟨w.heap.size, 1, none⟩ = some (.int .i64 0) := by rw [cell_of_row _ _ _ _ _ _ hzero]; rfl
      have q2 : w5.cell? ⟨w.heap.size, 2, none⟩ = some (.int .i64 0) := by rw [cell_of_row _ _ _ _ _ _ hzero]; rfl
      have q3 : w5.cell? ⟨w.heap.size, 3, none⟩ = some (.int .i64 0) := by rw [cell_of_row _ _ _ _ _ _ hzero]; rfl
      have q4 : w5.cell? ⟨w.heap.size, 4, none⟩ = some (.int .i64 0) := by rw [cell_of_row _ _ _ _ _ _ hzero]; rfl
      have q5 : w5.cell? ⟨w.heap.size, 5, none⟩ = some (.int .i64 0) := by rw [cell_of_row _ _ _ _ _ _ hzero]; rfl
      have q6 : w5.cell? ⟨w.heap.size, 6, none⟩ = some (.int .i64 0) := by rw [cell_of_row _ _ _ _ _ _ hzero]; rfl
      have q7 : w5.cell? ⟨w.heap.size, 7, none⟩ = some (.int .i64 0) := by rw [cell_of_row _ _ _ _ _ _ hzero]; rfl
      have q8 : w5.cell? ⟨w.heap.size, 8, none⟩ = some (.int .i64 0) := by rw [cell_of_row _ _ _ _ _ _ hzero]; rfl
      have q9 : w5.cell? ⟨w.heap.size, 9, none⟩ = some (.slice none 0 0) := by rw [cell_of_row _ _ _ _ _ _ hzero]; rfl
      have g0 := free_of_block hzero 0
      have g1 := free_of_block hzero 1
      have g2 := free_of_block hzero 2
      have g3 := free_of_block hzero 3
      have g4 := free_of_block hzero 4
      have g5 := free_of_block hzero 5
      have g6 := free_of_block hzero 6
      have g7 := free_of_block hzero 7
      have g8 := free_of_block hzero 8
      have g9 := free_of_block hzero 9
      clear hcur hzero
      have HOK : Hid (∀ W', Touch (fun i => i = w.heap.size ∨ i = w.heap.size + 1) w5 W' → ProcsIn w.heap.size W'.heap.size (.slice ad l.length cv) (l.map Prod.fst) W' ∧ PgAt rb ao n cap zs s3 W' ∧ Touch (· = rb) w W') := fun W' t => ⟨((HV.out.keep (fun b h1 _ h2 _ => t.block b h2 (by omega))).base (by omega)).top t.size, HM5.out.rd.new hrb HLT.out (t.mono (fun k hk => by omega)), HM5.out.t.andNew (t.mono (fun k hk => by omega))⟩
      go_wp2
      refine bodyPost_ret (v := .agg (ptCells (sy == 1) wd lm af (.slice ad l.length cv))) (by simp [results, Tryz.results82, go_sem, ptCells, q0, q1, q2, q3, q4, q5, q6, q7, q8, q9]) rfl ?_
      rw [HSP2.out]
      refine ⟨ad, l.length, cv, by rw [HAF.out], HOK.out _ ?_⟩
      iterate 10 refine Touch.thenSet (g := w.heap.size) ?_ _ _ (.inl rfl)
      refine Touch.thenSet (g := w.heap.size + 1) ?_ _ _ (.inr rfl)
      exact Touch.refl _ _
end Go.Proofs.YtnjlbgolnbdkaaaGreat
namespace Go.Proofs.YtnjlbgolnbdkaaaGreat
open Go.RowKit

def pgChan (zs : List Int) (N : Int) (s : Rs) : Ch × Rs :=
  let a := pgB zs 0 (N - 1) [] s
  let b := pgB zs 0 (N - 1) [a.1] a.2
  let c := pgB zs 1 4 [] b.2
  (⟨a.1, b.1, c.1⟩, c.2)
def pgWin (zs : List Int) (N fr : Int) (s : Rs × Int) : Wn × (Rs × Int) :=
  let a := pgB zs 0 (N - 1) [] s.1
  let b := pgB zs s.2 (fr - 1) [] a.2
  let c := pgB zs 1 (fr - b.1) [] b.2
  (⟨a.1, b.1, c.1⟩, (c.2, b.1 + c.1))
def three (a b c : Int) : Array Value := #[.int .i64 a, .int .i64 b, .int .i64 c]
theorem one_int (w : World) (a : Int) (T : TypeId) : IntsAt (w.alloc (.cells #[.int .i64 a] T)) (some ⟨w.heap.size, 0, none⟩) [a] := fun i hi => ⟨w.heap.size, 0, rfl, by
  obtain rfl : i = 0 := by simp at hi; omega
  simp⟩

set_option maxRecDepth 100000 in
set_option maxHeartbeats 4000000 in
theorem pgchannel_any (rb : Nat) (ao : Option Addr) (n cap : Nat) (zs : List Int) (s : Rs) (N : Int) (w : World) (h : PgAt rb ao n cap zs s w) (hN : 0 ≤ N ∧ N ≤ 255) :
    Calls Tryz.prog 86 #[.pointer (some ⟨rb, 0, none⟩), .int .i64 N] w fun e w' => e = .returned (.agg #[.int .i64 (pgChan zs N s).1.src, .int .i64 (pgChan zs N s).1.dst, .int .i64 (pgChan zs N s).1.depth]) ∧ PgAt rb ao n cap zs (pgChan zs N s).2 w' ∧ Touch (· = rb) w w' := by
  have hrb := lt_of_block h.obj
  have HLT : Hid (∀ ad, ao = some ad → 0 < n → ad.block < w.heap.size) := h.held.lt
  have HBY := hide h.held.bytes
  have HM := hide (PMk.start h (three 0 0 0) (three 0 0 0) 142)
  clear h
  have HSP : Hid (pgChan zs N s = (⟨(pgB zs 0 (N - 1) [] s).1, (pgB zs 0 (N - 1) [(pgB zs 0 (N - 1) [] s).1] (pgB zs 0 (N - 1) [] s).2).1, (pgB zs 1 4 [] (pgB zs 0 (N - 1) [(pgB zs 0 (N - 1) [] s).1] (pgB zs 0 (N - 1) [] s).2).2).1⟩, (pgB zs 1 4 [] (pgB zs 0 (N - 1) [(pgB zs 0 (N - 1) [] s).1] (pgB zs 0 (N - 1) [] s).2).2).2)) := rfl
  have HB1 := hide (pgnum0 rb ao n cap zs s 0 (N - 1) _ HM.out.rd)
  have ha := pgB_small zs 0 (N - 1) [] s HBY.out
  generalize (pgB zs 0 (N - 1) [] s).1 = a at HSP HB1 ha
  generalize (pgB zs 0 (N - 1) [] s).2 = r1 at HSP HB1
  go_enter Tryz.func86, Tryz.ntmps86
  go_wp2_with fail
  refine HB1.out.mono ?_
  rintro e w1 ⟨rfl, hr1, ht1⟩
  have HM1 := hide (HM.out.byte hrb hr1 ht1)
  have p0 : w1.cell? ⟨w.heap.size + 1, 0, none⟩ = some (.int .i64 0) := by rw [cell_of_row _ _ _ _ _ _ HM1.out.cur]; rfl
  have f0 := free_of_block HM1.out.cur 0
  have hs1 := lt_of_block HM1.out.cur
  clear hr1 ht1 HM HB1
  obtain ⟨w2, hw2⟩ : ∃ w2, w2 = w1.setCell ⟨w.heap.size + 1, 0, none⟩ (.int .i64 a) := ⟨_, rfl⟩
  have hs2 : w2.heap.size = w1.heap.size := by rw [hw2]; simp
  have HM2 : Hid (PMk rb ao n cap zs 142 (three 0 0 0) w (three a 0 0) r1 w2) := by rw [hw2]; exact HM1.out.set hrb HLT.out 0 (.int .i64 a)
  have HM2' : Hid (PMk rb ao n cap zs 142 (three 0 0 0) w (three a 0 0) r1 (w2.alloc (.cells #[.int .i64 a] 3))) := HM2.out.new hrb HLT.out (touch_alloc _ _)
  have HB2 := hide (pgnumber_any rb ao n cap zs r1 0 (N - 1) (some ⟨w2.heap.size, 0, none⟩) 1 [a] _ HM2'.out.rd (one_int w2 a 3) (by simp))
  have hb := pgB_small zs 0 (N - 1) [a] r1 HBY.out
  generalize (pgB zs 0 (N - 1) [a] r1).1 = b at HSP HB2 hb
  generalize (pgB zs 0 (N - 1) [a] r1).2 = r2 at HSP HB2
  rw [hs2, hw2] at HB2
  have HW2 := hide hw2
  have HS2 := hide hs2
  clear hw2 HM1 hs2
  go_wp2_with fail
  refine HB2.out.mono ?_
  rw [← HW2.out]
  rintro e w3 ⟨rfl, hr3, ht3⟩
  have HM3 := hide (HM2'.out.byte hrb hr3 ht3)
  have p1 : w3.cell? ⟨w.heap.size + 1, 1, none⟩ = some (.int .i64 0) := by rw [cell_of_row _ _ _ _ _ _ HM3.out.cur]; rfl
  have f1 := free_of_block HM3.out.cur 1
  clear hr3 ht3 HM2 HM2' HB2 HW2 HS2 p0 f0
  have HM4 : Hid (PMk rb ao n cap zs 142 (three 0 0 0) w (three a b 0) r2 (w3.setCell ⟨w.heap.size + 1, 1, none⟩ (.int .i64 b))) := HM3.out.set hrb HLT.out 1 (.int .i64 b)
  have HB3 := hide (pgnum0 rb ao n cap zs r2 1 4 _ HM4.out.rd)
  have hc := pgB_small zs 1 4 [] r2 HBY.out
  generalize (pgB zs 1 4 [] r2).1 = c at HSP HB3 hc
  generalize (pgB zs 1 4 [] r2).2 = r3 at HSP HB3
  go_wp2_with fail
  refine HB3.out.mono ?_
  rintro e w5 ⟨rfl, hr5, ht5⟩
  have HM5 := hide (HM4.out.byte hrb hr5 ht5)
  have hcur := HM5.out.cur
  have hzero := HM5.out.zero
  have x0 : w5.cell? ⟨w.heap.size + 1, 0, none⟩ = some (.int .i64 a) := by rw [cell_of_row _ _ _ _ _ _ hcur]; rfl
  have x1 : w5.cell? ⟨w.heap.size + 1, 1, none⟩ = some (.int .i64 b) := by rw [cell_of_row _ _ _ _ _ _ hcur]; rfl
  have x2 : w5.cell? ⟨w.heap.size + 1, 2, none⟩ = some (.int .i64 0) := by rw [cell_of_row _ _ _ _ _ _ hcur]; rfl
  have f2 := free_of_block hcur 2
  have q0 : w5.cell? ⟨w.heap.size, 0, none⟩ = some (.int .i64 0) := by rw [cell_of_row _ _ _ _ _ _ hzero]; rfl
  have q1 : w5.cell? ⟨w.heap.size, 1, none⟩ = some (.int .i64 0) := by rw [cell_of_row _ _ _ _ _ _ hzero]; rfl
  have q2 : w5.cell? ⟨w.heap.size, 2, none⟩ = some (.int .i64 0) := by rw [cell_of_row _ _ _ _ _ _ hzero]; rfl
  have g0 := free_of_block hzero 0
  have g1 := free_of_block hzero 1
  have g2 := free_of_block hzero 2
  clear hr5 ht5 HM4 HB3 HM3 p1 f1 hcur hzero
  have HOK : Hid (∀ W', Touch (fun i => i = w.heap.size ∨ i = w.heap.size + 1) w5 W' → PgAt rb ao n cap zs r3 W' ∧ Touch (· = rb) w W') := fun W' t => ⟨HM5.out.rd.new hrb HLT.out (t.mono (fun k hk => by omega)), HM5.out.t.andNew (t.mono (fun k hk => by omega))⟩
  go_wp2
  refine bodyPost_ret (v := .agg #[.int .i64 a, .int .i64 b, .int .i64 c]) (by simp [results, Tryz.results86, go_sem, q0, q1, q2]) rfl ?_
  rw [HSP.out]
  refine ⟨rfl, HOK.out _ ?_⟩
  iterate 3 refine Touch.thenSet (g := w.heap.size) ?_ _ _ (.inl rfl)
  refine Touch.thenSet (g := w.heap.size + 1) ?_ _ _ (.inr rfl)
  exact Touch.refl _ _

set_option maxRecDepth 100000 in
set_option maxHeartbeats 2000000 in
theorem pgchan_lit (p1 p2 : Nat) (rb : Nat) (ao : Option Addr) (n cap : Nat) (zs : List Int) (s : Rs) (N : Int) (w : World) (h : PgAt rb ao n cap zs s w) (hN : 0 ≤ N ∧ N ≤ 255) (h1 : w.heap[p1]? = some (.cells #[.pointer (some ⟨rb, 0, none⟩)] 102 (0, 0))) (h2 : w.heap[p2]? = some (.cells #[.int .i64 N] 3 (0, 0))) :
    Calls Tryz.prog 85 #[.pointer (some ⟨p1, 0, none⟩), .pointer (some ⟨p2, 0, none⟩)] w fun e w' => e = .returned (.agg #[.int .i64 (pgChan zs N s).1.src, .int .i64 (pgChan zs N s).1.dst, .int .i64 (pgChan zs N s).1.depth]) ∧ PgAt rb ao n cap zs (pgChan zs N s).2 w' ∧ Touch (· = rb) w w' := by
  have hrb := lt_of_block h.obj
  have HLT := hide h.held.lt
  have hl1 := lt_of_block h1
  have hl2 := lt_of_block h2
  have c1 : w.cell? ⟨p1, 0, none⟩ = some (.pointer (some ⟨rb, 0, none⟩)) := by rw [cell_of_row _ _ _ _ _ _ h1]; rfl
  have c2 : w.cell? ⟨p2, 0, none⟩ = some (.int .i64 N) := by rw [cell_of_row _ _ _ _ _ _ h2]; rfl
  have HB := hide (pgchannel_any rb ao n cap zs s N _ (h.alloc (.cells (three 0 0 0) 142)) hN)
  clear h h1 h2 hN
  generalize pgChan zs N s = q at HB ⊢
  go_enter Tryz.func85, Tryz.ntmps85
  go_wp2_with fail
  refine HB.out.mono ?_
  rintro e w1 ⟨rfl, hp, ht⟩
  have hs1 := ht.size
  simp at hs1
  have hB1 : w1.heap[w.heap.size]? = some (.cells (three 0 0 0) 142 (0, 0)) := (ht.block _ (by simp) (by omega)).trans (heap_alloc_new w _)
  have q0 : w1.cell? ⟨w.heap.size, 0, none⟩ = some (.int .i64 0) := by rw [cell_of_row _ _ _ _ _ _ hB1]; rfl
  have q1 : w1.cell? ⟨w.heap.size, 1, none⟩ = some (.int .i64 0) := by rw [cell_of_row _ _ _ _ _ _ hB1]; rfl
  have q2 : w1.cell? ⟨w.heap.size, 2, none⟩ = some (.int .i64 0) := by rw [cell_of_row _ _ _ _ _ _ hB1]; rfl
  have g0 := free_of_block hB1 0
  have g1 := free_of_block hB1 1
  have g2 := free_of_block hB1 2
  have H := hide (And.intro hp ((touch_alloc w _).andThen ht))
  clear hp ht hB1 HB
  go_wp2
  refine bodyPost_ret (v := .agg #[.int .i64 q.1.src, .int .i64 q.1.dst, .int .i64 q.1.depth]) (by simp [results, Tryz.results85, go_sem, q0, q1, q2]) rfl ?_
  have HOK : Hid (∀ W', Touch (fun i => i = w.heap.size) w1 W' → PgAt rb ao n cap zs q.2 W' ∧ Touch (· = rb) w W') := fun W' t => ⟨H.out.1.new hrb HLT.out (t.mono (fun k hk => by omega)), H.out.2.andNew (t.mono (fun k hk => by omega))⟩
  refine ⟨rfl, HOK.out _ ?_⟩
  iterate 3 refine Touch.thenSet (g := w.heap.size) ?_ _ _ rfl
  exact Touch.refl _ _
end Go.Proofs.YtnjlbgolnbdkaaaGreat
namespace Go.Proofs.YtnjlbgolnbdkaaaGreat
open Go.RowKit

set_option maxRecDepth 100000 in
set_option maxHeartbeats 4000000 in
theorem pgwin_lit (p1 p2 p3 p4 : Nat) (rb : Nat) (ao : Option Addr) (n cap : Nat) (zs : List Int) (s : Rs) (N fr fin : Int) (w : World) (h : PgAt rb ao n cap zs s w) (hN : 0 ≤ N ∧ N ≤ 255) (hfr : 0 ≤ fr ∧ fr ≤ 255)
    (h1 : w.heap[p1]? = some (.cells #[.pointer (some ⟨rb, 0, none⟩)] 102 (0, 0))) (h2 : w.heap[p2]? = some (.cells #[.int .i64 N] 3 (0, 0))) (h3 : w.heap[p3]? = some (.cells #[.int .i64 fin] 3 (0, 0))) (h4 : w.heap[p4]? = some (.cells #[.int .i64 fr] 3 (0, 0)))
    (hr1 : p1 ≠ rb) (hr3 : p3 ≠ rb) (hr4 : p4 ≠ rb) (hz3 : ∀ ad, ao = some ad → 0 < n → ad.block ≠ p3) :
    Calls Tryz.prog 122 #[.pointer (some ⟨p1, 0, none⟩), .pointer (some ⟨p2, 0, none⟩), .pointer (some ⟨p3, 0, none⟩), .pointer (some ⟨p4, 0, none⟩)] w fun e w' => e = .returned (.agg #[.int .i64 (pgWin zs N fr (s, fin)).1.part, .int .i64 (pgWin zs N fr (s, fin)).1.first, .int .i64 (pgWin zs N fr (s, fin)).1.many]) ∧ PgAt rb ao n cap zs (pgWin zs N fr (s, fin)).2.1 w' ∧ w'.heap[p3]? = some (.cells #[.int .i64 (pgWin zs N fr (s, fin)).2.2] 3 (0, 0)) ∧ Touch (fun i => i = rb ∨ i = p3) w w' := by
  have hrb := lt_of_block h.obj
  have hl1 := lt_of_block h1
  have hl2 := lt_of_block h2
  have hl3 := lt_of_block h3
  have hl4 := lt_of_block h4
  have HLT : Hid (∀ ad, ao = some ad → 0 < n → ad.block < w.heap.size) := h.held.lt
  have HZ3 := hide hz3
  have HBY := hide h.held.bytes
  have HM := hide (PMk.start h (three 0 0 0) (three 0 0 0) 131)
  have c1 : w.cell? ⟨p1, 0, none⟩ = some (.pointer (some ⟨rb, 0, none⟩)) := by rw [cell_of_row _ _ _ _ _ _ h1]; rfl
  have c2 : w.cell? ⟨p2, 0, none⟩ = some (.int .i64 N) := by rw [cell_of_row _ _ _ _ _ _ h2]; rfl
  have HP : Hid (∀ W, Touch (· = rb) w W → W.heap[p1]? = some (.cells #[.pointer (some ⟨rb, 0, none⟩)] 102 (0, 0)) ∧ W.heap[p3]? = some (.cells #[.int .i64 fin] 3 (0, 0)) ∧ W.heap[p4]? = some (.cells #[.int .i64 fr] 3 (0, 0))) := fun W t => ⟨(t.block _ hl1 hr1).trans h1, (t.block _ hl3 hr3).trans h3, (t.block _ hl4 hr4).trans h4⟩
  clear h h1 h2 h3 h4 hz3
  have HSP : Hid (pgWin zs N fr (s, fin) = (⟨(pgB zs 0 (N - 1) [] s).1, (pgB zs fin (fr - 1) [] (pgB zs 0 (N - 1) [] s).2).1, (pgB zs 1 (fr - (pgB zs fin (fr - 1) [] (pgB zs 0 (N - 1) [] s).2).1) [] (pgB zs fin (fr - 1) [] (pgB zs 0 (N - 1) [] s).2).2).1⟩, ((pgB zs 1 (fr - (pgB zs fin (fr - 1) [] (pgB zs 0 (N - 1) [] s).2).1) [] (pgB zs fin (fr - 1) [] (pgB zs 0 (N - 1) [] s).2).2).2, (pgB zs fin (fr - 1) [] (pgB zs 0 (N - 1) [] s).2).1 + (pgB zs 1 (fr - (pgB zs fin (fr - 1) [] (pgB zs 0 (N - 1) [] s).2).1) [] (pgB zs fin (fr - 1) [] (pgB zs 0 (N - 1) [] s).2).2).1))) := rfl
  have HB1 := hide (pgnum0 rb ao n cap zs s 0 (N - 1) _ HM.out.rd)
  have ha := pgB_small zs 0 (N - 1) [] s HBY.out
  generalize (pgB zs 0 (N - 1) [] s).1 = a at HSP HB1 ha
  generalize (pgB zs 0 (N - 1) [] s).2 = r1 at HSP HB1
  go_enter Tryz.func122, Tryz.ntmps122
  go_wp2_with fail
  refine HB1.out.mono ?_
  rintro e w1 ⟨rfl, hq1, ht1⟩
  have HM1 := hide (HM.out.byte hrb hq1 ht1)
  have x0 : w1.cell? ⟨w.heap.size + 1, 0, none⟩ = some (.int .i64 0) := by rw [cell_of_row _ _ _ _ _ _ HM1.out.cur]; rfl
  have f0 := free_of_block HM1.out.cur 0
  have hs1 := lt_of_block HM1.out.cur
  clear hq1 ht1 HM HB1 c1 c2
  have d1 : w1.cell? ⟨p1, 0, none⟩ = some (.pointer (some ⟨rb, 0, none⟩)) := by rw [cell_of_row _ _ _ _ _ _ (HP.out _ HM1.out.t).1]; rfl
  have d3 : w1.cell? ⟨p3, 0, none⟩ = some (.int .i64 fin) := by rw [cell_of_row _ _ _ _ _ _ (HP.out _ HM1.out.t).2.1]; rfl
  have d4 : w1.cell? ⟨p4, 0, none⟩ = some (.int .i64 fr) := by rw [cell_of_row _ _ _ _ _ _ (HP.out _ HM1.out.t).2.2]; rfl
  have HM2 : Hid (PMk rb ao n cap zs 131 (three 0 0 0) w (three a 0 0) r1 (w1.setCell ⟨w.heap.size + 1, 0, none⟩ (.int .i64 a))) := HM1.out.set hrb HLT.out 0 (.int .i64 a)
  have HB2 := hide (pgnum0 rb ao n cap zs r1 fin (fr - 1) _ HM2.out.rd)
  have hb := pgB_small zs fin (fr - 1) [] r1 HBY.out
  generalize (pgB zs fin (fr - 1) [] r1).1 = b at HSP HB2 hb
  generalize (pgB zs fin (fr - 1) [] r1).2 = r2 at HSP HB2
  have e1 : ¬ p1 = w.heap.size + 1 := by omega
  have e3 : ¬ p3 = w.heap.size + 1 := by omega
  have e4 : ¬ p4 = w.heap.size + 1 := by omega
  go_wp2_with fail
  refine HB2.out.mono ?_
  rintro e w3 ⟨rfl, hq3, ht3⟩
  have HM3 := hide (HM2.out.byte hrb hq3 ht3)
  have y1 : w3.cell? ⟨w.heap.size + 1, 1, none⟩ = some (.int .i64 0) := by rw [cell_of_row _ _ _ _ _ _ HM3.out.cur]; rfl
  have f1 := free_of_block HM3.out.cur 1
  clear hq3 ht3 HM2 HB2 HM1 x0 f0 d1 d3 d4
  have d1 : w3.cell? ⟨p1, 0, none⟩ = some (.pointer (some ⟨rb, 0, none⟩)) := by rw [cell_of_row _ _ _ _ _ _ (HP.out _ HM3.out.t).1]; rfl
  have d4 : w3.cell? ⟨p4, 0, none⟩ = some (.int .i64 fr) := by rw [cell_of_row _ _ _ _ _ _ (HP.out _ HM3.out.t).2.2]; rfl
  have HM4 : Hid (PMk rb ao n cap zs 131 (three 0 0 0) w (three a b 0) r2 (w3.setCell ⟨w.heap.size + 1, 1, none⟩ (.int .i64 b))) := HM3.out.set hrb HLT.out 1 (.int .i64 b)
  have HB3 := hide (pgnum0 rb ao n cap zs r2 1 (fr - b) _ HM4.out.rd)
  have hc := pgB_small zs 1 (fr - b) [] r2 HBY.out
  generalize (pgB zs 1 (fr - b) [] r2).1 = c at HSP HB3 hc
  generalize (pgB zs 1 (fr - b) [] r2).2 = r3 at HSP HB3
  go_wp2_with fail
  refine HB3.out.mono ?_
  rintro e w5 ⟨rfl, hq5, ht5⟩
  have HM5 := hide (HM4.out.byte hrb hq5 ht5)
  have hcur := HM5.out.cur
  have hzero := HM5.out.zero
  clear d1 d4
  have d3 : w5.cell? ⟨p3, 0, none⟩ = some (.int .i64 fin) := by rw [cell_of_row _ _ _ _ _ _ (HP.out _ HM5.out.t).2.1]; rfl
  have k3 := free_of_block (HP.out _ HM5.out.t).2.1 0
  have x0 : w5.cell? ⟨w.heap.size + 1, 0, none⟩ = some (.int .i64 a) := by rw [cell_of_row _ _ _ _ _ _ hcur]; rfl
  have x1 : w5.cell? ⟨w.heap.size + 1, 1, none⟩ = some (.int .i64 b) := by rw [cell_of_row _ _ _ _ _ _ hcur]; rfl
  have x2 : w5.cell? ⟨w.heap.size + 1, 2, none⟩ = some (.int .i64 0) := by rw [cell_of_row _ _ _ _ _ _ hcur]; rfl
  have f2 := free_of_block hcur 2
  have q0 : w5.cell? ⟨w.heap.size, 0, none⟩ = some (.int .i64 0) := by rw [cell_of_row _ _ _ _ _ _ hzero]; rfl
  have q1 : w5.cell? ⟨w.heap.size, 1, none⟩ = some (.int .i64 0) := by rw [cell_of_row _ _ _ _ _ _ hzero]; rfl
  have q2 : w5.cell? ⟨w.heap.size, 2, none⟩ = some (.int .i64 0) := by rw [cell_of_row _ _ _ _ _ _ hzero]; rfl
  have g0 := free_of_block hzero 0
  have g1 := free_of_block hzero 1
  have g2 := free_of_block hzero 2
  have e5 : ¬ w.heap.size + 1 = p3 := by omega
  have e6 : ¬ w.heap.size = p3 := by omega
  have e7 : ¬ p3 = w.heap.size := by omega
  clear hq5 ht5 HM4 HB3 HM3 y1 f1 hcur hzero
  have HOK : Hid (∀ W1 W2 W3 v, Touch (fun i => i = w.heap.size + 1) w5 W1 → W2 = W1.setCell ⟨p3, 0, none⟩ v → Touch (fun i => i = w.heap.size) W2 W3 → PgAt rb ao n cap zs r3 W3 ∧ W3.heap[p3]? = some (.cells #[v] 3 (0, 0)) ∧ Touch (fun i => i = rb ∨ i = p3) w W3) := by
    intro W1 W2 W3 v t1 hW t2
    have b1 : W1.heap[p3]? = some (.cells #[.int .i64 fin] 3 (0, 0)) := (t1.block _ (lt_of_block (HP.out _ HM5.out.t).2.1) (by omega)).trans (HP.out _ HM5.out.t).2.1
    have tW : Touch (fun i => i = p3) W1 W2 := by rw [hW]; exact Touch.ofSet _ _ _ _ rfl
    have b2 : W2.heap[p3]? = some (.cells #[v] 3 (0, 0)) := by rw [hW]; exact block_set b1 0 _
    have m1 : PgAt rb ao n cap zs r3 W1 := HM5.out.rd.new hrb HLT.out (t1.mono (fun k hk => by omega))
    have m2 : PgAt rb ao n cap zs r3 W2 := m1.keep tW (fun h => hr3 h.symm) (fun ad e hn h => HZ3.out ad e hn h)
    have m3 : PgAt rb ao n cap zs r3 W3 := m2.new hrb HLT.out (t2.mono (fun k hk => by omega))
    refine ⟨m3, (t2.block _ (lt_of_block b2) (by omega)).trans b2, ?_⟩
    have u1 : Touch (fun i => i = rb ∨ i = p3) w W1 := (HM5.out.t.mono (fun k hk => .inl hk)).andNew (t1.mono (fun k hk => by omega))
    exact (u1.andThen (tW.mono (fun k hk => .inr hk))).andNew (t2.mono (fun k hk => by omega))
  go_wp2
  refine bodyPost_ret (v := .agg #[.int .i64 a, .int .i64 b, .int .i64 c]) (by simp [results, Tryz.results122, go_sem, q0, q1, q2]) rfl ?_
  rw [HSP.out]
  refine ⟨rfl, HOK.out (w5.setCell ⟨w.heap.size + 1, 2, none⟩ (.int .i64 c)) ((w5.setCell ⟨w.heap.size + 1, 2, none⟩ (.int .i64 c)).setCell ⟨p3, 0, none⟩ (.int .i64 (b + c))) _ (.int .i64 (b + c)) (Touch.ofSet _ _ _ _ rfl) rfl ?_⟩
  iterate 3 refine Touch.thenSet (g := w.heap.size) ?_ _ _ rfl
  exact Touch.refl _ _

theorem new_four (w : World) (o1 o2 o3 o4 : Obj) : ((((w.alloc o1).alloc o2).alloc o3).alloc o4).heap[w.heap.size + 1 + 1 + 1]? = some o4 := by
  have h := heap_alloc_new (((w.alloc o1).alloc o2).alloc o3) o4
  rw [show (((w.alloc o1).alloc o2).alloc o3).heap.size = w.heap.size + 1 + 1 + 1 from by simp] at h
  exact h

def pgWins (zs : List Int) (N fr : Int) (s : Rs) : List Wn × Rs :=
  let m := pgB zs 1 8 [] s
  let q := pgTo (pgWin zs N fr) m.1.toNat (m.2, 0)
  (q.1, q.2.1)

set_option maxRecDepth 100000 in
set_option maxHeartbeats 4000000 in
theorem pgwindows_any (rb : Nat) (ao : Option Addr) (n cap : Nat) (zs : List Int) (s : Rs) (N fr : Int) (w : World) (h : PgAt rb ao n cap zs s w) (hN : 0 ≤ N ∧ N ≤ 255) (hfr : 0 ≤ fr ∧ fr ≤ 255) :
    Calls Tryz.prog 83 #[.pointer (some ⟨rb, 0, none⟩), .int .i64 N, .int .i64 fr] w fun e w' => ∃ ad m c, e = .returned (.slice ad m c) ∧ WinsV w.heap.size (.slice ad m c) (pgWins zs N fr s).1 w' ∧ PgAt rb ao n cap zs (pgWins zs N fr s).2 w' ∧ Touch (· = rb) w w' := by
  have hrb := lt_of_block h.obj
  have HLT : Hid (∀ ad, ao = some ad → 0 < n → ad.block < w.heap.size) := h.held.lt
  have HBY := hide h.held.bytes
  obtain ⟨w0, hw0⟩ : ∃ w0, w0 = ((((w.alloc (.cells #[.pointer (some ⟨rb, 0, none⟩)] 102)).alloc (.cells #[.int .i64 N] 3)).alloc (.cells #[.int .i64 fr] 3)).alloc (.cells #[.int .i64 0] 3)) := ⟨_, rfl⟩
  have hs0 : w0.heap.size = w.heap.size + 4 := by rw [hw0]; simp
  have hA : w0.heap[w.heap.size]? = some (.cells #[.pointer (some ⟨rb, 0, none⟩)] 102 (0, 0)) := by rw [hw0]; exact (Below.heap_alloc _ _ _ (by simp; omega)).trans ((Below.heap_alloc _ _ _ (by simp; omega)).trans ((Below.heap_alloc _ _ _ (by simp)).trans (heap_alloc_new w _)))
  have hB : w0.heap[w.heap.size + 1]? = some (.cells #[.int .i64 N] 3 (0, 0)) := by rw [hw0]; exact (Below.heap_alloc _ _ _ (by simp)).trans ((Below.heap_alloc _ _ _ (by simp)).trans (new_two w _ _))
  have hC : w0.heap[w.heap.size + 1 + 1]? = some (.cells #[.int .i64 fr] 3 (0, 0)) := by rw [hw0]; exact (Below.heap_alloc _ _ _ (by simp)).trans (new_three w _ _ _)
  have hD : w0.heap[w.heap.size + 1 + 1 + 1]? = some (.cells #[.int .i64 0] 3 (0, 0)) := by rw [hw0]; exact new_four w _ _ _ _
  have hT : Touch (· = rb) w w0 := by rw [hw0]; exact (((touch_alloc _ _).andThen (touch_alloc _ _)).andThen (touch_alloc _ _)).andThen (touch_alloc _ _)
  have hP : PgAt rb ao n cap zs s w0 := by rw [hw0]; exact (((h.alloc _).alloc _).alloc _).alloc _
  have HB := hide (pgnum0 rb ao n cap zs s 1 8 _ hP)
  have HSP : Hid (pgWins zs N fr s = ((pgTo (pgWin zs N fr) (pgB zs 1 8 [] s).1.toNat ((pgB zs 1 8 [] s).2, 0)).1, (pgTo (pgWin zs N fr) (pgB zs 1 8 [] s).1.toNat ((pgB zs 1 8 [] s).2, 0)).2.1)) := rfl
  have hm1 := pgB_small zs 1 8 [] s HBY.out
  have hm2 := pgB_le zs 1 8 [] s (by omega)
  generalize (pgB zs 1 8 [] s).1 = M at HSP HB hm1 hm2
  generalize (pgB zs 1 8 [] s).2 = s1 at HSP HB
  have HW := hide hw0
  have H0 := hide (And.intro hA (And.intro hB (And.intro hC (And.intro hD hT))))
  clear h hA hB hC hD hT hP hw0
  go_enter Tryz.func83, Tryz.ntmps83
  go_wp2_with fail
  rw [← HW.out]
  refine HB.out.mono ?_
  rintro e w1 ⟨rfl, hp, ht⟩
  obtain ⟨hA, hB, hC, hD, hT⟩ := H0.out
  have hs1 := ht.size
  have hA1 := (ht.block _ (by omega) (by omega)).trans hA
  have hB1 := (ht.block _ (by omega) (by omega)).trans hB
  have hC1 := (ht.block _ (by omega) (by omega)).trans hC
  have hD1 := (ht.block _ (by omega) (by omega)).trans hD
  have hT1 := hT.andThen ht
  have H1 := hide (And.intro hA1 (And.intro hB1 (And.intro hC1 (And.intro hD1 (And.intro hT1 hp)))))
  clear hA hB hC hD hT hA1 hB1 hC1 hD1 hT1 hp ht H0 HB HW
  have hLI := list_win w.heap.size (w.heap.size + 1) (w.heap.size + 1 + 1 + 1) (w.heap.size + 1 + 1) M.toNat (by omega) (fun i => i = rb ∨ i = w.heap.size + 1 + 1 + 1) w1 (fun b hb => by omega) (fun j l wr => l = (pgTo (pgWin zs N fr) j (s1, 0)).1 ∧ PgAt rb ao n cap zs (pgTo (pgWin zs N fr) j (s1, 0)).2.1 wr ∧ wr.heap[w.heap.size + 1 + 1 + 1]? = some (.cells #[.int .i64 (pgTo (pgWin zs N fr) j (s1, 0)).2.2] 3 (0, 0)) ∧ Touch (fun i => i = rb ∨ i = w.heap.size + 1 + 1 + 1) w1 wr)
    (fun j l wr w' hI t => ⟨hI.1, hI.2.1.new (B := w1.heap.size) (by omega) (fun ad e hn => by have := HLT.out ad e hn; omega) (t.mono (fun k hk => hk.1)), (t.block _ (lt_of_block hI.2.2.1) (fun hk => by have := hk.1; omega)).trans hI.2.2.1, hI.2.2.2.andNew (t.mono (fun k hk => hk.1))⟩)
    (fun j l wr hj hI => (pgwin_lit w.heap.size (w.heap.size + 1) (w.heap.size + 1 + 1 + 1) (w.heap.size + 1 + 1) rb ao n cap zs _ N fr _ wr hI.2.1 hN hfr ((hI.2.2.2.block _ (by omega) (by omega)).trans H1.out.1) ((hI.2.2.2.block _ (by omega) (by omega)).trans H1.out.2.1) hI.2.2.1 ((hI.2.2.2.block _ (by omega) (by omega)).trans H1.out.2.2.1) (by omega) (by omega) (by omega) (fun ad e hn => by have := HLT.out ad e hn; omega)).mono (fun e w' ⟨he, hp, hf, ht⟩ => ⟨_, he, ⟨by rw [hI.1]; rfl, hp, hf, hI.2.2.2.andThen ht⟩, ht⟩))
    ⟨rfl, H1.out.2.2.2.2.2, H1.out.2.2.2.1, Touch.refl _ _⟩
  rw [show ((M.toNat : Nat) : Int) = M from by omega] at hLI
  have HLI := hide hLI
  clear hLI
  go_wp2_with fail
  refine HLI.out.mono ?_
  rintro e w5 ⟨v, l, rfl, ⟨hl, hp, hf, ht⟩, hll, hV⟩
  obtain ⟨ad, cv, rfl⟩ := own_slice hV
  have HE : Hid (WinsV w.heap.size (.slice ad l.length cv) (pgWins zs N fr s).1 w5 ∧ PgAt rb ao n cap zs (pgWins zs N fr s).2 w5 ∧ Touch (· = rb) w w5) := by
    rw [HSP.out]
    refine ⟨?_, hp, Touch.trans (T := fun i => i = rb ∨ i = w.heap.size + 1 + 1 + 1) H1.out.2.2.2.2.1 ht (fun i hi => by omega)⟩
    rw [← hl]
    exact own_low hV (by omega)
  clear hl hp hf ht hll hV HLI H1
  go_wp2
  go_ret
  exact ⟨ad, l.length, cv, rfl, HE.out⟩
end Go.Proofs.YtnjlbgolnbdkaaaGreat
