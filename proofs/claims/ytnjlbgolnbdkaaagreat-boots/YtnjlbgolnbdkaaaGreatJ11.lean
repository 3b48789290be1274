/- Texts of the proof of Boots, one behind the other. -/
import Derived.Test.YtnjlbgolnbdkaaaGreatJ10
/- The program's lists: so many things of a kind, into memory of their own. -/
namespace Go.Proofs.YtnjlbgolnbdkaaaGreat
open Go.RowKit

set_option maxRecDepth 100000 in
set_option maxHeartbeats 2000000 in
theorem list_ins (p1 p2 : Nat) (many : Nat) (hm : many ≤ 255) (S : Nat → Prop) (w : World) (hS : ∀ b, S b → b < w.heap.size) (I : Nat → List (Int × Int) → World → Prop)
    (hkeep : ∀ j l wr w', I j l wr → Touch (fun b => w.heap.size ≤ b ∧ OfType wr b (· = 210)) wr w' → I j l w')
    (hstep : ∀ j l wr, j < many → I j l wr → Calls Tryz.prog 164 #[.pointer (some ⟨p1, 0, none⟩), .pointer (some ⟨p2, 0, none⟩)] wr fun e w' => ∃ (a b : Int), e = .returned (.agg #[.int .i64 a, .int .i64 b]) ∧ I (j + 1) (l ++ [(a, b)]) w' ∧ Touch S wr w')
    (h0 : I 0 [] w) : Calls Tryz.prog 163 #[.int .i64 many, .func (.func 164) #[] #[.pointer (some ⟨p1, 0, none⟩), .pointer (some ⟨p2, 0, none⟩)]] w fun e w' => ∃ v l, e = .returned v ∧ I many l w' ∧ l.length = many ∧ w'.ownsRow w.heap.size 210 2 v l.length (insCells l) := by
  obtain ⟨i0, hi, hz0, hz1, hz2⟩ := info_parts Tryz.info210
  have HK := hide hkeep
  have HS := hide hS
  have HST := hide hstep
  have H0 := hide h0
  clear hkeep hS hstep h0
  go_enter Tryz.func163, Tryz.ntmps163
  go_wp2
  go_loopw [5, 7] (fun v i wr => ∃ (k : Nat) (l : List (Int × Int)), k ≤ many ∧ i = .int .i64 k ∧ l.length = k ∧ I k l wr ∧ w.heap.size ≤ wr.heap.size ∧ wr.ownsRow w.heap.size 210 2 v l.length (insCells l)) (fun _ i _ => many - (intOf i).toNat)
  case atStart => exact ⟨0, [], by omega, rfl, rfl, H0.out, Nat.le_refl _, World.ownsRow_nil _ _ _ _⟩
  case round =>
    obtain ⟨k, l, hk, rfl, hl, hI, hsz, hV⟩ := hrel
    by_cases hlt : k < many
    · have HB := hide (HST.out k l wr hlt hI)
      have HV := hide hV
      have HLL := hide hl
      clear hI hV hl H0
      go_wp2_with fail
      refine HB.out.mono ?_
      rintro e wB ⟨a, b, rfl, hIB, htB⟩
      have hsB := htB.size
      have HVB : Hid (wB.ownsRow w.heap.size 210 2 u5 l.length (insCells l)) := own_keep HV.out (fun b e => htB.block b (World.ownsRow.lt HV.out b e).2 (fun hs => by have := (World.ownsRow.lt HV.out b e).1; have := HS.out b hs; omega))
      have HIB := hide hIB
      clear hIB htB HB
      go_wp2_with (at_builtin; go_must (refine wpList_append_lies _ rfl (.tmp 9) (.tmp 12) 162 rfl w.heap.size 210 i0 _ 2 16 Tryz.underlying162 hi hz0 hz1 hz2 rfl (by decide) u5 l.length (insCells l) rfl (HVB.out.alloc _) ⟨wB.heap.size, 0, none⟩ 1 1 #[.int .i64 a, .int .i64 b].toList (by rfl) rfl (news_at wB #[.int .i64 a, .int .i64 b] 210) (by intro u hu; simp at hu; rcases hu with rfl | rfl <;> rfl) (by omega) (by have := HLL.out; unfold maxLen; omega) (by have := HLL.out; omega) (by simp; omega) _ rfl ?_))
      intro g c5 w5 hown5 hgrow5 _ _
      have hg5 := grown_alloc hgrow5
      have hs5 := hg5.size
      have t5 : Touch (fun b => w.heap.size ≤ b ∧ OfType wB b (· = 210)) wB w5 := Touch.ofGrown hg5 (fun b e => .inl ⟨(World.ownsRow.lt HVB.out b e).1, by obtain ⟨cur, hc⟩ := own_of HVB.out e; exact ⟨cur, 210, rfl, hc⟩⟩)
      have H5 := hide (And.intro (HK.out _ _ _ _ HIB.out t5) hown5)
      clear hown5 hgrow5 hg5 t5
      go_wp2
      go_roundw
      case rel =>
        refine ⟨k + 1, l ++ [(a, b)], by omega, by go_num, by rw [List.length_append, HLL.out]; rfl, H5.out.1, by omega, ?_⟩
        rw [insCells_snoc, List.length_append]
        exact H5.out.2
      case measure => simp [intOf]; omega
    · obtain rfl : k = many := by omega
      have HF := hide (And.intro hI (And.intro hl hV))
      clear hI hl hV H0 HST HK
      go_wp2
      go_ret
      exact ⟨u5, l, rfl, HF.out⟩

set_option maxRecDepth 100000 in
set_option maxHeartbeats 2000000 in
theorem list_proc (rb : Nat) (many : Nat) (hm : many ≤ 255) (S : Nat → Prop) (w : World) (hS : ∀ b, S b → b < w.heap.size) (I : Nat → List (Pr × Value) → World → Prop)
    (hkeep : ∀ j l wr w', I j l wr → Touch (fun b => w.heap.size ≤ b ∧ OfType wr b (· = 190)) wr w' → I j l w')
    (hstep : ∀ j l wr, j < many → I j l wr → Calls Tryz.prog 120 #[.pointer (some ⟨rb, 0, none⟩)] wr fun e w' => ∃ (p : Pr) (ad : Option Addr) (m c : Nat), e = .returned (.agg #[.int .i64 p.prio, .slice ad m c]) ∧ I (j + 1) (l ++ [(p, .slice ad m c)]) w' ∧ Touch S wr w')
    (h0 : I 0 [] w) : Calls Tryz.prog 119 #[.int .i64 many, .func (.func 120) #[.pointer (some ⟨rb, 0, none⟩)] #[]] w fun e w' => ∃ v l, e = .returned v ∧ I many l w' ∧ l.length = many ∧ w'.ownsRow w.heap.size 190 2 v l.length (procCells l) := by
  obtain ⟨i0, hi, hz0, hz1, hz2⟩ := info_parts Tryz.info190
  have HK := hide hkeep
  have HS := hide hS
  have HST := hide hstep
  have H0 := hide h0
  clear hkeep hS hstep h0
  go_enter Tryz.func119, Tryz.ntmps119
  go_wp2
  go_loopw [5, 7] (fun v i wr => ∃ (k : Nat) (l : List (Pr × Value)), k ≤ many ∧ i = .int .i64 k ∧ l.length = k ∧ I k l wr ∧ w.heap.size ≤ wr.heap.size ∧ wr.ownsRow w.heap.size 190 2 v l.length (procCells l)) (fun _ i _ => many - (intOf i).toNat)
  case atStart => exact ⟨0, [], by omega, rfl, rfl, H0.out, Nat.le_refl _, World.ownsRow_nil _ _ _ _⟩
  case round =>
    obtain ⟨k, l, hk, rfl, hl, hI, hsz, hV⟩ := hrel
    by_cases hlt : k < many
    · have HB := hide (HST.out k l wr hlt hI)
      have HV := hide hV
      have HLL := hide hl
      clear hI hV hl H0
      go_wp2_with fail
      refine HB.out.mono ?_
      rintro e wB ⟨p, ad, m, c, rfl, hIB, htB⟩
      have hsB := htB.size
      have HVB : Hid (wB.ownsRow w.heap.size 190 2 u5 l.length (procCells l)) := own_keep HV.out (fun b e => htB.block b (World.ownsRow.lt HV.out b e).2 (fun hs => by have := (World.ownsRow.lt HV.out b e).1; have := HS.out b hs; omega))
      have HIB := hide hIB
      clear hIB htB HB
      go_wp2_with (at_builtin; go_must (refine wpList_append_lies _ rfl (.tmp 9) (.tmp 12) 122 rfl w.heap.size 190 i0 _ 2 32 Tryz.underlying122 hi hz0 hz1 hz2 rfl (by decide) u5 l.length (procCells l) rfl (HVB.out.alloc _) ⟨wB.heap.size, 0, none⟩ 1 1 #[.int .i64 p.prio, .slice ad m c].toList (by rfl) rfl (news_at wB #[.int .i64 p.prio, .slice ad m c] 190) (by intro u hu; simp at hu; rcases hu with rfl | rfl <;> rfl) (by omega) (by have := HLL.out; unfold maxLen; omega) (by have := HLL.out; omega) (by simp; omega) _ rfl ?_))
      intro g c5 w5 hown5 hgrow5 _ _
      have hg5 := grown_alloc hgrow5
      have hs5 := hg5.size
      have t5 : Touch (fun b => w.heap.size ≤ b ∧ OfType wB b (· = 190)) wB w5 := Touch.ofGrown hg5 (fun b e => .inl ⟨(World.ownsRow.lt HVB.out b e).1, by obtain ⟨cur, hc⟩ := own_of HVB.out e; exact ⟨cur, 190, rfl, hc⟩⟩)
      have H5 := hide (And.intro (HK.out _ _ _ _ HIB.out t5) hown5)
      clear hown5 hgrow5 hg5 t5
      go_wp2
      go_roundw
      case rel =>
        refine ⟨k + 1, l ++ [(p, .slice ad m c)], by omega, by go_num, by rw [List.length_append, HLL.out]; rfl, H5.out.1, by omega, ?_⟩
        rw [procCells_snoc, List.length_append]
        exact H5.out.2
      case measure => simp [intOf]; omega
    · obtain rfl : k = many := by omega
      have HF := hide (And.intro hI (And.intro hl hV))
      clear hI hl hV H0 HST HK
      go_wp2
      go_ret
      exact ⟨u5, l, rfl, HF.out⟩

set_option maxRecDepth 100000 in
set_option maxHeartbeats 2000000 in
theorem list_part (rb : Nat) (many : Nat) (hm : many ≤ 255) (S : Nat → Prop) (w : World) (hS : ∀ b, S b → b < w.heap.size) (I : Nat → List (Pt × Value) → World → Prop)
    (hkeep : ∀ j l wr w', I j l wr → Touch (fun b => w.heap.size ≤ b ∧ OfType wr b (· = 124)) wr w' → I j l w')
    (hstep : ∀ j l wr, j < many → I j l wr → Calls Tryz.prog 82 #[.pointer (some ⟨rb, 0, none⟩)] wr fun e w' => ∃ (p : Pt) (ad : Option Addr) (m c : Nat), e = .returned (.agg #[.bool p.sys, .int .i64 p.words, .int .i64 p.limit, .int .i64 (p.acts.getD 0 0), .int .i64 (p.acts.getD 1 0), .int .i64 (p.acts.getD 2 0), .int .i64 (p.acts.getD 3 0), .int .i64 (p.acts.getD 4 0), .int .i64 (p.acts.getD 5 0), .slice ad m c]) ∧ I (j + 1) (l ++ [(p, .slice ad m c)]) w' ∧ Touch S wr w')
    (h0 : I 0 [] w) : Calls Tryz.prog 81 #[.int .i64 many, .func (.func 82) #[.pointer (some ⟨rb, 0, none⟩)] #[]] w fun e w' => ∃ v l, e = .returned v ∧ I many l w' ∧ l.length = many ∧ w'.ownsRow w.heap.size 124 10 v l.length (ptsCells l) := by
  obtain ⟨i0, hi, hz0, hz1, hz2⟩ := info_parts Tryz.info124
  have HK := hide hkeep
  have HS := hide hS
  have HST := hide hstep
  have H0 := hide h0
  clear hkeep hS hstep h0
  go_enter Tryz.func81, Tryz.ntmps81
  go_wp2
  go_loopw [5, 7] (fun v i wr => ∃ (k : Nat) (l : List (Pt × Value)), k ≤ many ∧ i = .int .i64 k ∧ l.length = k ∧ I k l wr ∧ w.heap.size ≤ wr.heap.size ∧ wr.ownsRow w.heap.size 124 10 v l.length (ptsCells l)) (fun _ i _ => many - (intOf i).toNat)
  case atStart => exact ⟨0, [], by omega, rfl, rfl, H0.out, Nat.le_refl _, World.ownsRow_nil _ _ _ _⟩
  case round =>
    obtain ⟨k, l, hk, rfl, hl, hI, hsz, hV⟩ := hrel
    by_cases hlt : k < many
    · have HB := hide (HST.out k l wr hlt hI)
      have HV := hide hV
      have HLL := hide hl
      clear hI hV hl H0
      go_wp2_with fail
      refine HB.out.mono ?_
      rintro e wB ⟨p, ad, m, c, rfl, hIB, htB⟩
      have hsB := htB.size
      have HVB : Hid (wB.ownsRow w.heap.size 124 10 u5 l.length (ptsCells l)) := own_keep HV.out (fun b e => htB.block b (World.ownsRow.lt HV.out b e).2 (fun hs => by have := (World.ownsRow.lt HV.out b e).1; have := HS.out b hs; omega))
      have HIB := hide hIB
      clear hIB htB HB
      go_wp2_with (at_builtin; go_must (refine wpList_append_lies _ rfl (.tmp 9) (.tmp 12) 67 rfl w.heap.size 124 i0 _ 10 96 Tryz.underlying67 hi hz0 hz1 hz2 rfl (by decide) u5 l.length (ptsCells l) rfl (HVB.out.alloc _) ⟨wB.heap.size, 0, none⟩ 1 1 #[.bool p.sys, .int .i64 p.words, .int .i64 p.limit, .int .i64 (p.acts.getD 0 0), .int .i64 (p.acts.getD 1 0), .int .i64 (p.acts.getD 2 0), .int .i64 (p.acts.getD 3 0), .int .i64 (p.acts.getD 4 0), .int .i64 (p.acts.getD 5 0), .slice ad m c].toList (by rfl) rfl (news_at wB #[.bool p.sys, .int .i64 p.words, .int .i64 p.limit, .int .i64 (p.acts.getD 0 0), .int .i64 (p.acts.getD 1 0), .int .i64 (p.acts.getD 2 0), .int .i64 (p.acts.getD 3 0), .int .i64 (p.acts.getD 4 0), .int .i64 (p.acts.getD 5 0), .slice ad m c] 124) (by intro u hu; simp at hu; rcases hu with rfl | rfl | rfl | rfl | rfl | rfl | rfl | rfl | rfl | rfl <;> rfl) (by omega) (by have := HLL.out; unfold maxLen; omega) (by have := HLL.out; omega) (by simp; omega) _ rfl ?_))
      intro g c5 w5 hown5 hgrow5 _ _
      have hg5 := grown_alloc hgrow5
      have hs5 := hg5.size
      have t5 : Touch (fun b => w.heap.size ≤ b ∧ OfType wB b (· = 124)) wB w5 := Touch.ofGrown hg5 (fun b e => .inl ⟨(World.ownsRow.lt HVB.out b e).1, by obtain ⟨cur, hc⟩ := own_of HVB.out e; exact ⟨cur, 124, rfl, hc⟩⟩)
      have H5 := hide (And.intro (HK.out _ _ _ _ HIB.out t5) hown5)
      clear hown5 hgrow5 hg5 t5
      go_wp2
      go_roundw
      case rel =>
        refine ⟨k + 1, l ++ [(p, .slice ad m c)], by omega, by go_num, by rw [List.length_append, HLL.out]; rfl, H5.out.1, by omega, ?_⟩
        rw [ptsCells_snoc, List.length_append]
        exact H5.out.2
      case measure => simp [intOf]; omega
    · obtain rfl : k = many := by omega
      have HF := hide (And.intro hI (And.intro hl hV))
      clear hI hl hV H0 HST HK
      go_wp2
      go_ret
      exact ⟨u5, l, rfl, HF.out⟩

set_option maxRecDepth 100000 in
set_option maxHeartbeats 2000000 in
theorem list_win (p1 p2 p3 p4 : Nat) (many : Nat) (hm : many ≤ 255) (S : Nat → Prop) (w : World) (hS : ∀ b, S b → b < w.heap.size) (I : Nat → List (Wn) → World → Prop)
    (hkeep : ∀ j l wr w', I j l wr → Touch (fun b => w.heap.size ≤ b ∧ OfType wr b (· = 131)) wr w' → I j l w')
    (hstep : ∀ j l wr, j < many → I j l wr → Calls Tryz.prog 122 #[.pointer (some ⟨p1, 0, none⟩), .pointer (some ⟨p2, 0, none⟩), .pointer (some ⟨p3, 0, none⟩), .pointer (some ⟨p4, 0, none⟩)] wr fun e w' => ∃ (p : Wn), e = .returned (.agg #[.int .i64 p.part, .int .i64 p.first, .int .i64 p.many]) ∧ I (j + 1) (l ++ [p]) w' ∧ Touch S wr w')
    (h0 : I 0 [] w) : Calls Tryz.prog 121 #[.int .i64 many, .func (.func 122) #[] #[.pointer (some ⟨p1, 0, none⟩), .pointer (some ⟨p2, 0, none⟩), .pointer (some ⟨p3, 0, none⟩), .pointer (some ⟨p4, 0, none⟩)]] w fun e w' => ∃ v l, e = .returned v ∧ I many l w' ∧ l.length = many ∧ w'.ownsRow w.heap.size 131 3 v l.length (winCells l) := by
  obtain ⟨i0, hi, hz0, hz1, hz2⟩ := info_parts Tryz.info131
  have HK := hide hkeep
  have HS := hide hS
  have HST := hide hstep
  have H0 := hide h0
  clear hkeep hS hstep h0
  go_enter Tryz.func121, Tryz.ntmps121
  go_wp2
  go_loopw [5, 7] (fun v i wr => ∃ (k : Nat) (l : List (Wn)), k ≤ many ∧ i = .int .i64 k ∧ l.length = k ∧ I k l wr ∧ w.heap.size ≤ wr.heap.size ∧ wr.ownsRow w.heap.size 131 3 v l.length (winCells l)) (fun _ i _ => many - (intOf i).toNat)
  case atStart => exact ⟨0, [], by omega, rfl, rfl, H0.out, Nat.le_refl _, World.ownsRow_nil _ _ _ _⟩
  case round =>
    obtain ⟨k, l, hk, rfl, hl, hI, hsz, hV⟩ := hrel
    by_cases hlt : k < many
    · have HB := hide (HST.out k l wr hlt hI)
      have HV := hide hV
      have HLL := hide hl
      clear hI hV hl H0
      go_wp2_with fail
      refine HB.out.mono ?_
      rintro e wB ⟨p, rfl, hIB, htB⟩
      have hsB := htB.size
      have HVB : Hid (wB.ownsRow w.heap.size 131 3 u5 l.length (winCells l)) := own_keep HV.out (fun b e => htB.block b (World.ownsRow.lt HV.out b e).2 (fun hs => by have := (World.ownsRow.lt HV.out b e).1; have := HS.out b hs; omega))
      have HIB := hide hIB
      clear hIB htB HB
      go_wp2_with (at_builtin; go_must (refine wpList_append_lies _ rfl (.tmp 9) (.tmp 12) 68 rfl w.heap.size 131 i0 _ 3 24 Tryz.underlying68 hi hz0 hz1 hz2 rfl (by decide) u5 l.length (winCells l) rfl (HVB.out.alloc _) ⟨wB.heap.size, 0, none⟩ 1 1 #[.int .i64 p.part, .int .i64 p.first, .int .i64 p.many].toList (by rfl) rfl (news_at wB #[.int .i64 p.part, .int .i64 p.first, .int .i64 p.many] 131) (by intro u hu; simp at hu; rcases hu with rfl | rfl | rfl <;> rfl) (by omega) (by have := HLL.out; unfold maxLen; omega) (by have := HLL.out; omega) (by simp; omega) _ rfl ?_))
      intro g c5 w5 hown5 hgrow5 _ _
      have hg5 := grown_alloc hgrow5
      have hs5 := hg5.size
      have t5 : Touch (fun b => w.heap.size ≤ b ∧ OfType wB b (· = 131)) wB w5 := Touch.ofGrown hg5 (fun b e => .inl ⟨(World.ownsRow.lt HVB.out b e).1, by obtain ⟨cur, hc⟩ := own_of HVB.out e; exact ⟨cur, 131, rfl, hc⟩⟩)
      have H5 := hide (And.intro (HK.out _ _ _ _ HIB.out t5) hown5)
      clear hown5 hgrow5 hg5 t5
      go_wp2
      go_roundw
      case rel =>
        refine ⟨k + 1, l ++ [p], by omega, by go_num, by rw [List.length_append, HLL.out]; rfl, H5.out.1, by omega, ?_⟩
        rw [winCells_snoc, List.length_append]
        exact H5.out.2
      case measure => simp [intOf]; omega
    · obtain rfl : k = many := by omega
      have HF := hide (And.intro hI (And.intro hl hV))
      clear hI hl hV H0 HST HK
      go_wp2
      go_ret
      exact ⟨u5, l, rfl, HF.out⟩

set_option maxRecDepth 100000 in
set_option maxHeartbeats 2000000 in
theorem list_chan (p1 p2 : Nat) (many : Nat) (hm : many ≤ 255) (S : Nat → Prop) (w : World) (hS : ∀ b, S b → b < w.heap.size) (I : Nat → List (Ch) → World → Prop)
    (hkeep : ∀ j l wr w', I j l wr → Touch (fun b => w.heap.size ≤ b ∧ OfType wr b (· = 142)) wr w' → I j l w')
    (hstep : ∀ j l wr, j < many → I j l wr → Calls Tryz.prog 85 #[.pointer (some ⟨p1, 0, none⟩), .pointer (some ⟨p2, 0, none⟩)] wr fun e w' => ∃ (p : Ch), e = .returned (.agg #[.int .i64 p.src, .int .i64 p.dst, .int .i64 p.depth]) ∧ I (j + 1) (l ++ [p]) w' ∧ Touch S wr w')
    (h0 : I 0 [] w) : Calls Tryz.prog 84 #[.int .i64 many, .func (.func 85) #[] #[.pointer (some ⟨p1, 0, none⟩), .pointer (some ⟨p2, 0, none⟩)]] w fun e w' => ∃ v l, e = .returned v ∧ I many l w' ∧ l.length = many ∧ w'.ownsRow w.heap.size 142 3 v l.length (chanCells l) := by
  obtain ⟨i0, hi, hz0, hz1, hz2⟩ := info_parts Tryz.info142
  have HK := hide hkeep
  have HS := hide hS
  have HST := hide hstep
  have H0 := hide h0
  clear hkeep hS hstep h0
  go_enter Tryz.func84, Tryz.ntmps84
  go_wp2
  go_loopw [5, 7] (fun v i wr => ∃ (k : Nat) (l : List (Ch)), k ≤ many ∧ i = .int .i64 k ∧ l.length = k ∧ I k l wr ∧ w.heap.size ≤ wr.heap.size ∧ wr.ownsRow w.heap.size 142 3 v l.length (chanCells l)) (fun _ i _ => many - (intOf i).toNat)
  case atStart => exact ⟨0, [], by omega, rfl, rfl, H0.out, Nat.le_refl _, World.ownsRow_nil _ _ _ _⟩
  case round =>
    obtain ⟨k, l, hk, rfl, hl, hI, hsz, hV⟩ := hrel
    by_cases hlt : k < many
    · have HB := hide (HST.out k l wr hlt hI)
      have HV := hide hV
      have HLL := hide hl
      clear hI hV hl H0
      go_wp2_with fail
      refine HB.out.mono ?_
      rintro e wB ⟨p, rfl, hIB, htB⟩
      have hsB := htB.size
      have HVB : Hid (wB.ownsRow w.heap.size 142 3 u5 l.length (chanCells l)) := own_keep HV.out (fun b e => htB.block b (World.ownsRow.lt HV.out b e).2 (fun hs => by have := (World.ownsRow.lt HV.out b e).1; have := HS.out b hs; omega))
      have HIB := hide hIB
      clear hIB htB HB
      go_wp2_with (at_builtin; go_must (refine wpList_append_lies _ rfl (.tmp 9) (.tmp 12) 69 rfl w.heap.size 142 i0 _ 3 24 Tryz.underlying69 hi hz0 hz1 hz2 rfl (by decide) u5 l.length (chanCells l) rfl (HVB.out.alloc _) ⟨wB.heap.size, 0, none⟩ 1 1 #[.int .i64 p.src, .int .i64 p.dst, .int .i64 p.depth].toList (by rfl) rfl (news_at wB #[.int .i64 p.src, .int .i64 p.dst, .int .i64 p.depth] 142) (by intro u hu; simp at hu; rcases hu with rfl | rfl | rfl <;> rfl) (by omega) (by have := HLL.out; unfold maxLen; omega) (by have := HLL.out; omega) (by simp; omega) _ rfl ?_))
      intro g c5 w5 hown5 hgrow5 _ _
      have hg5 := grown_alloc hgrow5
      have hs5 := hg5.size
      have t5 : Touch (fun b => w.heap.size ≤ b ∧ OfType wB b (· = 142)) wB w5 := Touch.ofGrown hg5 (fun b e => .inl ⟨(World.ownsRow.lt HVB.out b e).1, by obtain ⟨cur, hc⟩ := own_of HVB.out e; exact ⟨cur, 142, rfl, hc⟩⟩)
      have H5 := hide (And.intro (HK.out _ _ _ _ HIB.out t5) hown5)
      clear hown5 hgrow5 hg5 t5
      go_wp2
      go_roundw
      case rel =>
        refine ⟨k + 1, l ++ [p], by omega, by go_num, by rw [List.length_append, HLL.out]; rfl, H5.out.1, by omega, ?_⟩
        rw [chanCells_snoc, List.length_append]
        exact H5.out.2
      case measure => simp [intOf]; omega
    · obtain rfl : k = many := by omega
      have HF := hide (And.intro hI (And.intro hl hV))
      clear hI hl hV H0 HST HK
      go_wp2
      go_ret
      exact ⟨u5, l, rfl, HF.out⟩
end Go.Proofs.YtnjlbgolnbdkaaaGreat
