/- The hands: keepBytes. -/
import Derived.Test.YtnjlbgolnbdkaaaHd
namespace Go.Proofs.Ytnjlbgolnbdkaaa
open Go.RowKit

def ByteC (w : World) (k : Kept) : Prop := ∃ b n cap, k.v = .slice (some ⟨b, 0, none⟩) n cap ∧ n ≤ 1000000 ∧ (0 ≤ k.mark ∧ k.mark < 256) ∧ Row w b 0 (List.replicate n k.mark)
theorem byteC_local : Local ByteC := by
  intro w w' k hs ⟨b, n, cap, hv, hn, hm, hr⟩
  refine ⟨b, n, cap, hv, hn, hm, ?_⟩
  have := hs b (by rw [hv]; rfl)
  intro i hi
  rw [World.cell?_of_block (w := w) this]
  exact hr i hi
def upd (vs : Nat → Value) (vB vM : Value) : Nat → Value := fun i => if i = 3 then vB else if i = 4 then vM else vs i

/- a list that is being written full, and one longer each time -/
theorem own_mark {w : World} {g : Nat} {cur : Array Value} {m : Int} {n base : Nat} (hb : w.heap[g]? = some (.cells cur 5 (0, 0))) (hs : cur.size = n) (hm : ∀ j, j < n → cur[j]? = some (.int .u8 m)) (hbase : base ≤ g) (hn : n ≤ maxLen) :
    w.ownsRow base 5 1 (.slice (some ⟨g, 0, none⟩) n n) n (vals (List.replicate n m)) := by
  refine ⟨by simp [vals], .inr ⟨g, n, cur, rfl, hbase, hb, Nat.le_refl _, hn, by simp [hs], ?_⟩⟩
  rw [List.take_of_length_le (by simp [hs])]
  apply List.ext_getElem?
  intro j
  by_cases hj : j < n
  · have := hm j hj
    rw [Array.getElem?_toList, this]
    simp [vals, hj]
  · rw [List.getElem?_eq_none (by simp [hs]; omega), List.getElem?_eq_none (by simp [vals]; omega)]

theorem vals_snoc (N : Nat) (m : Int) : vals (List.replicate N m) ++ [.int .u8 m] = vals (List.replicate (N + 1) m) := by
  rw [List.replicate_succ', vals_append]
  rfl
theorem Fam.longer {w w1 : World} {o : Obj} {L : Nat → Nat} {base gl cl N : Nat} {m : Int} {vB vM : Value} {A M : List Kept} (h : Fam 24 5 (Value.int .u8) ByteC 0 L base vB vM A M w) (hL : L gl = 3)
    (hl : ∀ k ∈ A, k.v.ownBlock = some gl → k.mark = m ∧ ∃ nn cc, k.v = .slice (some ⟨gl, 0, none⟩) nn cc ∧ nn ≤ N) (hown : w1.ownsRow base 5 1 (.slice (some ⟨gl, 0, none⟩) (N + 1) cl) (N + 1) (vals (List.replicate (N + 1) m))) (hg : (w.alloc o).grownBy w1 (some gl)) :
    Fam 24 5 (Value.int .u8) ByteC 0 L base vB vM A M w1 := by
  have t : Touch (· = gl) w w1 := Touch.ofGrown (grown_alloc hg) (fun k e => .inl (by simpa using e.symm))
  have far : ∀ b, b < w.heap.size → b ≠ gl → w1.heap[b]? = w.heap[b]? := fun b hb hne => t.block b hb hne
  refine ⟨own_same h.own fun b e => far b (h.own.lt b e).2 (fun hb => by have := h.lab b e; rw [hb, hL] at this; omega), h.lab, own_same h.ownM fun b e => far b (h.ownM.lt b e).2 (fun hb => by have := h.labM b e; rw [hb, hL] at this; omega), h.labM, ?_⟩
  intro k hk
  obtain ⟨h1, h2⟩ := h.kept k hk
  refine ⟨fun b e => ⟨(h1 b e).1, (h1 b e).2.1, Nat.lt_of_lt_of_le (h1 b e).2.2 t.size⟩, ?_⟩
  by_cases hgl : k.v.ownBlock = some gl
  · obtain ⟨hmk, nn, cc, hv, hnn⟩ := hl k hk hgl
    obtain ⟨b, n, cap, hv2, hn, hmb, hr⟩ := h2
    rw [hv] at hv2
    simp at hv2
    obtain ⟨rfl, rfl, rfl⟩ := hv2
    refine ⟨gl, nn, cc, hv, hn, hmb, ?_⟩
    intro i hi
    have hi' : i < nn := by simpa using hi
    have := row_of_own hown i (by simp; omega)
    rw [this]
    simp [hmk, hi', show i < N + 1 from by omega]
  · exact byteC_local w w1 k (fun b e => far b (h1 b e).2.2 (fun hb => hgl (by rw [e, hb]))) h2

set_option maxRecDepth 100000 in
set_option maxHeartbeats 2000000 in
theorem keep_any (hb g : Nat) (n : Int) (vs : Nat → Value) (L : Nat → Nat) (base : Nat) (A : List Kept) (cs : Array Value) (w : World)
    (hB : w.heap[hb]? = some (.cells (handCells (.slice none 0 0) (.slice none 0 0) n vs) 41 (0, 0))) (hLb : L hb = 0) (hF : Fam 24 5 (Value.int .u8) ByteC 0 L base (vs 3) (vs 4) A A w)
    (hX : w.heap[g]? = some (.cells cs 5 (0, 0))) (hcs : cs.size = 16) (hLg : L g = 3) (hbg : base ≤ g) (hnew : ∀ k ∈ A, k.v.ownBlock ≠ some g) (h0 : 0 ≤ n) (h1 : n ≤ 1000) (hA : A.length ≤ 1000) :
    Calls Try.prog 19 #[.pointer (some ⟨hb, 0, none⟩), .slice (some ⟨g, 0, none⟩) 16 16] w fun e w' => ∃ vB vM L' A', e = .returned (.tuple #[]) ∧ w'.heap[hb]? = some (.cells (handCells (.slice none 0 0) (.slice none 0 0) (n + 1) (upd vs vB vM)) 41 (0, 0)) ∧
      (∀ k, k < w.heap.size → L' k = L k) ∧ Fam 24 5 (Value.int .u8) ByteC 0 L' base vB vM A' A' w' ∧ A'.length = A.length + 4 ∧ Touch (fun k => L k ≤ 3) w w' := by
  obtain ⟨i0, hi, hz0, hz1, hz2⟩ := info_parts Try.info5
  obtain ⟨j0, hj, hj0, hj1, hj2⟩ := info_parts Try.info24
  have HB := hide hB
  have HF := hide hF
  have HX := hide hX
  have HNEW := hide hnew
  have hne : ¬ g = hb := by intro h; rw [h] at hLg; omega
  have hbw : hb < w.heap.size := lt_of_block hB
  have hbs : base ≤ w.heap.size := by have := lt_of_block hX; omega
  clear hB hF hX hnew
  go_enter Try.func19, Try.ntmps19
  go_wp2_with fail
  refine (mark_any hb _ _ n vs w HB.out h0 (by omega)).mono ?_
  rintro e w1 ⟨rfl, hB1, hT1⟩
  have hmb : 0 ≤ (-77000000 - (n + 1)) % 256 ∧ (-77000000 - (n + 1)) % 256 < 256 := by omega
  have HX1 : Hid (w1.heap[g]? = some (.cells cs 5 (0, 0))) := (hT1.block g (lt_of_block HX.out) hne).trans HX.out
  have HB1 := hide hB1
  have HT1 := hide hT1
  clear hB1 hT1
  go_wp2
  generalize (-77000000 - (n + 1)) % 256 = m at hmb ⊢
  go_loopw [5] (fun i wr => ∃ (k : Nat) (cur : Array Value), k ≤ 16 ∧ i = .int .i64 k ∧ cur.size = 16 ∧ wr.heap[g]? = some (.cells cur 5 (0, 0)) ∧ (∀ j, j < k → cur[j]? = some (.int .u8 m)) ∧ Touch (· = g) w1 wr) (fun i _ => 16 - (intOf i).toNat)
  case atStart => exact ⟨0, cs, by omega, rfl, hcs, HX1.out, fun j hj => by omega, Touch.refl _ _⟩
  case round =>
    obtain ⟨k, cur, hk, rfl, hcur, hX2, hm, hT⟩ := hrel
    have HT := hide hT
    have HM := hide hm
    clear hT hm
    by_cases hlt : k < 16
    · have cc : wr.cell? ⟨g, k, none⟩ = some (cur[k]'(by omega)) := by rw [cell_of_row _ _ _ _ _ _ hX2]; simp [hcur, hlt]
      have ff := free_of_block hX2 k
      have HQ := hide hX2
      clear hX2
      go_wp2
      go_roundw
      case rel =>
        refine ⟨k + 1, _, by omega, by go_num, by simp [hcur], block_set HQ.out k _, ?_, Touch.trans (T := (· = g)) HT.out (Touch.ofSet wr g k _ rfl) (fun i hi => .inl hi)⟩
        intro j hj
        rw [Array.getElem?_setIfInBounds]
        by_cases hjk : k = j
        · rw [if_pos hjk, if_pos (by omega)]
        · rw [if_neg hjk]; exact HM.out j (by omega)
      case measure => simp [intOf]; omega
    · have HO : Hid (wr.ownsRow base 5 1 (.slice (some ⟨g, 0, none⟩) 16 16) 16 (vals (List.replicate 16 m))) := own_mark hX2 hcur (fun j hj => HM.out j (by omega)) hbg (by decide)
      have HTW : Hid (Touch (fun k => L k ≤ 3) w wr) := Touch.trans (T := (· = g)) (HT1.out.mono (fun k hk => by rw [hk, hLb]; omega)) HT.out (fun i hi => .inl (by rw [hi, hLg]; omega))
      have HB2 : Hid (wr.heap[hb]? = some (.cells (handCells (.slice none 0 0) (.slice none 0 0) (n + 1) vs) 41 (0, 0))) := (HT.out.block hb (lt_of_block HB1.out) (fun h => hne h.symm)).trans HB1.out
      have HF2 : Hid (Fam 24 5 (Value.int .u8) ByteC 0 L base (vs 3) (vs 4) A A wr) := by
        have HTT : Touch (fun k => k = hb ∨ k = g) w wr := Touch.trans (T := (· = g)) (HT1.out.mono (fun k hk => .inl hk)) HT.out (fun i hi => .inl (.inr hi))
        refine HF.out.touch' byteC_local HTT (fun k hk hs => ?_)
        rcases hs with rfl | rfl
        · refine ⟨by omega, fun e he hb => ?_⟩
          have := ((HF.out.kept e he).1 _ hb).1
          omega
        · exact ⟨by omega, HNEW.out⟩
      clear hX2 HX HX1 HF HB HB1 HM HT HT1
      go_wp2
      go_loopw [1, 6] (fun v i wq => ∃ (j : Nat) (L' : Nat → Nat) (vB vM : Value) (A' : List Kept) (gl cl : Nat), j ≤ 4 ∧ i = .int .i64 j ∧ v = .slice (some ⟨gl, 0, none⟩) (16 + j) cl ∧ wq.ownsRow base 5 1 (.slice (some ⟨gl, 0, none⟩) (16 + j) cl) (16 + j) (vals (List.replicate (16 + j) m)) ∧ L' gl = 3 ∧
          (∀ k ∈ A', k.v.ownBlock = some gl → k.mark = m ∧ ∃ nn cc, k.v = .slice (some ⟨gl, 0, none⟩) nn cc ∧ nn ≤ 16 + j) ∧ (∀ k, k < w.heap.size → L' k = L k) ∧ Fam 24 5 (Value.int .u8) ByteC 0 L' base vB vM A' A' wq ∧ A'.length = A.length + j ∧
          wq.heap[hb]? = some (.cells (handCells (.slice none 0 0) (.slice none 0 0) (n + 1) (upd vs vB vM)) 41 (0, 0)) ∧ Touch (fun k => L k ≤ 3) w wq) (fun _ i _ => 4 - (intOf i).toNat)
      case atStart => exact ⟨0, L, vs 3, vs 4, A, g, 16, by omega, rfl, rfl, HO.out, hLg, fun k hk e => absurd e (HNEW.out k hk), fun _ _ => rfl, HF2.out, rfl, HB2.out, HTW.out⟩
      case round =>
        obtain ⟨j, L1, vB, vM, A1, gl, cl, hj4, rfl, rfl, hO, hLgl, hA1, hLL, hF, hlen, hB, hT⟩ := hrel
        have hws : w.heap.size ≤ wr.heap.size := hT.size
        have HO := hide hO
        have HA1 := hide hA1
        have HLL := hide hLL
        have HF := hide hF
        have HB := hide hB
        have HT := hide hT
        have HLEN := hide hlen
        have hLen : A1.length ≤ 1010 := by omega
        clear hO hA1 hLL hF hB hT hlen
        by_cases hlt : j < 4
        · have c3 : wr.cell? ⟨hb, 3, none⟩ = some vB := by rw [cell_of_row _ _ _ _ _ _ HB.out]; rfl
          have c4 : wr.cell? ⟨hb, 4, none⟩ = some vM := by rw [cell_of_row _ _ _ _ _ _ HB.out]; rfl
          go_wp2_with (at_builtin; go_must (refine wpList_append_lies _ rfl (.tmp 28) (.tmp 30) 30 rfl base 24 j0 (.slice none 0 0) 1 24 Try.underlying30 hj hj0 hj1 hj2 rfl (by decide) vB A1.length (A1.map Kept.v) rfl (HF.out.own.alloc _) ⟨wr.heap.size, 0, none⟩ 1 1 [.slice (some ⟨gl, 0, none⟩) (16 + j) cl] (by rfl) rfl (news_at wr #[.slice (some ⟨gl, 0, none⟩) (16 + j) cl] 24) (slice_one _ _ _ _ rfl) (by omega) (by unfold maxLen; omega) (by omega) (by simp; omega) _ rfl ?_))
          intro gB cB w1 hownB hgrowB hatB _
          have hgl : gl < wr.heap.size ∧ base ≤ gl := ⟨(HO.out.lt gl rfl).2, (HO.out.lt gl rfl).1⟩
          obtain ⟨L2, hL2, hF2, hT2⟩ := HF.out.more (k0 := ⟨.slice (some ⟨gl, 0, none⟩) (16 + j) cl, m⟩) byteC_local ⟨fun b e => by simp [Value.ownBlock] at e; subst e; exact ⟨by omega, hgl.2, hgl.1⟩, ⟨gl, 16 + j, cl, rfl, by omega, hmb, row_of_own HO.out⟩⟩ hownB hgrowB hatB
          have hLhb : L1 hb = 0 := by rw [HLL.out hb hbw]; exact hLb
          have hB1 : w1.heap[hb]? = some (.cells (handCells (.slice none 0 0) (.slice none 0 0) (n + 1) (upd vs vB vM)) 41 (0, 0)) := (hT2.block hb (by omega) (by omega)).trans HB.out
          have d3 : w1.cell? ⟨hb, 3, none⟩ = some vB := by rw [cell_of_row _ _ _ _ _ _ hB1]; rfl
          have d4 : w1.cell? ⟨hb, 4, none⟩ = some vM := by rw [cell_of_row _ _ _ _ _ _ hB1]; rfl
          have f3 := free_of_block hB1 3
          have f4 := free_of_block hB1 4
          have hw1 : wr.heap.size ≤ w1.heap.size := hT2.size
          obtain ⟨w2, hw2⟩ : ∃ w2, w2 = w1.setCell ⟨hb, 3, none⟩ (.slice (some ⟨gB, 0, none⟩) (A1.length + 1) cB) := ⟨_, rfl⟩
          have hs2 : w2.heap.size = w1.heap.size := by rw [hw2]; simp
          have hTs : Touch (· = hb) w1 w2 := by rw [hw2]; exact Touch.ofSet w1 hb 3 _ rfl
          have hF3 : Fam 24 5 (Value.int .u8) ByteC 0 L2 base (.slice (some ⟨gB, 0, none⟩) (A1.length + 1) cB) vM (A1 ++ [⟨.slice (some ⟨gl, 0, none⟩) (16 + j) cl, m⟩]) A1 w2 := hF2.touch byteC_local hTs (fun k _ hk => .inl (by rw [hk, hL2 hb (by omega)]; omega))
          have hB2 : w2.heap[hb]? = some (.cells (handCells (.slice none 0 0) (.slice none 0 0) (n + 1) (upd vs (.slice (some ⟨gB, 0, none⟩) (A1.length + 1) cB) vM)) 41 (0, 0)) := by rw [hw2]; exact block_set hB1 3 _
          have hglne : gl ≠ hb := fun h => by rw [h] at hLgl; omega
          have hO2 : w2.ownsRow base 5 1 (.slice (some ⟨gl, 0, none⟩) (16 + j) cl) (16 + j) (vals (List.replicate (16 + j) m)) := own_same HO.out (fun b e => by simp [Value.ownBlock] at e; subst e; exact (hTs.block gl (by omega) hglne).trans (hT2.block gl hgl.1 (by omega)))
          have hT3 : Touch (fun k => L k ≤ 3) w w2 := Touch.trans (T := (· = hb)) (Touch.trans (T := fun k => L1 k = 0 + 1) HT.out hT2 (fun i hi => by
            by_cases h : i < w.heap.size
            · exact .inl (by rw [← HLL.out i h, hi]; omega)
            · exact .inr (by omega))) hTs (fun i hi => .inl (by rw [hi, hLb]; omega))
          have H2 := hide (And.intro hL2 (And.intro hF3 (And.intro hB2 (And.intro hO2 hT3))))
          have HW2 := hide hw2
          clear hownB hgrowB hatB hL2 hF2 hT2 hB1 hw2 hTs hF3 hB2 hO2 hT3 HF HB HO HT c3 c4
          go_wp2_with (at_builtin; go_must (refine wpList_append_lies _ rfl (.tmp 38) (.tmp 40) 24 rfl base 5 i0 (.int .u8 0) 1 1 Try.underlying24 hi hz0 hz1 hz2 rfl (by decide) vM A1.length (A1.map fun k => Value.int .u8 k.mark) rfl (by rw [← HW2.out]; exact H2.out.2.1.ownM.alloc _) ⟨w1.heap.size, 0, none⟩ 1 1 [.int .u8 m] (by rfl) rfl (by rw [← HW2.out, ← hs2]; exact news_at w2 #[.int .u8 m] 5) (vals_one [m]) (by omega) (by unfold maxLen; omega) (by omega) (by rw [← HW2.out]; simp; omega) _ rfl ?_))
          rw [← HW2.out]
          intro gM cM w3 hownM hgrowM hatM _
          obtain ⟨hL2, hF3, hB2, hO2, hT3⟩ := H2.out
          obtain ⟨L3, hL3, hF4, hT4⟩ := hF3.moreM (k0 := ⟨.slice (some ⟨gl, 0, none⟩) (16 + j) cl, m⟩) byteC_local hownM hgrowM (by rw [hs2]; exact hatM)
          have hL2hb : L2 hb = 0 := by rw [hL2 hb (by omega)]; exact hLhb
          have hL2gl : L2 gl = 3 := by rw [hL2 gl hgl.1]; exact hLgl
          have hB3 : w3.heap[hb]? = some (.cells (handCells (.slice none 0 0) (.slice none 0 0) (n + 1) (upd vs (.slice (some ⟨gB, 0, none⟩) (A1.length + 1) cB) vM)) 41 (0, 0)) := (hT4.block hb (by omega) (by omega)).trans hB2
          have d4' : w3.cell? ⟨hb, 4, none⟩ = some vM := by rw [cell_of_row _ _ _ _ _ _ hB3]; rfl
          have f4' := free_of_block hB3 4
          have hw3 : w2.heap.size ≤ w3.heap.size := hT4.size
          obtain ⟨w4, hw4⟩ : ∃ w4, w4 = w3.setCell ⟨hb, 4, none⟩ (.slice (some ⟨gM, 0, none⟩) (A1.length + 1) cM) := ⟨_, rfl⟩
          have hs4 : w4.heap.size = w3.heap.size := by rw [hw4]; simp
          have hTs : Touch (· = hb) w3 w4 := by rw [hw4]; exact Touch.ofSet w3 hb 4 _ rfl
          have hF5 : Fam 24 5 (Value.int .u8) ByteC 0 L3 base (.slice (some ⟨gB, 0, none⟩) (A1.length + 1) cB) (.slice (some ⟨gM, 0, none⟩) (A1.length + 1) cM) (A1 ++ [⟨.slice (some ⟨gl, 0, none⟩) (16 + j) cl, m⟩]) (A1 ++ [⟨.slice (some ⟨gl, 0, none⟩) (16 + j) cl, m⟩]) w4 := hF4.touch byteC_local hTs (fun k _ hk => .inl (by rw [hk, hL3 hb (by omega)]; omega))
          have hB4 : w4.heap[hb]? = some (.cells (handCells (.slice none 0 0) (.slice none 0 0) (n + 1) (upd vs (.slice (some ⟨gB, 0, none⟩) (A1.length + 1) cB) (.slice (some ⟨gM, 0, none⟩) (A1.length + 1) cM))) 41 (0, 0)) := by rw [hw4]; exact block_set hB3 4 _
          have hO4 : w4.ownsRow base 5 1 (.slice (some ⟨gl, 0, none⟩) (16 + j) cl) (16 + j) (vals (List.replicate (16 + j) m)) := own_same hO2 (fun b e => by simp [Value.ownBlock] at e; subst e; exact (hTs.block gl (by omega) hglne).trans (hT4.block gl (by omega) (by omega)))
          have hLL3 : ∀ k, k < wr.heap.size → L3 k = L1 k := fun k hk => (hL3 k (by omega)).trans (hL2 k hk)
          have hT5 : Touch (fun k => L k ≤ 3) w w4 := Touch.trans (T := (· = hb)) (Touch.trans (T := fun k => L2 k = 0 + 2) hT3 hT4 (fun i hi => by
            by_cases h : i < w.heap.size
            · exact .inl (by rw [← HLL.out i h, ← hL2 i (by omega), hi]; omega)
            · exact .inr (by omega))) hTs (fun i hi => .inl (by rw [hi, hLb]; omega))
          have hA2 : ∀ k ∈ A1 ++ [⟨.slice (some ⟨gl, 0, none⟩) (16 + j) cl, m⟩], k.v.ownBlock = some gl → k.mark = m ∧ ∃ nn cc, k.v = .slice (some ⟨gl, 0, none⟩) nn cc ∧ nn ≤ 16 + j := by
            intro k hk e
            rcases List.mem_append.1 hk with hk | hk
            · exact HA1.out k hk e
            · simp at hk; subst hk; exact ⟨rfl, _, _, rfl, Nat.le_refl _⟩
          have HW4 := hide hw4
          have hL3gl : L3 gl = 3 := by rw [hLL3 gl hgl.1]; exact hLgl
          have H4 := hide (And.intro hLL3 (And.intro hF5 (And.intro hB4 (And.intro hO4 (And.intro hT5 (And.intro hA2 hL3gl))))))
          clear H2 hL2 hF3 hB2 hO2 hT3 hL3 hF4 hT4 hownM hgrowM hatM hB3 hw4 hTs hF5 hB4 hO4 hT5 hA2 hLL3 d3 d4 f3 f4 HW2 hL3gl hL2hb hL2gl
          by_cases hroom : 16 + j + 1 ≤ cl
          · go_wp2_with (at_builtin; go_must (refine wpList_append_fits _ rfl (.tmp 44) (.tmp 46) 24 rfl base 5 i0 1 Try.underlying24 hi hz1 gl (16 + j) cl (vals (List.replicate (16 + j) m)) rfl (by rw [← HW4.out]; exact H4.out.2.2.2.1.alloc _) ⟨w3.heap.size, 0, none⟩ 1 1 [.int .u8 m] (by rfl) rfl (by rw [← HW4.out, ← hs4]; exact news_at w4 #[.int .u8 m] 5) (vals_one [m]) hroom ?_))
            rw [← HW4.out]
            intro w5 hown5 hgrow5
            rw [vals_snoc] at hown5
            obtain ⟨hLL3, hF5, hB4, hO4, hT5, hA2, hL3gl⟩ := H4.out
            have hF6 := hF5.longer hL3gl hA2 hown5 hgrow5
            have hT6 : Touch (fun k => L k ≤ 3) w w5 := Touch.trans (T := (· = gl)) hT5 (Touch.ofGrown (grown_alloc hgrow5) (fun k e => .inl (by simpa using e.symm))) (fun i hi => by
              by_cases h : i < w.heap.size
              · exact .inl (by rw [← HLL.out i h, ← hLL3 i (by omega), hi, hL3gl]; omega)
              · exact .inr (by omega))
            have hB5 := ((grown_alloc hgrow5).block hb (by omega) (by simp; exact fun h => hglne h.symm)).trans hB4
            have H6 := hide (And.intro hF6 (And.intro hB5 (And.intro hown5 (And.intro hT6 (And.intro hA2 (And.intro hLL3 hL3gl))))))
            clear hLL3 hF5 hB4 hO4 hT5 hA2 hL3gl hF6 hT6 hB5 hown5 hgrow5 H4 HW4
            go_wp2
            go_roundw
            case rel =>
              obtain ⟨hF6, hB5, hown5, hT6, hA2, hLL3, hL3gl⟩ := H6.out
              refine ⟨j + 1, L3, _, _, _, gl, cl, by omega, by go_num, rfl, hown5, hL3gl, fun k hk e => ?_, fun k hk => (hLL3 k (by omega)).trans (HLL.out k hk), by simpa using hF6, by simp [HLEN.out]; omega, hB5, hT6⟩
              obtain ⟨h1, nn, cc, h2, h3⟩ := hA2 k hk e
              exact ⟨h1, nn, cc, h2, by omega⟩
            case measure => simp [intOf]; omega
          · go_wp2_with (at_builtin; go_must (refine wpList_append_grows _ rfl (.tmp 44) (.tmp 46) 24 rfl 5 i0 (.int .u8 0) 1 1 Try.underlying24 hi hz0 hz1 hz2 rfl (by decide) (some ⟨gl, 0, none⟩) (16 + j) cl (vals (List.replicate (16 + j) m)) rfl (fun h => by simp at h) (by simp [vals]) (fun b hb' jj u hu => by rw [← HW4.out]; obtain rfl : b = ⟨gl, 0, none⟩ := (by simpa using hb'.symm); exact (H4.out.2.2.2.1.alloc _).cells rfl jj u hu) ⟨w3.heap.size, 0, none⟩ 1 1 [.int .u8 m] (by rfl) rfl (by rw [← HW4.out, ← hs4]; exact news_at w4 #[.int .u8 m] 5) (vals_one [m]) (by omega) (by unfold maxLen; omega) (by omega) ?_))
            rw [← HW4.out]
            intro v5 w5 hown5 hgrow5
            rw [vals_snoc] at hown5
            obtain ⟨g5, c5, rfl, hg5, hg5s⟩ := hown5.form (by omega)
            obtain ⟨hLL3, hF5, hB4, hO4, hT5, hA2, hL3gl⟩ := H4.out
            have hg4 := grown_alloc hgrow5
            have hT4 : Touch (fun _ => False) w4 w5 := Touch.ofGrown hg4 (by simp)
            have hF6 : Fam 24 5 (Value.int .u8) ByteC 0 (fun k => if k < w4.heap.size then L3 k else 3) base (.slice (some ⟨gB, 0, none⟩) (A1.length + 1) cB) (.slice (some ⟨gM, 0, none⟩) (A1.length + 1) cM) (A1 ++ [⟨.slice (some ⟨gl, 0, none⟩) (16 + j) cl, m⟩]) (A1 ++ [⟨.slice (some ⟨gl, 0, none⟩) (16 + j) cl, m⟩]) w5 := (hF5.relabel (fun k hk => by simp [hk])).touch byteC_local hT4 (fun _ _ h => h.elim)
            have hT6 : Touch (fun k => L k ≤ 3) w w5 := Touch.trans (T := fun _ => False) hT5 hT4 (fun _ h => h.elim)
            have hB5 := (hg4.block hb (by omega) (by simp)).trans hB4
            have hown6 := own_base hown5 (show base ≤ _ from by omega)
            have hA3 : ∀ k ∈ A1 ++ [⟨.slice (some ⟨gl, 0, none⟩) (16 + j) cl, m⟩], k.v.ownBlock = some g5 → k.mark = m ∧ ∃ nn cc, k.v = .slice (some ⟨g5, 0, none⟩) nn cc ∧ nn ≤ 16 + (j + 1) := by
              intro k hk e
              have := ((hF5.kept k hk).1 g5 e).2.2
              omega
            have H6 := hide (And.intro hF6 (And.intro hB5 (And.intro hown6 (And.intro hT6 (And.intro hA3 hLL3)))))
            clear hLL3 hF5 hB4 hO4 hT5 hA2 hA3 hL3gl hF6 hT6 hB5 hown5 hown6 hgrow5 H4 HW4 hg4 hT4
            go_wp2
            go_roundw
            case rel =>
              obtain ⟨hF6, hB5, hown5, hT6, hA3, hLL3⟩ := H6.out
              exact ⟨j + 1, (fun k => if k < w4.heap.size then L3 k else 3), _, _, _, g5, c5, by omega, by go_num, rfl, hown5, by show (if g5 < w4.heap.size then L3 g5 else 3) = 3; rw [if_neg (by omega)], hA3, fun k hk => by show (if k < w4.heap.size then L3 k else 3) = L k; rw [if_pos (by omega)]; exact (hLL3 k (by omega)).trans (HLL.out k hk), by simpa using hF6, by simp [HLEN.out]; omega, hB5, hT6⟩
            case measure => simp [intOf]; omega
        · obtain rfl : j = 4 := by omega
          go_wp2
          go_end0
          exact ⟨vB, vM, L1, A1, rfl, HB.out, HLL.out, HF.out, HLEN.out, HT.out⟩
end Go.Proofs.Ytnjlbgolnbdkaaa
