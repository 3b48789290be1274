/- The document's reader: process. -/
import Derived.Test.YtnjlbgolnbdkaaaPb
namespace Go.Proofs.Ytnjlbgolnbdkaaa
open Go.RowKit

theorem Try.info102 : (Try.prog.info? 102).map (fun i => (i.zero, i.size, i.bytes)) = some (some (.agg #[.int .i64 0, .int .i64 0]), 2, 16) := by kernel_rfl
def insCells (code : List (Int × Int)) : List Value := code.flatMap fun c => [.int .i64 c.1, .int .i64 c.2]
theorem insCells_snoc (code : List (Int × Int)) (c : Int × Int) : insCells (code ++ [c]) = insCells code ++ [.int .i64 c.1, .int .i64 c.2] := by simp [insCells]
def CodeV (base : Nat) (v : Value) (code : List (Int × Int)) (w : World) : Prop := w.ownsRow base 102 2 v code.length (insCells code)
theorem own_keep {w w' : World} {base : Nat} {e : TypeId} {size : Nat} {v : Value} {n : Nat} {xs : List Value} (h : w.ownsRow base e size v n xs) (hs : ∀ b, v.ownBlock = some b → w'.heap[b]? = w.heap[b]?) : w'.ownsRow base e size v n xs := by
  obtain ⟨h1, h2⟩ := h
  rcases h2 with h2 | ⟨g, cap, cur, hv, hb, hh, r⟩
  · exact ⟨h1, .inl h2⟩
  · exact ⟨h1, .inr ⟨g, cap, cur, hv, hb, by rw [hs g (by rw [hv]; rfl)]; exact hh, r⟩⟩
theorem ints_one (xs : List Value) (h : ∀ u ∈ xs, ∃ k a, u = .int k a) : ∀ u ∈ xs, u.oneCell' = true := by
  intro u hu
  obtain ⟨k, a, rfl⟩ := h u hu
  rfl
theorem rdTo_length {α : Type} (f : Rd → α × Rd) (k : Nat) (r : Rd) : (rdTo f k r).1.length ≤ k := by
  induction k with
  | zero => simp [rdTo]
  | succ k ih =>
    show ((if (rdTo f k r).2.err ≠ 0 then _ else _) : List α × Rd).1.length ≤ k + 1
    split
    · omega
    · simp; omega

set_option maxRecDepth 100000 in
set_option maxHeartbeats 2000000 in
theorem process_any (rb : Nat) (ao : Option Addr) (n cap : Nat) (zs : List Int) (r : Rd) (w : World) (h : RdAt rb ao n cap zs r w) :
    Calls Try.prog 53 #[.pointer (some ⟨rb, 0, none⟩)] w fun e w' => ∃ v, e = .returned (.agg #[.int .i64 (rdProc zs r).1.prio, v]) ∧ CodeV w.heap.size v (rdProc zs r).1.code w' ∧ RdAt rb ao n cap zs (rdProc zs r).2 w' ∧ Touch (· = rb) w w' := by
  obtain ⟨i0, hi, hz0, hz1, hz2⟩ := info_parts Try.info102
  have hrb := lt_of_block h.obj
  have hlt : ∀ ad, ao = some ad → 0 < n → ad.block < w.heap.size := h.held.lt
  have HLT := hide hlt
  have H := hide h
  clear h hlt
  have HSP : Hid (rdProc zs r = (⟨(rdB zs 0 9 r).1, (rdTo (rdIns zs (rdB zs 1 20 (rdB zs 0 9 r).2).1) (rdB zs 1 20 (rdB zs 0 9 r).2).1.toNat (rdB zs 1 20 (rdB zs 0 9 r).2).2).1⟩, (rdTo (rdIns zs (rdB zs 1 20 (rdB zs 0 9 r).2).1) (rdB zs 1 20 (rdB zs 0 9 r).2).1.toNat (rdB zs 1 20 (rdB zs 0 9 r).2).2).2)) := rfl
  go_enter Try.func53, Try.ntmps53
  go_wp2_with fail
  have h1 : RdAt rb ao n cap zs r (w.alloc (.cells #[.int .i64 0, .slice none 0 0] 104)) := H.out.touch (B := w.heap.size) ((Below.refl _ _).alloc (Nat.le_refl _) _) hrb HLT.out
  refine (byte_any rb ao n cap zs r 0 9 _ h1).mono ?_
  rintro e w1 ⟨rfl, hr1, ht1⟩
  have hs1 : w.heap.size + 1 ≤ w1.heap.size := by have := ht1.size; simp at this; exact this
  have hB1 : w1.heap[w.heap.size]? = some (.cells #[.int .i64 0, .slice none 0 0] 104 (0, 0)) := (ht1.block _ (by simp) (by omega)).trans (heap_alloc_new w _)
  have hT1 : Touch (· = rb) w w1 := Touch.trans (T := (· = rb)) (Touch.ofBelow ((Below.refl _ _).alloc (Nat.le_refl _) _)) ht1 (fun i hi => .inl hi)
  have hlt1 : ∀ ad, ao = some ad → 0 < n → ad.block < w1.heap.size := hr1.held.lt
  generalize hpr : (rdB zs 0 9 r).1 = prio at *
  generalize hr1' : (rdB zs 0 9 r).2 = r1 at *
  have h2 : RdAt rb ao n cap zs r1 (w1.alloc (.cells #[.int .i64 prio, .slice none 0 0] 104)) := hr1.touch (B := w1.heap.size) ((Below.refl _ _).alloc (Nat.le_refl _) _) (by omega) hlt1
  have HBY := hide (byte_any rb ao n cap zs r1 1 20 _ h2)
  have hN := rdB_val zs 1 20 r1 (by omega)
  generalize hNN : (rdB zs 1 20 r1).1 = N at *
  generalize hrr : (rdB zs 1 20 r1).2 = r2 at *
  have H1 := hide (And.intro hB1 hT1)
  have HHH := hide (And.intro hpr (And.intro hr1' (And.intro hNN hrr)))
  clear h1 h2 hr1 ht1 hB1 hT1 hlt1 hpr hr1' hNN hrr
  go_wp2_with fail
  refine HBY.out.mono ?_
  rintro e w2 ⟨rfl, hr2, ht2⟩
  have hs2 : w1.heap.size + 1 ≤ w2.heap.size := by have := ht2.size; simp at this; exact this
  have hC2 : w2.heap[w1.heap.size]? = some (.cells #[.int .i64 prio, .slice none 0 0] 104 (0, 0)) := (ht2.block _ (by simp) (by omega)).trans (heap_alloc_new w1 _)
  have hB2 : w2.heap[w.heap.size]? = some (.cells #[.int .i64 0, .slice none 0 0] 104 (0, 0)) := (ht2.block _ (by simp; omega) (by omega)).trans ((Below.heap_alloc _ _ _ (by omega)).trans H1.out.1)
  have hT2 : Touch (· = rb) w w2 := Touch.trans (T := (· = rb)) H1.out.2 (Touch.trans (T := (· = rb)) (Touch.ofBelow ((Below.refl _ _).alloc (Nat.le_refl _) _)) ht2 (fun i hi => .inl hi)) (fun i hi => .inl hi)
  have H2 := hide (And.intro hC2 (And.intro hB2 (And.intro hT2 hr2)))
  clear hC2 hB2 hT2 hr2 ht2 H1 HBY
  go_wp2
  go_loopw [5] (fun i wr => ∃ (k : Nat) (v : Value), (k : Int) ≤ N ∧ i = .int .i64 k ∧ wr.heap[w1.heap.size]? = some (.cells #[.int .i64 prio, v] 104 (0, 0)) ∧ wr.heap[w.heap.size]? = some (.cells #[.int .i64 0, .slice none 0 0] 104 (0, 0)) ∧
      CodeV (w1.heap.size + 1) v (rdTo (rdIns zs N) k r2).1 wr ∧ RdAt rb ao n cap zs (rdTo (rdIns zs N) k r2).2 wr ∧ Touch (· = rb) w wr) (fun i _ => N.toNat - (intOf i).toNat)
  case atStart => exact ⟨0, _, by omega, rfl, H2.out.1, H2.out.2.1, World.ownsRow_nil _ _ _ _, H2.out.2.2.2, H2.out.2.2.1⟩
  case round =>
    obtain ⟨k, v, hk, rfl, hC, hB, hV, hR, hT⟩ := hrel
    have hlen := rdTo_length (rdIns zs N) k r2
    have c2 : wr.cell? ⟨rb, 2, none⟩ = some (.int .i64 (rdTo (rdIns zs N) k r2).2.err) := by rw [cell_of_row _ _ _ _ _ _ hR.obj]; rfl
    have hws : w1.heap.size < wr.heap.size := lt_of_block hC
    by_cases hgo : (k : Int) < N ∧ (rdTo (rdIns zs N) k r2).2.err = 0
    · obtain ⟨hlt, he⟩ := hgo
      have HGO := hide (rdTo_go (rdIns zs N) k r2 he)
      have HBY := hide (fun lo hi => byte_any rb ao n cap zs (rdTo (rdIns zs N) k r2).2 lo hi wr hR)
      have b1 : ((rdTo (rdIns zs N) k r2).2.err == 0) = true := by simp [he]
      have H3 := hide (And.intro hC (And.intro hB (And.intro hV hT)))
      clear he hC hB hV hR hT
      generalize rdTo (rdIns zs N) k r2 = S at HGO HBY b1 H3 c2 hlen
      have HINS : Hid (rdIns zs N S.2 = (((rdB zs 0 13 S.2).1, (rdB zs 0 (if (rdB zs 0 13 S.2).1 = 4 then N - 1 else 255) (rdB zs 0 13 S.2).2).1), (rdB zs 0 (if (rdB zs 0 13 S.2).1 = 4 then N - 1 else 255) (rdB zs 0 13 S.2).2).2)) := rfl
      have hopb := rdB_val zs 0 13 S.2 (by omega)
      have HB0 := hide (HBY.out 0 13)
      generalize (rdB zs 0 13 S.2).1 = op at HINS HB0 hopb
      generalize (rdB zs 0 13 S.2).2 = Ra at HINS HB0
      clear HBY
      go_wp2_with fail
      refine HB0.out.mono ?_
      rintro e wA ⟨rfl, hrA, htA⟩
      have HBA := hide (fun hi => byte_any rb ao n cap zs Ra 0 hi wA hrA)
      have HTA := hide htA
      have hsA := htA.size
      clear hrA htA HB0
      obtain ⟨hiv, hhi⟩ : ∃ hiv, hiv = (if op = 4 then N - 1 else 255) := ⟨_, rfl⟩
      rw [← hhi] at HINS
      have HB1 := hide (HBA.out hiv)
      generalize hargv : (rdB zs 0 hiv Ra).1 = arg at HINS HB1
      generalize hrb' : (rdB zs 0 hiv Ra).2 = Rb at HINS HB1
      clear HBA hargv hrb'
      have hb4 : ((op == 4) = true ∧ hiv = N - 1) ∨ ((op == 4) = false ∧ hiv = 255) := by
        by_cases h4 : op = 4
        · exact .inl ⟨by simp [h4], by rw [hhi, if_pos h4]⟩
        · exact .inr ⟨by simpa using h4, by rw [hhi, if_neg h4]⟩
      clear hhi
      rcases hb4 with ⟨b4, hh⟩ | ⟨b4, hh⟩
      all_goals
        rw [hh] at HB1
        clear hh
        go_wp2_with fail
        refine HB1.out.mono ?_
        rintro e wB ⟨rfl, hrB, htB⟩
        have hsB := htB.size
        have tAB : Touch (· = rb) wr wB := Touch.trans (T := (· = rb)) HTA.out htB (fun i hi => .inl hi)
        have hCB : wB.heap[w1.heap.size]? = some (.cells #[.int .i64 prio, v] 104 (0, 0)) := (tAB.block _ hws (by omega)).trans H3.out.1
        have hBB : wB.heap[w.heap.size]? = some (.cells #[.int .i64 0, .slice none 0 0] 104 (0, 0)) := (tAB.block _ (by omega) (by omega)).trans H3.out.2.1
        have hVB : wB.ownsRow (w1.heap.size + 1) 102 2 v S.1.length (insCells S.1) := own_keep H3.out.2.2.1 (fun b e => tAB.block b (World.ownsRow.lt H3.out.2.2.1 b e).2 (by have := (World.ownsRow.lt H3.out.2.2.1 b e).1; omega))
        have d1 : wB.cell? ⟨w1.heap.size, 1, none⟩ = some v := by rw [cell_of_row _ _ _ _ _ _ hCB]; rfl
        have HVB := hide hVB
        have H4 := hide (And.intro hCB (And.intro hBB (And.intro tAB (And.intro hrB hVB))))
        clear hCB hBB tAB hrB hVB htB HB1
        go_wp2_with (at_builtin; go_must (refine wpList_append_lies _ rfl (.tmp 36) (.tmp 40) 100 rfl (w1.heap.size + 1) 102 i0 (.agg #[.int .i64 0, .int .i64 0]) 2 16 Try.underlying100 hi hz0 hz1 hz2 rfl (by decide) v S.1.length (insCells S.1) rfl (HVB.out.alloc _) ⟨wB.heap.size, 0, none⟩ 1 1 [.int .i64 op, .int .i64 arg] (by rfl) rfl (news_at wB #[.int .i64 op, .int .i64 arg] 102) (by intro u hu; simp at hu; rcases hu with rfl | rfl <;> rfl) (by omega) (by unfold maxLen; omega) (by omega) (by simp; omega) _ rfl ?_))
        intro g c w5 hown5 hgrow5 _ _
        obtain ⟨hCB, hBB, tAB, hrB, hVB⟩ := H4.out
        have hg5 := grown_alloc hgrow5
        have hge : ∀ b, v.ownBlock = some b → w1.heap.size + 1 ≤ b := fun b e => (World.ownsRow.lt hVB b e).1
        have hC5 : w5.heap[w1.heap.size]? = some (.cells #[.int .i64 prio, v] 104 (0, 0)) := (hg5.block _ (by omega) (fun e => by have := hge _ e.symm; omega)).trans hCB
        have hB5 : w5.heap[w.heap.size]? = some (.cells #[.int .i64 0, .slice none 0 0] 104 (0, 0)) := (hg5.block _ (by omega) (fun e => by have := hge _ e.symm; omega)).trans hBB
        have hb5 : Below (w1.heap.size + 1) wB w5 := (Below.refl _ _).grown hg5 (by omega) (fun k e => hge k e)
        have hs5 := hg5.size
        have hr5 : RdAt rb ao n cap zs Rb w5 := hrB.touch hb5 (by omega) (fun ad e hn => by have := HLT.out ad e hn; omega)
        have e1 : w5.cell? ⟨w1.heap.size, 1, none⟩ = some v := by rw [cell_of_row _ _ _ _ _ _ hC5]; rfl
        have f1 := free_of_block hC5 1
        have hT5 : Touch (· = rb) w w5 := Touch.trans (T := fun k => w1.heap.size + 1 ≤ k) (Touch.trans (T := (· = rb)) H3.out.2.2.2 tAB (fun i hi => .inl hi)) ⟨hb5.os, hb5.tape, hb5.output, hb5.size, fun k _ h => hb5.block k (by omega)⟩ (fun i hi => .inr (by omega))
        have H5 := hide (And.intro hC5 (And.intro hB5 (And.intro hr5 (And.intro hT5 hown5))))
        clear hCB hBB tAB hrB hVB hg5 hge hC5 hB5 hb5 hr5 hT5 hown5 hgrow5 H4 HVB d1
        go_wp2
        go_roundw
        case rel =>
          obtain ⟨hC5, hB5, hr5, hT5, hown5⟩ := H5.out
          have tS : Touch (· = w1.heap.size) w5 (w5.setCell ⟨w1.heap.size, 1, none⟩ (.slice (some ⟨g, 0, none⟩) (S.1.length + 1) c)) := Touch.ofSet w5 _ 1 _ rfl
          have hgg := (World.ownsRow.lt hown5 g rfl)
          refine ⟨k + 1, _, by omega, by go_num, block_set hC5 1 _, (tS.block _ (by omega) (by omega)).trans hB5, ?_, ?_, Touch.trans (T := (· = w1.heap.size)) hT5 tS (fun i hi => .inr (by omega))⟩
          · rw [HGO.out, HINS.out]
            show World.ownsRow _ _ _ _ _ _ _
            rw [insCells_snoc, List.length_append]
            exact own_keep hown5 (fun b e => by simp [Value.ownBlock] at e; subst e; exact tS.block g hgg.2 (by omega))
          · rw [HGO.out, HINS.out]
            exact ⟨(tS.block rb (by omega) (by omega)).trans hr5.obj, hr5.held.touch tS (fun ad e hn hs => by have := HLT.out ad e hn; omega), hr5.apart, hr5.small, hr5.pos⟩
        case measure => simp [intOf]; omega
    · have HFIN : Hid (rdTo (rdIns zs N) N.toNat r2 = rdTo (rdIns zs N) k r2) := by
        by_cases hkn : (k : Int) < N
        · exact rdTo_stop (rdIns zs N) k r2 (fun he => hgo ⟨hkn, he⟩) N.toNat (by omega)
        · obtain rfl : k = N.toNat := by omega
          rfl
      have p0 : wr.cell? ⟨w1.heap.size, 0, none⟩ = some (.int .i64 prio) := by rw [cell_of_row _ _ _ _ _ _ hC]; rfl
      have p1 : wr.cell? ⟨w1.heap.size, 1, none⟩ = some v := by rw [cell_of_row _ _ _ _ _ _ hC]; rfl
      have q0 : wr.cell? ⟨w.heap.size, 0, none⟩ = some (.int .i64 0) := by rw [cell_of_row _ _ _ _ _ _ hB]; rfl
      have q1 : wr.cell? ⟨w.heap.size, 1, none⟩ = some (.slice none 0 0) := by rw [cell_of_row _ _ _ _ _ _ hB]; rfl
      have g0 := free_of_block hB 0
      have g1 := free_of_block hB 1
      have H6 := hide (And.intro hV (And.intro hR hT))
      have hvf : Hid (∃ ad c, v = .slice ad (rdTo (rdIns zs N) k r2).1.length c) := by
        rcases hV.2 with ⟨h1, h2⟩ | ⟨g', cap', cur, hv, _⟩
        · exact ⟨none, 0, by rw [h1, h2]⟩
        · exact ⟨_, _, hv⟩
      obtain ⟨ad, cv, hv⟩ := hvf.out
      have hne : ¬ w1.heap.size = w.heap.size := by omega
      have hne' : ¬ w.heap.size = w1.heap.size := by omega
      clear hC hB hV hR hT hvf H2
      have hcase : ((k : Int) < N ∧ ((rdTo (rdIns zs N) k r2).2.err == 0) = false) ∨ ¬ (k : Int) < N := by
        by_cases hkn : (k : Int) < N
        · exact .inl ⟨hkn, by simp; exact fun he => hgo ⟨hkn, he⟩⟩
        · exact .inr hkn
      clear hgo
      generalize rdTo (rdIns zs N) k r2 = S at *
      subst hv
      rcases hcase with ⟨hkn, be⟩ | hkn
      all_goals
        go_wp2
        refine bodyPost_ret (v := .agg #[.int .i64 prio, .slice ad S.1.length cv]) (by simp [results, Try.results53, go_sem, q0, q1]) rfl ?_
        obtain ⟨hV, hR, hT⟩ := H6.out
        obtain ⟨hpr, hr1', hNN, hrr⟩ := HHH.out
        have tS : Touch (· = w.heap.size) wr ((wr.setCell ⟨w.heap.size, 0, none⟩ (.int .i64 prio)).setCell ⟨w.heap.size, 1, none⟩ (.slice ad S.1.length cv)) := Touch.trans (T := (· = w.heap.size)) (Touch.ofSet wr _ 0 _ rfl) (Touch.ofSet _ _ 1 _ rfl) (fun i hi => .inl hi)
        have hpp : rdProc zs r = (⟨prio, S.1⟩, S.2) := by rw [HSP.out, HFIN.out]
        rw [hpp]
        refine ⟨_, rfl, ?_, ?_, Touch.trans (T := (· = w.heap.size)) hT tS (fun i hi => .inr (by omega))⟩
        · have hV' := own_keep hV (fun b e => tS.block b (World.ownsRow.lt hV b e).2 (by have := (World.ownsRow.lt hV b e).1; omega))
          obtain ⟨h1, h2⟩ := hV'
          rcases h2 with h2 | ⟨g', cap, cur, hv, hb', rest⟩
          · exact ⟨h1, .inl h2⟩
          · exact ⟨h1, .inr ⟨g', cap, cur, hv, by omega, rest⟩⟩
        · exact ⟨(tS.block rb (by omega) (by omega)).trans hR.obj, hR.held.touch tS (fun ad e hn hs => by have := HLT.out ad e hn; omega), hR.apart, hR.small, hR.pos⟩
end Go.Proofs.Ytnjlbgolnbdkaaa
