/- Texts of the proof of Boots, one behind the other. -/
import Derived.Test.YtnjlbgolnbdkaaaGreatJ07
import Derived.Deep.CutBlock
import Derived.Test.YtnjlbgolnbdkaaaGreatJ06
/- The document's Parse. -/
namespace Go.Proofs.YtnjlbgolnbdkaaaGreat
open Go.RowKit

def cfCells (f wt : Int) (vP vW vC : Value) : Array Value := #[.int .i64 f, .int .i64 wt, vP, vW, vC]
/- a configuration in the making: the result's block (B), the reader's (B + 1), its own (B + 2) -/
structure Mk (ao : Option Addr) (n cap : Nat) (zs : List Int) (w : World) (cells : Array Value) (r : Rd) (wr : World) : Prop where
  zero : wr.heap[w.heap.size]? = some (.cells (cfCells 0 0 (.slice none 0 0) (.slice none 0 0) (.slice none 0 0)) 71 (0, 0))
  cur : wr.heap[w.heap.size + 2]? = some (.cells cells 71 (0, 0))
  rd : RdAt (w.heap.size + 1) ao n cap zs r wr
  bel : Below w.heap.size w wr
section
variable {ao : Option Addr} {n cap : Nat} {zs : List Int} {w : World} {cells : Array Value} {r r' : Rd} {wr w' : World}
theorem Mk.byte (h : Mk ao n cap zs w cells r wr) (hr : RdAt (w.heap.size + 1) ao n cap zs r' w') (ht : Touch (· = w.heap.size + 1) wr w') : Mk ao n cap zs w cells r' w' :=
  ⟨(ht.block _ (lt_of_block h.zero) (by omega)).trans h.zero, (ht.block _ (lt_of_block h.cur) (by omega)).trans h.cur, hr, h.bel.trans (ht.below h.bel.size (fun k hk => by omega))⟩
theorem Mk.set (h : Mk ao n cap zs w cells r wr) (hlt : ∀ ad, ao = some ad → 0 < n → ad.block < w.heap.size) (o : Nat) (v : Value) : Mk ao n cap zs w (cells.setIfInBounds o v) r (wr.setCell ⟨w.heap.size + 2, o, none⟩ v) := by
  have t : Touch (· = w.heap.size + 2) wr (wr.setCell ⟨w.heap.size + 2, o, none⟩ v) := Touch.ofSet wr _ o v rfl
  exact ⟨(t.block _ (lt_of_block h.zero) (by omega)).trans h.zero, block_set h.cur o v, ⟨(t.block _ (lt_of_block h.rd.obj) (by omega)).trans h.rd.obj, h.rd.held.touch t (fun ad e hn hs => by have := hlt ad e hn; omega), h.rd.apart, h.rd.small, h.rd.pos⟩, h.bel.trans (t.below h.bel.size (fun k hk => by omega))⟩
theorem Mk.below (h : Mk ao n cap zs w cells r wr) (hlt : ∀ ad, ao = some ad → 0 < n → ad.block < w.heap.size) (b : Below (w.heap.size + 3) wr w') : Mk ao n cap zs w cells r w' :=
  ⟨(b.block _ (by omega)).trans h.zero, (b.block _ (by omega)).trans h.cur, h.rd.touch b (by omega) (fun ad e hn => by have := hlt ad e hn; omega), h.bel.trans (b.mono (by omega))⟩
theorem Mk.fin (h : Mk ao n cap zs w cells r wr) (x : Int) : Mk ao n cap zs w cells { r with fin := x } wr := ⟨h.zero, h.cur, ⟨h.rd.obj, h.rd.held, h.rd.apart, h.rd.small, h.rd.pos⟩, h.bel⟩
theorem Mk.setHigh (h : Mk ao n cap zs w cells r wr) (hlt : ∀ ad, ao = some ad → 0 < n → ad.block < w.heap.size) (B o : Nat) (v : Value) (hB : w.heap.size + 3 ≤ B) : Mk ao n cap zs w cells r (wr.setCell ⟨B, o, none⟩ v) := h.below hlt ((Below.refl _ _).setCell (by exact hB) v)
theorem Mk.start (hz : Held w ao n cap zs) (hn : n ≤ 140737488351232) : Mk ao n cap zs w (cfCells 0 0 (.slice none 0 0) (.slice none 0 0) (.slice none 0 0)) ⟨0, 0, 0, 0⟩ (((w.alloc (.cells (cfCells 0 0 (.slice none 0 0) (.slice none 0 0) (.slice none 0 0)) 71)).alloc (RdObj (.slice ao n cap) ⟨0, 0, 0, 0⟩)).alloc (.cells (cfCells 0 0 (.slice none 0 0) (.slice none 0 0) (.slice none 0 0)) 71)) := by
  generalize hO : Obj.cells (cfCells 0 0 (.slice none 0 0) (.slice none 0 0) (.slice none 0 0)) 71 = O
  have b : Below w.heap.size w (((w.alloc O).alloc (RdObj (.slice ao n cap) ⟨0, 0, 0, 0⟩)).alloc O) := (((Below.refl _ _).alloc (Nat.le_refl _) _).alloc (by simp) _).alloc (by simp; omega) _
  have h1 := heap_alloc_new (w.alloc O) (RdObj (.slice ao n cap) ⟨0, 0, 0, 0⟩)
  rw [show (w.alloc O).heap.size = w.heap.size + 1 from by simp] at h1
  have h2 := heap_alloc_new ((w.alloc O).alloc (RdObj (.slice ao n cap) ⟨0, 0, 0, 0⟩)) O
  rw [show ((w.alloc O).alloc (RdObj (.slice ao n cap) ⟨0, 0, 0, 0⟩)).heap.size = w.heap.size + 2 from by simp] at h2
  refine ⟨?_, by rw [h2, hO], ⟨?_, hz.touch (Touch.ofBelow (S := fun _ => False) b) (fun _ _ _ => id), fun ad e hn => by have := hz.lt ad e hn; omega, hn, Nat.zero_le _⟩, b⟩
  · rw [Below.heap_alloc _ _ _ (by simp; omega), Below.heap_alloc _ _ _ (by simp), heap_alloc_new, hO]
  · rw [Below.heap_alloc _ _ _ (by simp), h1]
end

theorem Tryz.info124 : (Tryz.prog.info? 124).map (fun i => (i.zero, i.size, i.bytes)) = some (some (.agg #[.bool false, .int .i64 0, .int .i64 0, .int .i64 0, .int .i64 0, .int .i64 0, .int .i64 0, .int .i64 0, .int .i64 0, .slice none 0 0]), 10, 96) := by kernel_rfl
theorem Tryz.info131 : (Tryz.prog.info? 131).map (fun i => (i.zero, i.size, i.bytes)) = some (some (.agg #[.int .i64 0, .int .i64 0, .int .i64 0]), 3, 24) := by kernel_rfl
theorem Tryz.info142 : (Tryz.prog.info? 142).map (fun i => (i.zero, i.size, i.bytes)) = some (some (.agg #[.int .i64 0, .int .i64 0, .int .i64 0]), 3, 24) := by kernel_rfl

theorem touch_five (B : Nat) (W : World) (m : Nat) (v0 v1 v2 v3 v4 : Value) : Touch (· = B) W ((((((W.drewN m).setCell ⟨B, 0, none⟩ v0).setCell ⟨B, 1, none⟩ v1).setCell ⟨B, 2, none⟩ v2).setCell ⟨B, 3, none⟩ v3).setCell ⟨B, 4, none⟩ v4) :=
  Touch.trans (T := (· = B)) (Touch.trans (T := (· = B)) (Touch.trans (T := (· = B)) (Touch.trans (T := (· = B)) (Touch.trans (T := (· = B)) (Touch.ofDrewN W m) (Touch.ofSet _ B 0 v0 rfl) (fun _ h => .inl h)) (Touch.ofSet _ B 1 v1 rfl) (fun _ h => .inl h)) (Touch.ofSet _ B 2 v2 rfl) (fun _ h => .inl h)) (Touch.ofSet _ B 3 v3 rfl) (fun _ h => .inl h)) (Touch.ofSet _ B 4 v4 rfl) (fun _ h => .inl h)

set_option maxRecDepth 100000 in
set_option maxHeartbeats 8000000 in
theorem rparse_any (ao : Option Addr) (n cap : Nat) (zs : List Int) (w : World) (hz : Held w ao n cap zs) (hn : n ≤ 140737488351232) :
    Calls Tryz.prog 96 #[.slice ao n cap] w fun e w' => ∃ vP vW vC, e = .returned (.tuple #[.agg (cfCells (parseOf zs).1.frame (parseOf zs).1.watch vP vW vC), .int .i64 (parseOf zs).2.1, .int .i64 (parseOf zs).2.2]) ∧ ConfV w.heap.size vP vW vC (parseOf zs).1 w' ∧ Below w.heap.size w w' := by
  obtain ⟨i0, hi, hz0, hz1, hz2⟩ := info_parts Tryz.info124
  obtain ⟨j0, hj, hj0, hj1, hj2⟩ := info_parts Tryz.info131
  obtain ⟨l0, hl, hl0, hl1, hl2⟩ := info_parts Tryz.info142
  have HLT : Hid (∀ ad, ao = some ad → 0 < n → ad.block < w.heap.size) := hz.lt
  have HBY := hide hz.bytes
  have HLEN := hide hz.len
  have HM0 := hide (Mk.start hz hn)
  clear hz
  have HB1 := hide (byte_any _ ao n cap zs ⟨0, 0, 0, 0⟩ 72 72 _ HM0.out.rd)
  simp only [cfCells, RdObj] at HB1
  go_enter Tryz.func96, Tryz.ntmps96
  go_wp2_with fail
  refine HB1.out.mono ?_
  rintro e w1 ⟨rfl, hr1, ht1⟩
  have HM1 := hide (HM0.out.byte hr1 ht1)
  clear hr1 ht1 HM0 HB1
  generalize hE1 : (rdB zs 72 72 ⟨0, 0, 0, 0⟩).2 = r1 at HM1
  have HB2 := hide (byte_any _ ao n cap zs r1 1 4 _ HM1.out.rd)
  have hN := rdB_val zs 1 4 r1 (by omega)
  generalize hE2 : (rdB zs 1 4 r1).1 = N at HB2 hN
  generalize hE3 : (rdB zs 1 4 r1).2 = r2 at HB2
  have HE1 := hide (And.intro hE1 (And.intro hE2 hE3))
  clear hE1 hE2 hE3
  go_wp2_with fail
  refine HB2.out.mono ?_
  rintro e w2 ⟨rfl, hr2, ht2⟩
  have HM2 := hide (HM1.out.byte hr2 ht2)
  clear hr2 ht2 HM1 HB2
  have HB3 := hide (byte_any _ ao n cap zs r2 1 64 _ HM2.out.rd)
  have hF := rdB_val zs 1 64 r2 (by omega)
  generalize hE4 : (rdB zs 1 64 r2).1 = fr at HB3 hF
  generalize hE5 : (rdB zs 1 64 r2).2 = r3 at HB3
  go_wp2_with fail
  refine HB3.out.mono ?_
  rintro e w3 ⟨rfl, hr3, ht3⟩
  have HM3 := hide (HM2.out.byte hr3 ht3)
  have p0 : w3.cell? ⟨w.heap.size + 2, 0, none⟩ = some (.int .i64 0) := by rw [cell_of_row _ _ _ _ _ _ HM3.out.cur]; rfl
  have f0 := free_of_block HM3.out.cur 0
  clear hr3 ht3 HM2 HB3
  have HM4 : Hid (Mk ao n cap zs w (cfCells fr 0 (.slice none 0 0) (.slice none 0 0) (.slice none 0 0)) r3 (w3.setCell ⟨w.heap.size + 2, 0, none⟩ (.int .i64 fr))) := HM3.out.set HLT.out 0 (.int .i64 fr)
  have HB4 := hide (byte_any _ ao n cap zs r3 0 200 _ HM4.out.rd)
  generalize hE6 : (rdB zs 0 200 r3).1 = wt at HB4
  generalize hE7 : (rdB zs 0 200 r3).2 = r4 at HB4
  have HE2 := hide (And.intro hE4 (And.intro hE5 (And.intro hE6 hE7)))
  clear hE4 hE5 hE6 hE7
  go_wp2_with fail
  refine HB4.out.mono ?_
  rintro e w4 ⟨rfl, hr4, ht4⟩
  have HM5 := hide (HM4.out.byte hr4 ht4)
  have p1 : w4.cell? ⟨w.heap.size + 2, 1, none⟩ = some (.int .i64 0) := by rw [cell_of_row _ _ _ _ _ _ HM5.out.cur]; rfl
  have f1 := free_of_block HM5.out.cur 1
  clear hr4 ht4 HM4 HB4 HM3 p0 f0
  have HM6 : Hid (Mk ao n cap zs w (cfCells fr wt (.slice none 0 0) (.slice none 0 0) (.slice none 0 0)) r4 (w4.setCell ⟨w.heap.size + 2, 1, none⟩ (.int .i64 wt))) := HM5.out.set HLT.out 1 (.int .i64 wt)
  go_upto_block 0 with fail
  go_cut [8, 9] from 30 to 49 (fun s8 s9 wx => ∃ v, Mk ao n cap zs w (cfCells fr wt v (.slice none 0 0) (.slice none 0 0)) (rdTo (rdPart zs) N.toNat r4).2 wx ∧ PartsV (w.heap.size + 3) v (rdTo (rdPart zs) N.toNat r4).1 wx)
  case first =>
    go_wp2_with fail
    go_loopw [8] (fun i wr => ∃ (k : Nat) (v : Value), (k : Int) ≤ N ∧ i = .int .i64 k ∧ Mk ao n cap zs w (cfCells fr wt v (.slice none 0 0) (.slice none 0 0)) (rdTo (rdPart zs) k r4).2 wr ∧ PartsV (w.heap.size + 3) v (rdTo (rdPart zs) k r4).1 wr) (fun i _ => N.toNat - (intOf i).toNat)
    case atStart => exact ⟨0, _, by omega, rfl, HM6.out, parts_nil _ _⟩
    case round =>
      obtain ⟨k, v, hk, rfl, hM, hV⟩ := hrel
      have hlen := rdTo_length (rdPart zs) k r4
      have c2 : wr.cell? ⟨w.heap.size + 1, 2, none⟩ = some (.int .i64 (rdTo (rdPart zs) k r4).2.err) := by rw [cell_of_row _ _ _ _ _ _ hM.rd.obj]; rfl
      have hws : w.heap.size + 2 < wr.heap.size := lt_of_block hM.cur
      by_cases hgo : (k : Int) < N ∧ (rdTo (rdPart zs) k r4).2.err = 0
      · obtain ⟨hlt, he⟩ := hgo
        have HGO := hide (rdTo_go (rdPart zs) k r4 he)
        have b1 : ((rdTo (rdPart zs) k r4).2.err == 0) = true := by simp [he]
        have HPR := hide (partition_any _ ao n cap zs (rdTo (rdPart zs) k r4).2 wr hM.rd)
        have H3 := hide (And.intro hM hV)
        clear he hM hV
        generalize rdTo (rdPart zs) k r4 = Q at HGO b1 HPR H3 c2 hlen
        generalize rdPart zs Q.2 = X at HGO HPR
        go_wp2_with fail
        refine HPR.out.mono ?_
        rintro e wA ⟨vc, rfl, hCA, hrA, htA⟩
        obtain ⟨hM, l, hl1, hl2, hl3⟩ := H3.out
        have hsA := htA.size
        have hll : l.length = Q.1.length := by rw [← hl1, List.length_map]
        have hlb : l.length ≤ 100 := by omega
        clear hll
        have hMA := hM.byte hrA htA
        have hlA2 : wA.ownsRow (w.heap.size + 3) 124 10 v l.length (ptsCells l) := own_keep hl2 (fun b e => htA.block b (World.ownsRow.lt hl2 b e).2 (by have := (World.ownsRow.lt hl2 b e).1; omega))
        have hlA3 : ∀ p ∈ l, ProcsV (w.heap.size + 3) p.2 p.1.procs wA := fun p hp => (hl3 p hp).keep (fun b h1 h2 _ => htA.block b h2 (by omega))
        have p2 : wA.cell? ⟨w.heap.size + 2, 2, none⟩ = some v := by rw [cell_of_row _ _ _ _ _ _ hMA.cur]; rfl
        have hltA : w.heap.size + 2 < wA.heap.size := by omega
        have HA := hide (And.intro hMA (And.intro hlA2 (And.intro hlA3 hCA)))
        have HLA2 := hide hlA2
        have hvc : Hid (∃ ad m c, vc = .slice ad m c) := by
          obtain ⟨l', _, h', _⟩ := hCA
          obtain ⟨ad, c, h⟩ := own_slice h'
          exact ⟨_, _, _, h⟩
        obtain ⟨adc, mc, cc, rfl⟩ := hvc.out
        clear hM hl2 hl3 hMA hlA2 hlA3 hCA hrA htA hvc H3 HPR
        simp only [ptCells]
        generalize hx1 : X.1.acts.getD 0 0 = A0
        generalize hx2 : X.1.acts.getD 1 0 = A1
        generalize hx3 : X.1.acts.getD 2 0 = A2
        generalize hx4 : X.1.acts.getD 3 0 = A3
        generalize hx5 : X.1.acts.getD 4 0 = A4
        generalize hx6 : X.1.acts.getD 5 0 = A5
        obtain ⟨es, hes⟩ : ∃ es : Array Value, es = #[.bool X.1.sys, .int .i64 X.1.words, .int .i64 X.1.limit, .int .i64 A0, .int .i64 A1, .int .i64 A2, .int .i64 A3, .int .i64 A4, .int .i64 A5, .slice adc mc cc] := ⟨_, rfl⟩
        have HES : Hid (es = ptCells X.1.sys X.1.words X.1.limit (fun i => X.1.acts.getD i 0) (.slice adc mc cc)) := by show _ = _; rw [hes, ← hx1, ← hx2, ← hx3, ← hx4, ← hx5, ← hx6]; rfl
        have HES2 := hide hes
        have HNEW : Hid (∀ W : World, ∀ jj u, es.toList[jj]? = some u → ((W.alloc (.cells es 124)).alloc (.cells es 124)).cell? ((⟨W.heap.size + 1, 0, none⟩ : Addr).add jj) = some u) := by
          intro W
          have := news_at (W.alloc (.cells es 124)) es 124
          rw [show (W.alloc (.cells es 124)).heap.size = W.heap.size + 1 from by simp] at this
          exact this
        have HONE : Hid (∀ u ∈ es.toList, u.oneCell' = true) := by
          intro u hu
          rw [hes] at hu
          simp at hu
          rcases hu with rfl | rfl | rfl | rfl | rfl | rfl | rfl | rfl | rfl | rfl <;> rfl
        rw [hes] at HNEW HONE
        clear hes hx1 hx2 hx3 hx4 hx5 hx6
        go_wp2_with (at_builtin; go_must (refine wpList_append_lies _ rfl (.tmp 45) (.tmp 47) 67 rfl (w.heap.size + 3) 124 i0 _ 10 96 Tryz.underlying67 hi hz0 hz1 hz2 rfl (by decide) v l.length (ptsCells l) rfl ((HLA2.out.alloc _).alloc _) ⟨wA.heap.size + 1, 0, none⟩ 1 1 _ (by rfl) rfl (HNEW.out wA) HONE.out (by omega) (by unfold maxLen; omega) (by omega) (by simp; omega) _ rfl ?_))
        intro g c w5 hown5 hgrow5 _ _
        obtain ⟨hMA, hlA2, hlA3, hCA⟩ := HA.out
        have hg5 := grown_alloc (grown_alloc hgrow5)
        have hge : ∀ b, v.ownBlock = some b → w.heap.size + 3 ≤ b := fun b e => (World.ownsRow.lt hlA2 b e).1
        have hb5 : Below (w.heap.size + 3) wA w5 := (Below.refl _ _).grown hg5 (by omega) (fun k e => hge k e)
        have hM5 := hMA.below HLT.out hb5
        have hs5 := hg5.size
        have far : ∀ b, b < wA.heap.size → (∃ cur t, (t = 210 ∨ t = 190) ∧ wA.heap[b]? = some (.cells cur t (0, 0))) → w5.heap[b]? = wA.heap[b]? := by
          intro b hb ⟨cur, t, ht, hcur⟩
          refine hg5.block b hb (fun e => ?_)
          obtain ⟨cur', hh⟩ := own_of hlA2 e.symm
          rw [hh] at hcur
          rcases ht with rfl | rfl <;> simp at hcur
        have hl5 : ∀ p ∈ l ++ [(X.1, Value.slice adc mc cc)], ProcsV (w.heap.size + 3) p.2 p.1.procs w5 := by
          intro p hp
          rcases List.mem_append.1 hp with hp | hp
          · exact (hlA3 p hp).keep (fun b _ h2 h3 => far b h2 h3)
          · simp at hp; subst hp
            exact (hCA.base (show w.heap.size + 3 ≤ wr.heap.size from by omega)).keep (fun b _ h2 h3 => far b h2 h3)
        have e2 : w5.cell? ⟨w.heap.size + 2, 2, none⟩ = some v := by rw [cell_of_row _ _ _ _ _ _ hM5.cur]; rfl
        have f2 := free_of_block hM5.cur 2
        have hown5' : w5.ownsRow (w.heap.size + 3) 124 10 (.slice (some ⟨g, 0, none⟩) (l.length + 1) c) (l.length + 1) (ptsCells l ++ (ptCells X.1.sys X.1.words X.1.limit (fun i => X.1.acts.getD i 0) (.slice adc mc cc)).toList) := by rw [← HES.out, HES2.out]; exact hown5
        have H5 := hide (And.intro hM5 (And.intro hown5' hl5))
        clear hMA hlA2 hlA3 hCA hg5 hge hb5 hM5 far hl5 hown5 hown5' hgrow5 HA HLA2 p2 HNEW HONE HES HES2
        go_wp2
        go_roundw
        case rel =>
          obtain ⟨hM5, hown5, hl5⟩ := H5.out
          have hS := hM5.set HLT.out 2 (.slice (some ⟨g, 0, none⟩) (l.length + 1) c)
          have tS : Touch (· = w.heap.size + 2) w5 (w5.setCell ⟨w.heap.size + 2, 2, none⟩ (.slice (some ⟨g, 0, none⟩) (l.length + 1) c)) := Touch.ofSet w5 _ 2 _ rfl
          refine ⟨k + 1, .slice (some ⟨g, 0, none⟩) (l.length + 1) c, by omega, by go_num, by rw [HGO.out]; exact hS, ?_⟩
          rw [HGO.out]
          refine ⟨l ++ [(X.1, Value.slice adc mc cc)], by simp [hl1], ?_, fun p hp => (hl5 p hp).keep (fun b h1 h2 _ => tS.block b h2 (by omega))⟩
          rw [ptsCells_snoc, List.length_append]
          exact own_keep hown5 (fun b e => tS.block b (World.ownsRow.lt hown5 b e).2 (by have := (World.ownsRow.lt hown5 b e).1; omega))
        case measure => simp [intOf]; omega
      · have hcase : ((k : Int) < N ∧ ((rdTo (rdPart zs) k r4).2.err == 0) = false) ∨ ¬ (k : Int) < N := by
          by_cases hkn : (k : Int) < N
          · exact .inl ⟨hkn, by simp; exact fun he => hgo ⟨hkn, he⟩⟩
          · exact .inr hkn
        have hfin : rdTo (rdPart zs) N.toNat r4 = rdTo (rdPart zs) k r4 := by
          by_cases hkn : (k : Int) < N
          · exact rdTo_stop (rdPart zs) k r4 (fun he => hgo ⟨hkn, he⟩) N.toNat (by omega)
          · obtain rfl : k = N.toNat := by omega
            rfl
        have HRES : Hid (∃ v, Mk ao n cap zs w (cfCells fr wt v (.slice none 0 0) (.slice none 0 0)) (rdTo (rdPart zs) N.toNat r4).2 wr ∧ PartsV (w.heap.size + 3) v (rdTo (rdPart zs) N.toNat r4).1 wr) := ⟨v, by rw [hfin]; exact hM, by rw [hfin]; exact hV⟩
        clear hgo hfin hM hV HM6 HM5 p1 f1
        rcases hcase with ⟨hkn, be⟩ | hkn
        all_goals
          go_wp2_with fail
          go_meet
          exact HRES.out
  case rest =>
  obtain ⟨v, hM, hV⟩ := hcut
  clear HM5 HM6 p1 f1
  have hvf : Hid (∃ ad m c, v = .slice ad m c) := by
    obtain ⟨l', _, h', _⟩ := hV
    obtain ⟨ad, c, h⟩ := own_slice h'
    exact ⟨_, _, _, h⟩
  obtain ⟨adP, mP, cP, rfl⟩ := hvf.out
  generalize hE8 : rdTo (rdPart zs) N.toNat r4 = P at *
  have HM7 := hide hM
  have HV7 := hide hV
  clear hvf hM hV
  have HB5 := hide (byte_any _ ao n cap zs P.2 1 8 _ HM7.out.rd)
  have hMb := rdB_val zs 1 8 P.2 (by omega)
  generalize hE9 : (rdB zs 1 8 P.2).1 = M at HB5 hMb
  generalize hE10 : (rdB zs 1 8 P.2).2 = r6 at HB5
  have HE3 := hide (And.intro hE8 (And.intro hE9 hE10))
  clear hE8 hE9 hE10
  go_wp2_with fail
  refine HB5.out.mono ?_
  rintro e w6 ⟨rfl, hr6, ht6⟩
  have HM8 := hide (HM7.out.byte hr6 ht6)
  have HV8 := hide (HV7.out.keep (fun b h1 h2 _ => ht6.block b h2 (by omega)))
  clear hr6 ht6 HM7 HV7 HB5
  go_upto_block 2 with fail
  obtain ⟨r7, hr7⟩ : ∃ r7 : Rd, r7 = { r6 with fin := 0 } := ⟨_, rfl⟩
  have HM9 : Hid (Mk ao n cap zs w (cfCells fr wt (.slice adP mP cP) (.slice none 0 0) (.slice none 0 0)) r7 w6) := by rw [hr7]; exact HM8.out.fin 0
  have h70 : r7.fin = 0 := by rw [hr7]
  have HE4 := hide hr7
  have H70 := hide h70
  clear hr7 h70 HM8
  go_cut [11, 12, 13] from 52 to 94 (fun s11 s12 s13 wx => ∃ v, Mk ao n cap zs w (cfCells fr wt (.slice adP mP cP) v (.slice none 0 0)) (rdTo (rdWin zs N fr) M.toNat r7).2 wx ∧ PartsV (w.heap.size + 3) (.slice adP mP cP) P.1 wx ∧ WinsV (w.heap.size + 3) v (rdTo (rdWin zs N fr) M.toNat r7).1 wx)
  case first =>
    go_wp2_with fail
    go_loopw [11, 12] (fun s i wr => ∃ (k : Nat) (v : Value), (k : Int) ≤ M ∧ i = .int .i64 k ∧ s = .int .i64 (rdTo (rdWin zs N fr) k r7).2.fin ∧ Mk ao n cap zs w (cfCells fr wt (.slice adP mP cP) v (.slice none 0 0)) (rdTo (rdWin zs N fr) k r7).2 wr ∧ PartsV (w.heap.size + 3) (.slice adP mP cP) P.1 wr ∧ WinsV (w.heap.size + 3) v (rdTo (rdWin zs N fr) k r7).1 wr) (fun _ i _ => M.toNat - (intOf i).toNat)
    case atStart => exact ⟨0, _, by omega, rfl, int_eq H70.out.symm, HM9.out, HV8.out, World.ownsRow_nil _ _ _ _⟩
    case round =>
      obtain ⟨k, v, hk, rfl, rfl, hM, hVP, hV⟩ := hrel
      have hlen := rdTo_length (rdWin zs N fr) k r7
      have c2 : wr.cell? ⟨w.heap.size + 1, 2, none⟩ = some (.int .i64 (rdTo (rdWin zs N fr) k r7).2.err) := by rw [cell_of_row _ _ _ _ _ _ hM.rd.obj]; rfl
      have hws : w.heap.size + 2 < wr.heap.size := lt_of_block hM.cur
      by_cases hgo : (k : Int) < M ∧ (rdTo (rdWin zs N fr) k r7).2.err = 0
      · obtain ⟨hlt, he⟩ := hgo
        have HGO := hide (rdTo_go (rdWin zs N fr) k r7 he)
        have hfb := win_fin zs N fr r7 H70.out (by omega) k he
        have b1 : ((rdTo (rdWin zs N fr) k r7).2.err == 0) = true := by simp [he]
        have HBA := hide (byte_any _ ao n cap zs (rdTo (rdWin zs N fr) k r7).2 0 (N - 1) wr hM.rd)
        have H3 := hide (And.intro hM (And.intro hVP hV))
        clear he hM hV hVP
        generalize rdTo (rdWin zs N fr) k r7 = Q at HGO b1 HBA H3 c2 hlen hfb
        have HX : Hid (rdWin zs N fr Q.2 = (⟨(rdB zs 0 (N - 1) Q.2).1, (rdB zs Q.2.fin (fr - 1) (rdB zs 0 (N - 1) Q.2).2).1, (rdB zs 1 (fr - (rdB zs Q.2.fin (fr - 1) (rdB zs 0 (N - 1) Q.2).2).1) (rdB zs Q.2.fin (fr - 1) (rdB zs 0 (N - 1) Q.2).2).2).1⟩,
          { (rdB zs 1 (fr - (rdB zs Q.2.fin (fr - 1) (rdB zs 0 (N - 1) Q.2).2).1) (rdB zs Q.2.fin (fr - 1) (rdB zs 0 (N - 1) Q.2).2).2).2 with fin := (rdB zs Q.2.fin (fr - 1) (rdB zs 0 (N - 1) Q.2).2).1 + (rdB zs 1 (fr - (rdB zs Q.2.fin (fr - 1) (rdB zs 0 (N - 1) Q.2).2).1) (rdB zs Q.2.fin (fr - 1) (rdB zs 0 (N - 1) Q.2).2).2).1 })) := rfl
        generalize (rdB zs 0 (N - 1) Q.2).1 = va at HX HBA
        generalize (rdB zs 0 (N - 1) Q.2).2 = ra at HX HBA
        go_wp2_with fail
        refine HBA.out.mono ?_
        rintro e wA ⟨rfl, hrA, htA⟩
        obtain ⟨hM, hVP, hV⟩ := H3.out
        have hsA := htA.size
        have hMA := hM.byte hrA htA
        have hVPA := hVP.keep (fun b h1 h2 _ => htA.block b h2 (by omega))
        have hVA : wA.ownsRow (w.heap.size + 3) 131 3 v Q.1.length (winCells Q.1) := own_type hV (fun b h1 h2 _ => htA.block b h2 (by omega))
        have hbA : Below wA.heap.size wA (wA.alloc (.cells #[.int .i64 va, .int .i64 0, .int .i64 0] 131)) := (Below.refl _ _).alloc (Nat.le_refl _) _
        have hMB := hMA.below HLT.out (hbA.mono (by omega))
        have q0 : wA.cell? ⟨w.heap.size + 2, 0, none⟩ = some (.int .i64 fr) := by rw [cell_of_row _ _ _ _ _ _ hMA.cur]; rfl
        have hltA : w.heap.size + 2 < wA.heap.size := by omega
        have HBB := hide (byte_any _ ao n cap zs ra Q.2.fin (fr - 1) _ hMB.rd)
        have hvb := rdB_small zs Q.2.fin (fr - 1) ra HBY.out hfb.1 (by omega)
        generalize (rdB zs Q.2.fin (fr - 1) ra).1 = vb at HX HBB hvb
        generalize (rdB zs Q.2.fin (fr - 1) ra).2 = rb2 at HX HBB
        have HA := hide (And.intro hMB (And.intro hVPA hVA))
        have HVB : Hid (∀ b, v.ownBlock = some b → w.heap.size + 3 ≤ b ∧ b < wA.heap.size) := fun b e => World.ownsRow.lt hVA b e
        clear hM hVP hV hMA hVPA hVA hbA hMB hrA htA HBA H3
        go_wp2_with fail
        refine HBB.out.mono ?_
        rintro e wC ⟨rfl, hrC, htC⟩
        obtain ⟨hMB, hVPA, hVA⟩ := HA.out
        have hsC : wA.heap.size + 1 ≤ wC.heap.size := by have := htC.size; simp at this; exact this
        have hMC := hMB.byte hrC htC
        have samC : ∀ b, b < wA.heap.size → b ≠ w.heap.size + 1 → wC.heap[b]? = wA.heap[b]? := fun b h1 h2 => (htC.block b (by simp; omega) h2).trans (Below.heap_alloc _ _ _ h1)
        have hBwC : wC.heap[wA.heap.size]? = some (.cells #[.int .i64 va, .int .i64 0, .int .i64 0] 131 (0, 0)) := (htC.block _ (by simp) (by omega)).trans (heap_alloc_new wA _)
        have hVPC := hVPA.keep (w' := wC) (fun b h1 h2 _ => samC b h2 (by omega))
        have hVC : wC.ownsRow (w.heap.size + 3) 131 3 v Q.1.length (winCells Q.1) := own_type hVA (fun b h1 h2 _ => samC b h2 (by omega))
        have q0C : wC.cell? ⟨w.heap.size + 2, 0, none⟩ = some (.int .i64 fr) := by rw [cell_of_row _ _ _ _ _ _ hMC.cur]; rfl
        have s1 : wC.cell? ⟨wA.heap.size, 1, none⟩ = some (.int .i64 0) := by rw [cell_of_row _ _ _ _ _ _ hBwC]; rfl
        have t1 := free_of_block hBwC 1
        have hne1 : ¬ wA.heap.size = w.heap.size + 2 := by omega
        have hne2 : ¬ w.heap.size + 2 = wA.heap.size := by omega
        obtain ⟨wE, hwE⟩ : ∃ wE, wE = wC.setCell ⟨wA.heap.size, 1, none⟩ (.int .i64 vb) := ⟨_, rfl⟩
        have hME : Mk ao n cap zs w (cfCells fr wt (.slice adP mP cP) v (.slice none 0 0)) rb2 wE := by rw [hwE]; exact hMC.setHigh HLT.out _ 1 _ (by omega)
        have hBwE : wE.heap[wA.heap.size]? = some (.cells #[.int .i64 va, .int .i64 vb, .int .i64 0] 131 (0, 0)) := by rw [hwE]; exact block_set hBwC 1 _
        have tE : Touch (· = wA.heap.size) wC wE := by rw [hwE]; exact Touch.ofSet wC _ 1 _ rfl
        have hsE : wE.heap.size = wC.heap.size := by rw [hwE]; simp
        have sub1 : 0 ≤ vb ∧ vb ≤ 255 := hvb
        have HBC := hide (byte_any _ ao n cap zs rb2 1 (fr - vb) _ hME.rd)
        rw [hwE] at HBC
        have hvc := rdB_small zs 1 (fr - vb) rb2 HBY.out (by omega) (by omega)
        generalize (rdB zs 1 (fr - vb) rb2).1 = vc at HX HBC hvc
        generalize (rdB zs 1 (fr - vb) rb2).2 = rc2 at HX HBC
        have HB := hide (And.intro hME (And.intro hBwE (And.intro tE (And.intro hVPC (And.intro hVC hBwC)))))
        have HWE := hide hwE
        clear hMB hVPA hVA hMC samC hBwC hVPC hVC hwE hME hBwE tE hrC htC HBB HA
        go_wp2_with fail
        refine HBC.out.mono ?_
        rintro e wD ⟨rfl, hrD, htD⟩
        rw [← HWE.out] at htD
        obtain ⟨hME, hBwE, tE, hVPC, hVC, hBwC⟩ := HB.out
        have hsD := htD.size
        have hMD := hME.byte hrD htD
        have hBwD : wD.heap[wA.heap.size]? = some (.cells #[.int .i64 va, .int .i64 vb, .int .i64 0] 131 (0, 0)) := (htD.block _ (by omega) (by omega)).trans hBwE
        have sameD : ∀ b, b < wC.heap.size → b ≠ wA.heap.size → b ≠ w.heap.size + 1 → wD.heap[b]? = wC.heap[b]? := fun b h1 h2 h3 => (htD.block b (by omega) h3).trans (tE.block b h1 h2)
        have hVPD := hVPC.keep (w' := wD) (fun b h1 h2 ⟨cur, t, ht, hc⟩ => sameD b h2 (fun hb => by rw [hb, hBwC] at hc; rcases ht with rfl | rfl | rfl <;> simp at hc) (by omega))
        have hVD : wD.ownsRow (w.heap.size + 3) 131 3 v Q.1.length (winCells Q.1) := own_keep hVC (fun b e => sameD b (by have := (HVB.out b e).2; omega) (by have := (HVB.out b e).2; omega) (by have := (HVB.out b e).1; omega))
        have u0 : wD.cell? ⟨wA.heap.size, 0, none⟩ = some (.int .i64 va) := by rw [cell_of_row _ _ _ _ _ _ hBwD]; rfl
        have u1 : wD.cell? ⟨wA.heap.size, 1, none⟩ = some (.int .i64 vb) := by rw [cell_of_row _ _ _ _ _ _ hBwD]; rfl
        have u2 : wD.cell? ⟨wA.heap.size, 2, none⟩ = some (.int .i64 0) := by rw [cell_of_row _ _ _ _ _ _ hBwD]; rfl
        have t2 := free_of_block hBwD 2
        have u3 : wD.cell? ⟨w.heap.size + 2, 3, none⟩ = some v := by rw [cell_of_row _ _ _ _ _ _ hMD.cur]; rfl
        obtain ⟨wF, hwF⟩ : ∃ wF, wF = wD.setCell ⟨wA.heap.size, 2, none⟩ (.int .i64 vc) := ⟨_, rfl⟩
        have hMF : Mk ao n cap zs w (cfCells fr wt (.slice adP mP cP) v (.slice none 0 0)) rc2 wF := by rw [hwF]; exact hMD.setHigh HLT.out _ 2 _ (by omega)
        have tF : Touch (· = wA.heap.size) wD wF := by rw [hwF]; exact Touch.ofSet wD _ 2 _ rfl
        have hsF : wF.heap.size = wD.heap.size := by rw [hwF]; simp
        have hVF : wF.ownsRow (w.heap.size + 3) 131 3 v Q.1.length (winCells Q.1) := own_keep hVD (fun b e => tF.block b (by have := (HVB.out b e).2; omega) (by have := (HVB.out b e).2; omega))
        have hVPF := hVPD.keep (w' := wF) (fun b h1 h2 ⟨cur, t, ht, hc⟩ => tF.block b h2 (fun hb => by rw [hb, hBwD] at hc; rcases ht with rfl | rfl | rfl <;> simp at hc))
        have HF := hide (And.intro hMF (And.intro hVPF hVF))
        have HVF := hide hVF
        have HWF := hide hwF
        have HNEW : Hid (∀ jj u, [Value.int .i64 va, .int .i64 vb, .int .i64 vc][jj]? = some u → (wF.alloc (.cells #[.int .i64 va, .int .i64 vb, .int .i64 vc] 131)).cell? ((⟨wD.heap.size, 0, none⟩ : Addr).add jj) = some u) := by
          rw [← hsF]
          exact news_at wF #[.int .i64 va, .int .i64 vb, .int .i64 vc] 131
        clear hME hBwE tE hVPC hVC hBwC hMD hBwD sameD hVPD hVD hwF hMF tF hVF hVPF hrD htD HBC HB HWE q0 q0C s1 t1
        go_wp2_with (at_builtin; go_must (refine wpList_append_lies _ rfl (.tmp 90) (.tmp 92) 68 rfl (w.heap.size + 3) 131 j0 _ 3 24 Tryz.underlying68 hj hj0 hj1 hj2 rfl (by decide) v Q.1.length (winCells Q.1) rfl (by rw [← HWF.out]; exact HVF.out.alloc _) ⟨wD.heap.size, 0, none⟩ 1 1 [.int .i64 va, .int .i64 vb, .int .i64 vc] (by rfl) rfl (by rw [← HWF.out]; exact HNEW.out) (by intro u hu; simp at hu; rcases hu with rfl | rfl | rfl <;> rfl) (by omega) (by unfold maxLen; omega) (by omega) (by rw [← HWF.out]; simp; omega) _ rfl ?_))
        rw [← HWF.out]
        intro g c w5 hown5 hgrow5 _ _
        obtain ⟨hMF, hVPF, hVF⟩ := HF.out
        have hg5 := grown_alloc hgrow5
        have hb5 : Below (w.heap.size + 3) wF w5 := (Below.refl _ _).grown hg5 (by omega) (fun k e => (HVB.out k e).1)
        have hM5 := hMF.below HLT.out hb5
        have hVP5 := hVPF.keep (w' := w5) (fun b h1 h2 ⟨cur, t, ht, hc⟩ => hg5.block b h2 (fun e => by obtain ⟨cur', hh⟩ := own_of hVF e.symm; rw [hh] at hc; rcases ht with rfl | rfl | rfl <;> simp at hc))
        have e3 : w5.cell? ⟨w.heap.size + 2, 3, none⟩ = some v := by rw [cell_of_row _ _ _ _ _ _ hM5.cur]; rfl
        have g3 := free_of_block hM5.cur 3
        have hs5 := hg5.size
        have H5 := hide (And.intro hM5 (And.intro hVP5 hown5))
        clear hMF hVPF hVF hg5 hb5 hM5 hVP5 hown5 hgrow5 HF HVF HNEW HWF u0 u1 u2 u3 t2
        go_wp2
        go_roundw
        case rel =>
          obtain ⟨hM5, hVP5, hown5⟩ := H5.out
          have hS := (hM5.set HLT.out 3 (.slice (some ⟨g, 0, none⟩) (Q.1.length + 1) c)).fin (vb + vc)
          have tS : Touch (· = w.heap.size + 2) w5 (w5.setCell ⟨w.heap.size + 2, 3, none⟩ (.slice (some ⟨g, 0, none⟩) (Q.1.length + 1) c)) := Touch.ofSet w5 _ 3 _ rfl
          refine ⟨k + 1, .slice (some ⟨g, 0, none⟩) (Q.1.length + 1) c, by omega, by go_num, by rw [HGO.out, HX.out], by rw [HGO.out, HX.out]; exact hS, hVP5.keep (fun b h1 h2 _ => tS.block b h2 (by omega)), ?_⟩
          rw [HGO.out, HX.out]
          show World.ownsRow _ _ _ _ _ _ _
          rw [winCells_snoc, List.length_append]
          exact own_keep hown5 (fun b e => tS.block b (World.ownsRow.lt hown5 b e).2 (by have := (World.ownsRow.lt hown5 b e).1; omega))
        case measure => simp [intOf]; omega
      · have hcase : ((k : Int) < M ∧ ((rdTo (rdWin zs N fr) k r7).2.err == 0) = false) ∨ ¬ (k : Int) < M := by
          by_cases hkn : (k : Int) < M
          · exact .inl ⟨hkn, by simp; exact fun he => hgo ⟨hkn, he⟩⟩
          · exact .inr hkn
        have hfin : rdTo (rdWin zs N fr) M.toNat r7 = rdTo (rdWin zs N fr) k r7 := by
          by_cases hkn : (k : Int) < M
          · exact rdTo_stop (rdWin zs N fr) k r7 (fun he => hgo ⟨hkn, he⟩) M.toNat (by omega)
          · obtain rfl : k = M.toNat := by omega
            rfl
        have HRES : Hid (∃ v, Mk ao n cap zs w (cfCells fr wt (.slice adP mP cP) v (.slice none 0 0)) (rdTo (rdWin zs N fr) M.toNat r7).2 wr ∧ PartsV (w.heap.size + 3) (.slice adP mP cP) P.1 wr ∧ WinsV (w.heap.size + 3) v (rdTo (rdWin zs N fr) M.toNat r7).1 wr) := ⟨v, by rw [hfin]; exact hM, hVP, by rw [hfin]; exact hV⟩
        clear hgo hfin hM hV hVP HM9
        rcases hcase with ⟨hkn, be⟩ | hkn
        all_goals
          go_wp2_with fail
          go_meet
          exact HRES.out
  case rest =>
  obtain ⟨v, hM, hVP, hV⟩ := hcut
  clear HM9
  obtain ⟨adW, cW, rfl⟩ := own_slice hV
  generalize hE11 : rdTo (rdWin zs N fr) M.toNat r7 = W at *
  have HM10 := hide hM
  have HV10 := hide (And.intro hVP hV)
  clear hM hVP hV HV8 H70
  have HB6 := hide (byte_any _ ao n cap zs W.2 0 4 _ HM10.out.rd)
  have hKb := rdB_val zs 0 4 W.2 (by omega)
  generalize hE12 : (rdB zs 0 4 W.2).1 = K at HB6 hKb
  generalize hE13 : (rdB zs 0 4 W.2).2 = r8 at HB6
  have HE5 := hide (And.intro hE11 (And.intro hE12 hE13))
  clear hE11 hE12 hE13
  go_wp2_with fail
  refine HB6.out.mono ?_
  rintro e w8 ⟨rfl, hr8, ht8⟩
  have HM11 := hide (HM10.out.byte hr8 ht8)
  have HV11 : Hid (PartsV (w.heap.size + 3) (.slice adP mP cP) P.1 w8 ∧ WinsV (w.heap.size + 3) (.slice adW W.1.length cW) W.1 w8) := ⟨HV10.out.1.keep (fun b h1 h2 _ => ht8.block b h2 (by omega)), own_type HV10.out.2 (fun b h1 h2 _ => ht8.block b h2 (by omega))⟩
  clear hr8 ht8 HM10 HV10 HB6
  go_upto_block 4 with fail
  go_cut [14, 15] from 97 to 133 (fun s14 s15 wx => ∃ v, Mk ao n cap zs w (cfCells fr wt (.slice adP mP cP) (.slice adW W.1.length cW) v) (rdTo (rdChan zs N) K.toNat r8).2 wx ∧ (PartsV (w.heap.size + 3) (.slice adP mP cP) P.1 wx ∧ WinsV (w.heap.size + 3) (.slice adW W.1.length cW) W.1 wx) ∧ ChansV (w.heap.size + 3) v (rdTo (rdChan zs N) K.toNat r8).1 wx)
  case first =>
    go_wp2_with fail
    go_loopw [14] (fun i wr => ∃ (k : Nat) (v : Value), (k : Int) ≤ K ∧ i = .int .i64 k ∧ Mk ao n cap zs w (cfCells fr wt (.slice adP mP cP) (.slice adW W.1.length cW) v) (rdTo (rdChan zs N) k r8).2 wr ∧ (PartsV (w.heap.size + 3) (.slice adP mP cP) P.1 wr ∧ WinsV (w.heap.size + 3) (.slice adW W.1.length cW) W.1 wr) ∧ ChansV (w.heap.size + 3) v (rdTo (rdChan zs N) k r8).1 wr) (fun i _ => K.toNat - (intOf i).toNat)
    case atStart => exact ⟨0, _, by omega, rfl, HM11.out, HV11.out, World.ownsRow_nil _ _ _ _⟩
    case round =>
      obtain ⟨k, v, hk, rfl, hM, hVP, hV⟩ := hrel
      have hlen := rdTo_length (rdChan zs N) k r8
      have c2 : wr.cell? ⟨w.heap.size + 1, 2, none⟩ = some (.int .i64 (rdTo (rdChan zs N) k r8).2.err) := by rw [cell_of_row _ _ _ _ _ _ hM.rd.obj]; rfl
      have hws : w.heap.size + 2 < wr.heap.size := lt_of_block hM.cur
      by_cases hgo : (k : Int) < K ∧ (rdTo (rdChan zs N) k r8).2.err = 0
      · obtain ⟨hlt, he⟩ := hgo
        have HGO := hide (rdTo_go (rdChan zs N) k r8 he)
        have b1 : ((rdTo (rdChan zs N) k r8).2.err == 0) = true := by simp [he]
        have HBA := hide (byte_any _ ao n cap zs (rdTo (rdChan zs N) k r8).2 0 (N - 1) wr hM.rd)
        have H3 := hide (And.intro hM (And.intro hVP hV))
        clear he hM hV hVP
        generalize rdTo (rdChan zs N) k r8 = Q at HGO b1 HBA H3 c2 hlen
        have HX : Hid (rdChan zs N Q.2 = (⟨(rdB zs 0 (N - 1) Q.2).1, (rdB zs 0 (N - 1) (rdB zs 0 (N - 1) Q.2).2).1, (rdB zs 1 4 (rdNot (rdB zs 0 (N - 1) (rdB zs 0 (N - 1) Q.2).2).1 (rdB zs 0 (N - 1) Q.2).1 (rdB zs 0 (N - 1) (rdB zs 0 (N - 1) Q.2).2).2)).1⟩,
          (rdB zs 1 4 (rdNot (rdB zs 0 (N - 1) (rdB zs 0 (N - 1) Q.2).2).1 (rdB zs 0 (N - 1) Q.2).1 (rdB zs 0 (N - 1) (rdB zs 0 (N - 1) Q.2).2).2)).2)) := rfl
        generalize (rdB zs 0 (N - 1) Q.2).1 = va at HX HBA
        generalize (rdB zs 0 (N - 1) Q.2).2 = ra at HX HBA
        go_wp2_with fail
        refine HBA.out.mono ?_
        rintro e wA ⟨rfl, hrA, htA⟩
        obtain ⟨hM, hVP, hV⟩ := H3.out
        have hsA := htA.size
        have hMA := hM.byte hrA htA
        have hVPA : PartsV (w.heap.size + 3) (.slice adP mP cP) P.1 wA ∧ WinsV (w.heap.size + 3) (.slice adW W.1.length cW) W.1 wA := ⟨hVP.1.keep (fun b h1 h2 _ => htA.block b h2 (by omega)), own_type hVP.2 (fun b h1 h2 _ => htA.block b h2 (by omega))⟩
        have hVA : wA.ownsRow (w.heap.size + 3) 142 3 v Q.1.length (chanCells Q.1) := own_type hV (fun b h1 h2 _ => htA.block b h2 (by omega))
        have hbA : Below wA.heap.size wA (wA.alloc (.cells #[.int .i64 va, .int .i64 0, .int .i64 0] 142)) := (Below.refl _ _).alloc (Nat.le_refl _) _
        have hMB := hMA.below HLT.out (hbA.mono (by omega))
        have hltA : w.heap.size + 2 < wA.heap.size := by omega
        have HBB := hide (byte_any _ ao n cap zs ra 0 (N - 1) _ hMB.rd)
        generalize (rdB zs 0 (N - 1) ra).1 = vb at HX HBB
        generalize (rdB zs 0 (N - 1) ra).2 = rb2 at HX HBB
        have HA := hide (And.intro hMB (And.intro hVPA hVA))
        have HVB : Hid (∀ b, v.ownBlock = some b → w.heap.size + 3 ≤ b ∧ b < wA.heap.size) := fun b e => World.ownsRow.lt hVA b e
        clear hM hVP hV hMA hVPA hVA hbA hMB hrA htA HBA H3
        go_wp2_with fail
        refine HBB.out.mono ?_
        rintro e wC ⟨rfl, hrC, htC⟩
        obtain ⟨hMB, hVPA, hVA⟩ := HA.out
        have hsC : wA.heap.size + 1 ≤ wC.heap.size := by have := htC.size; simp at this; exact this
        have hMC := hMB.byte hrC htC
        have samC : ∀ b, b < wA.heap.size → b ≠ w.heap.size + 1 → wC.heap[b]? = wA.heap[b]? := fun b h1 h2 => (htC.block b (by simp; omega) h2).trans (Below.heap_alloc _ _ _ h1)
        have hBwC : wC.heap[wA.heap.size]? = some (.cells #[.int .i64 va, .int .i64 0, .int .i64 0] 142 (0, 0)) := (htC.block _ (by simp) (by omega)).trans (heap_alloc_new wA _)
        have hVPC : PartsV (w.heap.size + 3) (.slice adP mP cP) P.1 wC ∧ WinsV (w.heap.size + 3) (.slice adW W.1.length cW) W.1 wC := ⟨hVPA.1.keep (fun b h1 h2 _ => samC b h2 (by omega)), own_type hVPA.2 (fun b h1 h2 _ => samC b h2 (by omega))⟩
        have hVC : wC.ownsRow (w.heap.size + 3) 142 3 v Q.1.length (chanCells Q.1) := own_type hVA (fun b h1 h2 _ => samC b h2 (by omega))
        have s0 : wC.cell? ⟨wA.heap.size, 0, none⟩ = some (.int .i64 va) := by rw [cell_of_row _ _ _ _ _ _ hBwC]; rfl
        have s1 : wC.cell? ⟨wA.heap.size, 1, none⟩ = some (.int .i64 0) := by rw [cell_of_row _ _ _ _ _ _ hBwC]; rfl
        have t1 := free_of_block hBwC 1
        have hne1 : ¬ wA.heap.size = w.heap.size + 2 := by omega
        have hne2 : ¬ w.heap.size + 2 = wA.heap.size := by omega
        obtain ⟨wE, hwE⟩ : ∃ wE, wE = wC.setCell ⟨wA.heap.size, 1, none⟩ (.int .i64 vb) := ⟨_, rfl⟩
        have hME : Mk ao n cap zs w (cfCells fr wt (.slice adP mP cP) (.slice adW W.1.length cW) v) rb2 wE := by rw [hwE]; exact hMC.setHigh HLT.out _ 1 _ (by omega)
        have hBwE : wE.heap[wA.heap.size]? = some (.cells #[.int .i64 va, .int .i64 vb, .int .i64 0] 142 (0, 0)) := by rw [hwE]; exact block_set hBwC 1 _
        have tE : Touch (· = wA.heap.size) wC wE := by rw [hwE]; exact Touch.ofSet wC _ 1 _ rfl
        have hsE : wE.heap.size = wC.heap.size := by rw [hwE]; simp
        have HBN := hide (not_any _ ao n cap zs rb2 vb va _ hME.rd)
        rw [hwE] at HBN
        generalize rdNot vb va rb2 = rn at HX HBN
        have HB := hide (And.intro hME (And.intro hBwE (And.intro tE (And.intro hVPC (And.intro hVC hBwC)))))
        have HWE := hide hwE
        clear hMB hVPA hVA hMC samC hBwC hVPC hVC hwE hME hBwE tE hrC htC HBB HA
        go_wp2_with fail
        refine HBN.out.mono ?_
        rintro e wN ⟨rfl, hrN, htN⟩
        rw [← HWE.out] at htN
        obtain ⟨hME, hBwE, tE, hVPC, hVC, hBwC⟩ := HB.out
        have hsN := htN.size
        have hMN := hME.byte hrN htN
        have HBC := hide (byte_any _ ao n cap zs rn 1 4 _ hMN.rd)
        generalize (rdB zs 1 4 rn).1 = vc at HX HBC
        generalize (rdB zs 1 4 rn).2 = rc2 at HX HBC
        have HN := hide (And.intro hMN htN)
        clear hME hBwE tE hVPC hVC hBwC hMN hrN htN HBN
        go_wp2_with fail
        refine HBC.out.mono ?_
        rintro e wD ⟨rfl, hrD, htD⟩
        obtain ⟨hME, hBwE, tE, hVPC, hVC, hBwC⟩ := HB.out
        obtain ⟨hMN, htN⟩ := HN.out
        have hsD := htD.size
        have hMD := hMN.byte hrD htD
        have htED : Touch (· = w.heap.size + 1) wE wD := Touch.trans (T := (· = w.heap.size + 1)) htN htD (fun i hi => .inl hi)
        have hBwD : wD.heap[wA.heap.size]? = some (.cells #[.int .i64 va, .int .i64 vb, .int .i64 0] 142 (0, 0)) := (htED.block _ (by omega) (by omega)).trans hBwE
        have sameD : ∀ b, b < wC.heap.size → b ≠ wA.heap.size → b ≠ w.heap.size + 1 → wD.heap[b]? = wC.heap[b]? := fun b h1 h2 h3 => (htED.block b (by omega) h3).trans (tE.block b h1 h2)
        have hVPD : PartsV (w.heap.size + 3) (.slice adP mP cP) P.1 wD ∧ WinsV (w.heap.size + 3) (.slice adW W.1.length cW) W.1 wD := ⟨hVPC.1.keep (fun b h1 h2 ⟨cur, t, ht, hc⟩ => sameD b h2 (fun hb => by rw [hb, hBwC] at hc; rcases ht with rfl | rfl | rfl <;> simp at hc) (by omega)), own_type hVPC.2 (fun b h1 h2 ⟨cur, t, ht, hc⟩ => sameD b h2 (fun hb => by rw [hb, hBwC] at hc; subst ht; simp at hc) (by omega))⟩
        have hVD : wD.ownsRow (w.heap.size + 3) 142 3 v Q.1.length (chanCells Q.1) := own_keep hVC (fun b e => sameD b (by have := (HVB.out b e).2; omega) (by have := (HVB.out b e).2; omega) (by have := (HVB.out b e).1; omega))
        have u0 : wD.cell? ⟨wA.heap.size, 0, none⟩ = some (.int .i64 va) := by rw [cell_of_row _ _ _ _ _ _ hBwD]; rfl
        have u1 : wD.cell? ⟨wA.heap.size, 1, none⟩ = some (.int .i64 vb) := by rw [cell_of_row _ _ _ _ _ _ hBwD]; rfl
        have u2 : wD.cell? ⟨wA.heap.size, 2, none⟩ = some (.int .i64 0) := by rw [cell_of_row _ _ _ _ _ _ hBwD]; rfl
        have t2 := free_of_block hBwD 2
        have u4 : wD.cell? ⟨w.heap.size + 2, 4, none⟩ = some v := by rw [cell_of_row _ _ _ _ _ _ hMD.cur]; rfl
        obtain ⟨wF, hwF⟩ : ∃ wF, wF = wD.setCell ⟨wA.heap.size, 2, none⟩ (.int .i64 vc) := ⟨_, rfl⟩
        have hMF : Mk ao n cap zs w (cfCells fr wt (.slice adP mP cP) (.slice adW W.1.length cW) v) rc2 wF := by rw [hwF]; exact hMD.setHigh HLT.out _ 2 _ (by omega)
        have tF : Touch (· = wA.heap.size) wD wF := by rw [hwF]; exact Touch.ofSet wD _ 2 _ rfl
        have hsF : wF.heap.size = wD.heap.size := by rw [hwF]; simp
        have hVF : wF.ownsRow (w.heap.size + 3) 142 3 v Q.1.length (chanCells Q.1) := own_keep hVD (fun b e => tF.block b (by have := (HVB.out b e).2; omega) (by have := (HVB.out b e).2; omega))
        have hVPF : PartsV (w.heap.size + 3) (.slice adP mP cP) P.1 wF ∧ WinsV (w.heap.size + 3) (.slice adW W.1.length cW) W.1 wF := ⟨hVPD.1.keep (fun b h1 h2 ⟨cur, t, ht, hc⟩ => tF.block b h2 (fun hb => by rw [hb, hBwD] at hc; rcases ht with rfl | rfl | rfl <;> simp at hc)), own_type hVPD.2 (fun b h1 h2 ⟨cur, t, ht, hc⟩ => tF.block b h2 (fun hb => by rw [hb, hBwD] at hc; subst ht; simp at hc))⟩
        have HF := hide (And.intro hMF (And.intro hVPF hVF))
        have HVF := hide hVF
        have HWF := hide hwF
        have HNEW : Hid (∀ jj u, [Value.int .i64 va, .int .i64 vb, .int .i64 vc][jj]? = some u → (wF.alloc (.cells #[.int .i64 va, .int .i64 vb, .int .i64 vc] 142)).cell? ((⟨wD.heap.size, 0, none⟩ : Addr).add jj) = some u) := by
          rw [← hsF]
          exact news_at wF #[.int .i64 va, .int .i64 vb, .int .i64 vc] 142
        clear hME hBwE tE hVPC hVC hBwC hMN htN hMD hBwD sameD htED hVPD hVD hwF hMF tF hVF hVPF hrD htD HBC HB HN HWE s0 s1 t1
        go_wp2_with (at_builtin; go_must (refine wpList_append_lies _ rfl (.tmp 129) (.tmp 131) 69 rfl (w.heap.size + 3) 142 l0 _ 3 24 Tryz.underlying69 hl hl0 hl1 hl2 rfl (by decide) v Q.1.length (chanCells Q.1) rfl (by rw [← HWF.out]; exact HVF.out.alloc _) ⟨wD.heap.size, 0, none⟩ 1 1 [.int .i64 va, .int .i64 vb, .int .i64 vc] (by rfl) rfl (by rw [← HWF.out]; exact HNEW.out) (by intro u hu; simp at hu; rcases hu with rfl | rfl | rfl <;> rfl) (by omega) (by unfold maxLen; omega) (by omega) (by rw [← HWF.out]; simp; omega) _ rfl ?_))
        rw [← HWF.out]
        intro g c w5 hown5 hgrow5 _ _
        obtain ⟨hMF, hVPF, hVF⟩ := HF.out
        have hg5 := grown_alloc hgrow5
        have hb5 : Below (w.heap.size + 3) wF w5 := (Below.refl _ _).grown hg5 (by omega) (fun k e => (HVB.out k e).1)
        have hM5 := hMF.below HLT.out hb5
        have hVP5 : PartsV (w.heap.size + 3) (.slice adP mP cP) P.1 w5 ∧ WinsV (w.heap.size + 3) (.slice adW W.1.length cW) W.1 w5 := ⟨hVPF.1.keep (fun b h1 h2 ⟨cur, t, ht, hc⟩ => hg5.block b h2 (fun e => by obtain ⟨cur', hh⟩ := own_of hVF e.symm; rw [hh] at hc; rcases ht with rfl | rfl | rfl <;> simp at hc)), own_type hVPF.2 (fun b h1 h2 ⟨cur, t, ht, hc⟩ => hg5.block b h2 (fun e => by obtain ⟨cur', hh⟩ := own_of hVF e.symm; rw [hh] at hc; subst ht; simp at hc))⟩
        have e4 : w5.cell? ⟨w.heap.size + 2, 4, none⟩ = some v := by rw [cell_of_row _ _ _ _ _ _ hM5.cur]; rfl
        have g4 := free_of_block hM5.cur 4
        have hs5 := hg5.size
        have H5 := hide (And.intro hM5 (And.intro hVP5 hown5))
        clear hMF hVPF hVF hg5 hb5 hM5 hVP5 hown5 hgrow5 HF HVF HNEW HWF u0 u1 u2 u4 t2
        go_wp2
        go_roundw
        case rel =>
          obtain ⟨hM5, hVP5, hown5⟩ := H5.out
          have hS := hM5.set HLT.out 4 (.slice (some ⟨g, 0, none⟩) (Q.1.length + 1) c)
          have tS : Touch (· = w.heap.size + 2) w5 (w5.setCell ⟨w.heap.size + 2, 4, none⟩ (.slice (some ⟨g, 0, none⟩) (Q.1.length + 1) c)) := Touch.ofSet w5 _ 4 _ rfl
          refine ⟨k + 1, .slice (some ⟨g, 0, none⟩) (Q.1.length + 1) c, by omega, by go_num, by rw [HGO.out, HX.out]; exact hS, ⟨hVP5.1.keep (fun b h1 h2 _ => tS.block b h2 (by omega)), own_type hVP5.2 (fun b h1 h2 _ => tS.block b h2 (by omega))⟩, ?_⟩
          rw [HGO.out, HX.out]
          show World.ownsRow _ _ _ _ _ _ _
          rw [chanCells_snoc, List.length_append]
          exact own_keep hown5 (fun b e => tS.block b (World.ownsRow.lt hown5 b e).2 (by have := (World.ownsRow.lt hown5 b e).1; omega))
        case measure => simp [intOf]; omega
      · have hcase : ((k : Int) < K ∧ ((rdTo (rdChan zs N) k r8).2.err == 0) = false) ∨ ¬ (k : Int) < K := by
          by_cases hkn : (k : Int) < K
          · exact .inl ⟨hkn, by simp; exact fun he => hgo ⟨hkn, he⟩⟩
          · exact .inr hkn
        have hfin : rdTo (rdChan zs N) K.toNat r8 = rdTo (rdChan zs N) k r8 := by
          by_cases hkn : (k : Int) < K
          · exact rdTo_stop (rdChan zs N) k r8 (fun he => hgo ⟨hkn, he⟩) K.toNat (by omega)
          · obtain rfl : k = K.toNat := by omega
            rfl
        have HRES : Hid (∃ v, Mk ao n cap zs w (cfCells fr wt (.slice adP mP cP) (.slice adW W.1.length cW) v) (rdTo (rdChan zs N) K.toNat r8).2 wr ∧ (PartsV (w.heap.size + 3) (.slice adP mP cP) P.1 wr ∧ WinsV (w.heap.size + 3) (.slice adW W.1.length cW) W.1 wr) ∧ ChansV (w.heap.size + 3) v (rdTo (rdChan zs N) K.toNat r8).1 wr) := ⟨v, by rw [hfin]; exact hM, hVP, by rw [hfin]; exact hV⟩
        clear hgo hfin hM hV hVP HM11
        rcases hcase with ⟨hkn, be⟩ | hkn
        all_goals
          go_wp2_with fail
          go_meet
          exact HRES.out
  case rest =>
  obtain ⟨v, hM, hVP, hV⟩ := hcut
  clear HM11 HV11
  obtain ⟨adC, cC, rfl⟩ := own_slice hV
  have HCONF : Hid (rdConf zs = (⟨fr, wt, P.1, W.1, (rdTo (rdChan zs N) K.toNat r8).1⟩, (rdTo (rdChan zs N) K.toNat r8).2)) := by
    show _ = _
    obtain ⟨e1, e2, e3⟩ := HE1.out
    obtain ⟨e4, e5, e6, e7⟩ := HE2.out
    obtain ⟨e8, e9, e10⟩ := HE3.out
    have e11 := HE4.out
    obtain ⟨e12, e13, e14⟩ := HE5.out
    unfold rdConf
    simp only [e1, e2, e3, e4, e5, e6, e7, e8, e9, e10, ← e11, e12, e13, e14]
  generalize rdTo (rdChan zs N) K.toNat r8 = C at *
  have HPO : Hid (parseOf zs = if C.2.err ≠ 0 then (noCf, C.2.pl, C.2.err) else if zs.length < C.2.pos + 4 then (noCf, (zs.length : Int), 2) else if numFrom 0 ((zs.drop C.2.pos).take 4) ≠ crcOf (zs.take C.2.pos) then (noCf, (C.2.pos : Int), 5) else if C.2.pos + 4 < zs.length then (noCf, (C.2.pos : Int) + 4, 4) else (⟨fr, wt, P.1, W.1, C.1⟩, 0, 0)) := by
    show _ = _
    unfold parseOf
    simp only [HCONF.out]
  have hzero := hM.zero
  have hcur := hM.cur
  have hob := hM.rd.obj
  have c1 : wc.cell? ⟨w.heap.size + 1, 1, none⟩ = some (.int .i64 C.2.pos) := by rw [cell_of_row _ _ _ _ _ _ hob]; rfl
  have c2 : wc.cell? ⟨w.heap.size + 1, 2, none⟩ = some (.int .i64 C.2.err) := by rw [cell_of_row _ _ _ _ _ _ hob]; rfl
  have c3 : wc.cell? ⟨w.heap.size + 1, 3, none⟩ = some (.int .i64 C.2.pl) := by rw [cell_of_row _ _ _ _ _ _ hob]; rfl
  have y0 : wc.cell? ⟨w.heap.size, 0, none⟩ = some (.int .i64 0) := by rw [cell_of_row _ _ _ _ _ _ hzero]; rfl
  have y1 : wc.cell? ⟨w.heap.size, 1, none⟩ = some (.int .i64 0) := by rw [cell_of_row _ _ _ _ _ _ hzero]; rfl
  have y2 : wc.cell? ⟨w.heap.size, 2, none⟩ = some (.slice none 0 0) := by rw [cell_of_row _ _ _ _ _ _ hzero]; rfl
  have y3 : wc.cell? ⟨w.heap.size, 3, none⟩ = some (.slice none 0 0) := by rw [cell_of_row _ _ _ _ _ _ hzero]; rfl
  have y4 : wc.cell? ⟨w.heap.size, 4, none⟩ = some (.slice none 0 0) := by rw [cell_of_row _ _ _ _ _ _ hzero]; rfl
  have g0 := free_of_block hzero 0
  have g1 := free_of_block hzero 1
  have g2 := free_of_block hzero 2
  have g3 := free_of_block hzero 3
  have g4 := free_of_block hzero 4
  have hpos := hM.rd.pos
  have hlenz := HLEN.out
  have hwsz := lt_of_block hcur
  have HEND := hide (And.intro hM (And.intro hVP hV))
  have HNIL : Hid (∀ w', Below w.heap.size w w' → ConfV w.heap.size (.slice none 0 0) (.slice none 0 0) (.slice none 0 0) noCf w') := fun w' _ => conf_nil _ _
  have HB0 : Hid (∀ W (b : Below w.heap.size w W), Below w.heap.size w (((((W.setCell ⟨w.heap.size, 0, none⟩ (.int .i64 0)).setCell ⟨w.heap.size, 1, none⟩ (.int .i64 0)).setCell ⟨w.heap.size, 2, none⟩ (.slice none 0 0)).setCell ⟨w.heap.size, 3, none⟩ (.slice none 0 0)).setCell ⟨w.heap.size, 4, none⟩ (.slice none 0 0))) := fun W b => ((((b.setCell (Nat.le_refl _) _).setCell (Nat.le_refl _) _).setCell (Nat.le_refl _) _).setCell (Nat.le_refl _) _).setCell (Nat.le_refl _) _
  clear hM hVP hV hzero hcur hob
  have x0 : wc.cell? ⟨w.heap.size + 2, 0, none⟩ = some (.int .i64 fr) := by rw [cell_of_row _ _ _ _ _ _ HEND.out.1.cur]; rfl
  have x1 : wc.cell? ⟨w.heap.size + 2, 1, none⟩ = some (.int .i64 wt) := by rw [cell_of_row _ _ _ _ _ _ HEND.out.1.cur]; rfl
  have x2 : wc.cell? ⟨w.heap.size + 2, 2, none⟩ = some (.slice adP mP cP) := by rw [cell_of_row _ _ _ _ _ _ HEND.out.1.cur]; rfl
  have x3 : wc.cell? ⟨w.heap.size + 2, 3, none⟩ = some (.slice adW W.1.length cW) := by rw [cell_of_row _ _ _ _ _ _ HEND.out.1.cur]; rfl
  have x4 : wc.cell? ⟨w.heap.size + 2, 4, none⟩ = some (.slice adC C.1.length cC) := by rw [cell_of_row _ _ _ _ _ _ HEND.out.1.cur]; rfl
  by_cases hc1 : C.2.err = 0
  · have b1 : (C.2.err != 0) = false := by simp [hc1]
    by_cases hc2 : zs.length < C.2.pos + 4
    · have HP : Hid (parseOf zs = (noCf, (n : Int), 2)) := by show _ = _; rw [HPO.out, if_neg (by simpa using hc1), if_pos hc2, hlenz]
      have b2 : (n : Int) < (C.2.pos : Int) + 4 := by omega
      clear hc1 hc2 HPO x0 x1 x2 x3 x4
      go_wp2
      refine bodyPost_ret (v := .tuple #[.agg (cfCells 0 0 (.slice none 0 0) (.slice none 0 0) (.slice none 0 0)), .int .i64 n, .int .i64 2]) (by simp [results, Tryz.results96, go_sem, cfCells, y0, y1, y2, y3, y4]) rfl ?_
      rw [HP.out]
      exact ⟨_, _, _, rfl, conf_nil _ _, HB0.out _ HEND.out.1.bel⟩
    · have b2 : (C.2.pos : Int) + 4 ≤ (n : Int) := by omega
      obtain ⟨b, off, hao, hrow⟩ := held_row HEND.out.1.rd.held (by omega)
      have hcap1 := HEND.out.1.rd.held.cap1
      have hcap2 := HEND.out.1.rd.held.cap2
      have b3 : (C.2.pos : Int) + 4 ≤ (cap : Int) := by omega
      have b4 : ¬ cap = C.2.pos := by omega
      have b5 : (0 : Int) ≤ (C.2.pos : Int) := by omega
      have b6 : (C.2.pos : Int) ≤ (C.2.pos : Int) + 4 := by omega
      have b7 : (C.2.pos : Int) ≤ (cap : Int) := by omega
      have HNUM : Hid (∀ q c, Calls Tryz.prog 135 #[.slice (some ⟨b, off + C.2.pos, none⟩) 4 c] (wc.drewN q) fun e w' => e = .returned (.int .i64 (numFrom 0 ((zs.drop C.2.pos).take 4) : Nat)) ∧ ∃ m, w' = (wc.drewN q).drewN m) := fun q c => rnumber_piece b off C.2.pos c zs (wc.drewN q) HBY.out (hrow.drewN q) (by omega)
      have HCHK : Hid (∀ q c, Calls Tryz.prog 136 #[.slice (some ⟨b, off, none⟩) C.2.pos c] (wc.drewN q) fun e w' => e = .returned (.int .i64 (crcOf (zs.take C.2.pos) : Nat)) ∧ w' = wc.drewN q) := fun q c => by
        have := rcheck_piece b off 0 C.2.pos c zs (wc.drewN q) HBY.out (hrow.drewN q) (by omega) (by omega)
        simpa using this
      subst hao
      by_cases hc3 : numFrom 0 ((zs.drop C.2.pos).take 4) = crcOf (zs.take C.2.pos)
      · have b8 : (((numFrom 0 ((zs.drop C.2.pos).take 4) : Nat) : Int) != ((crcOf (zs.take C.2.pos) : Nat) : Int)) = false := by simp [hc3]
        by_cases hc4 : C.2.pos + 4 < zs.length
        · have HP : Hid (parseOf zs = (noCf, (C.2.pos : Int) + 4, 4)) := by show _ = _; rw [HPO.out, if_neg (by simpa using hc1), if_neg hc2, if_neg (by simpa using hc3), if_pos hc4]
          have b9 : (C.2.pos : Int) + 4 < (n : Int) := by omega
          generalize numFrom 0 ((zs.drop C.2.pos).take 4) = nu at HNUM b8
          generalize crcOf (zs.take C.2.pos) = cr at HCHK b8
          clear hc1 hc2 hc3 hc4 HPO x0 x1 x2 x3 x4 hrow
          go_wp2
          go_quiet ((first | (go_at_call 135; exact Calls.quiet_of (HNUM.out _ _)) | (go_at_call 136; exact Calls.quiet_of_same (HCHK.out _ _))))
          go_wp2
          go_region
          all_goals
            go_wp2
            refine bodyPost_ret (v := .tuple #[.agg (cfCells 0 0 (.slice none 0 0) (.slice none 0 0) (.slice none 0 0)), .int .i64 ((C.2.pos : Int) + 4), .int .i64 4]) (by simp [results, Tryz.results96, go_sem, cfCells, y0, y1, y2, y3, y4]) rfl ?_
            rw [HP.out]
            exact ⟨_, _, _, rfl, conf_nil _ _, HB0.out _ (below_drewN HEND.out.1.bel _)⟩
        · have HP : Hid (parseOf zs = (⟨fr, wt, P.1, W.1, C.1⟩, 0, 0)) := by show _ = _; rw [HPO.out, if_neg (by simpa using hc1), if_neg hc2, if_neg (by simpa using hc3), if_neg hc4]
          have b9 : ¬ (C.2.pos : Int) + 4 < (n : Int) := by omega
          have HOK : Hid (∀ W', Touch (· = w.heap.size) wc W' → ConfV w.heap.size (.slice adP mP cP) (.slice adW W.1.length cW) (.slice adC C.1.length cC) ⟨fr, wt, P.1, W.1, C.1⟩ W' ∧ Below w.heap.size w W') := fun W' t => ⟨((⟨HEND.out.2.1.1, HEND.out.2.1.2, HEND.out.2.2⟩ : ConfV (w.heap.size + 3) _ _ _ ⟨fr, wt, P.1, W.1, C.1⟩ wc).keep (fun b h1 h2 => t.block b h2 (by omega))).base (by omega), HEND.out.1.bel.trans (t.below HEND.out.1.bel.size (fun k hk => by omega))⟩
          generalize numFrom 0 ((zs.drop C.2.pos).take 4) = nu at HNUM b8
          generalize crcOf (zs.take C.2.pos) = cr at HCHK b8
          clear hc1 hc2 hc3 hc4 HPO hrow
          go_wp2
          go_quiet ((first | (go_at_call 135; exact Calls.quiet_of (HNUM.out _ _)) | (go_at_call 136; exact Calls.quiet_of_same (HCHK.out _ _))))
          go_wp2
          refine bodyPost_ret (v := .tuple #[.agg (cfCells fr wt (.slice adP mP cP) (.slice adW W.1.length cW) (.slice adC C.1.length cC)), .int .i64 0, .int .i64 0]) (by simp [results, Tryz.results96, go_sem, cfCells, y0, y1, y2, y3, y4]) rfl ?_
          rw [HP.out]
          exact ⟨_, _, _, rfl, HOK.out _ (touch_five _ _ _ _ _ _ _ _)⟩
      · have b8 : (((numFrom 0 ((zs.drop C.2.pos).take 4) : Nat) : Int) != ((crcOf (zs.take C.2.pos) : Nat) : Int)) = true := by rw [bne_iff_ne]; omega
        have HP : Hid (parseOf zs = (noCf, (C.2.pos : Int), 5)) := by show _ = _; rw [HPO.out, if_neg (by simpa using hc1), if_neg hc2, if_pos (by simpa using hc3)]
        generalize numFrom 0 ((zs.drop C.2.pos).take 4) = nu at HNUM b8
        generalize crcOf (zs.take C.2.pos) = cr at HCHK b8
        clear hc1 hc2 hc3 HPO x0 x1 x2 x3 x4 hrow
        go_wp2
        go_quiet ((first | (go_at_call 135; exact Calls.quiet_of (HNUM.out _ _)) | (go_at_call 136; exact Calls.quiet_of_same (HCHK.out _ _))))
        go_wp2
        go_region
        all_goals
          go_wp2
          refine bodyPost_ret (v := .tuple #[.agg (cfCells 0 0 (.slice none 0 0) (.slice none 0 0) (.slice none 0 0)), .int .i64 (C.2.pos : Int), .int .i64 5]) (by simp [results, Tryz.results96, go_sem, cfCells, y0, y1, y2, y3, y4]) rfl ?_
          rw [HP.out]
          exact ⟨_, _, _, rfl, conf_nil _ _, HB0.out _ (below_drewN HEND.out.1.bel _)⟩
  · have HP : Hid (parseOf zs = (noCf, C.2.pl, C.2.err)) := by show _ = _; rw [HPO.out, if_pos hc1]
    have b1 : (C.2.err != 0) = true := by simpa using hc1
    clear hc1 x0 x1 x2 x3 x4
    go_wp2
    go_region
    all_goals
      go_wp2
      refine bodyPost_ret (v := .tuple #[.agg (cfCells 0 0 (.slice none 0 0) (.slice none 0 0) (.slice none 0 0)), .int .i64 C.2.pl, .int .i64 C.2.err]) (by simp [results, Tryz.results96, go_sem, cfCells, y0, y1, y2, y3, y4]) rfl ?_
      rw [HP.out]
      exact ⟨_, _, _, rfl, conf_nil _ _, (HB0.out _ HEND.out.1.bel).drew⟩
end Go.Proofs.YtnjlbgolnbdkaaaGreat
/- The program's reader: slices.Contains at ints, number. -/
namespace Go.Proofs.YtnjlbgolnbdkaaaGreat
open Go.RowKit

/- a list of ints that a function may read -/
def IntsAt (w : World) (ao : Option Addr) (es : List Int) : Prop := ∀ i, i < es.length → ∃ b off, ao = some ⟨b, off, none⟩ ∧ w.cell? ⟨b, off + i, none⟩ = some (.int .i64 (es.getD i 0))
theorem ints_none (w : World) : IntsAt w none [] := fun i hi => by simp at hi

set_option maxHeartbeats 800000 in
theorem index_any (ao : Option Addr) (cap : Nat) (es : List Int) (x : Int) (w : World) (hr : IntsAt w ao es) (hn : es.length ≤ 140737488351232) :
    Calls Tryz.prog 162 #[.slice ao es.length cap, .int .i64 x] w fun e w' => (∃ j : Int, e = .returned (.int .i64 j) ∧ (0 ≤ j ↔ x ∈ es)) ∧ w' = w := by
  have HR := hide hr
  clear hr
  go_enter Tryz.func162, Tryz.ntmps162
  go_wp2
  go_loop [8] (fun i => ∃ k : Nat, k ≤ es.length ∧ i = .int .i64 k ∧ ∀ j, j < k → es.getD j 0 ≠ x) (fun i => es.length - (intOf i).toNat)
  case atStart => exact ⟨0, by omega, rfl, fun j hj => by omega⟩
  case round =>
    obtain ⟨k, hk, rfl, hbl⟩ := hrel
    by_cases hlt : k < es.length
    · obtain ⟨b, off, hao, hc⟩ := HR.out k hlt
      subst hao
      have HB := hide hbl
      have HM : Hid (es.getD k 0 ∈ es) := by show _ ∈ _; rw [List.getD_eq_getElem?_getD, List.getElem?_eq_getElem hlt]; simp
      have HZ : Hid (∃ z, z = es.getD k 0) := ⟨_, rfl⟩
      clear hbl
      obtain ⟨z, hz⟩ := HZ.out
      rw [← hz] at hc HM
      have HZ2 := hide hz
      clear hz HZ
      by_cases hzx : x = z
      · have hb : (x == z) = true := by simp [hzx]
        have HX := hide hzx
        clear hzx
        go_wp2
        go_ret
        exact ⟨⟨k, rfl, by rw [HX.out]; exact ⟨fun _ => HM.out, fun _ => by omega⟩⟩, rfl⟩
      · have hb : (x == z) = false := by simpa using hzx
        have HX := hide hzx
        clear hzx
        go_wp2
        go_round
        case rel =>
          refine ⟨k + 1, by omega, by go_num, fun j hj => ?_⟩
          rcases Nat.lt_or_ge j k with h | h
          · exact HB.out j h
          · obtain rfl : j = k := by omega
            rw [← HZ2.out]
            exact fun e => HX.out e.symm
        case measure => simp [intOf]; omega
    · have HE : Hid (x ∉ es) := by
        intro hm
        obtain ⟨i, hi, he⟩ := List.getElem_of_mem hm
        exact hbl i (by omega) (by rw [List.getD_eq_getElem?_getD, List.getElem?_eq_getElem hi]; simpa using he)
      clear hbl
      go_wp2
      go_ret
      exact ⟨⟨-1, rfl, ⟨fun h => by omega, fun h => absurd h HE.out⟩⟩, rfl⟩

set_option maxHeartbeats 800000 in
theorem contains_any (ao : Option Addr) (cap : Nat) (es : List Int) (x : Int) (w : World) (hr : IntsAt w ao es) (hn : es.length ≤ 140737488351232) :
    Calls Tryz.prog 117 #[.slice ao es.length cap, .int .i64 x] w fun e w' => e = .returned (.bool (decide (x ∈ es))) ∧ w' = w := by
  have H := hide (index_any ao cap es x w hr hn)
  clear hr
  go_enter Tryz.func117, Tryz.ntmps117
  go_wp2_with fail
  refine H.out.mono ?_
  rintro e w1 ⟨⟨j, rfl, hj⟩, rfl⟩
  have HJ := hide hj
  clear hj
  go_wp2
  go_ret
  refine ⟨ret_bool ?_, rfl⟩
  rw [Bool.eq_iff_iff]
  simp [HJ.out]

/- a reader of the program: how far it came; what is wrong -/
structure Rs where
  pos : Nat
  err : Int
def pgB (zs : List Int) (lo hi : Int) (es : List Int) (s : Rs) : Int × Rs :=
  if s.err ≠ 0 then (0, s)
  else if zs.length ≤ s.pos then (0, { s with err := 2 })
  else if zs.getD s.pos 0 < lo ∨ hi < zs.getD s.pos 0 ∨ zs.getD s.pos 0 ∈ es then (0, { s with err := 3 })
  else (zs.getD s.pos 0, { s with pos := s.pos + 1 })
theorem pgB_small (zs : List Int) (lo hi : Int) (es : List Int) (s : Rs) (hz : Bytes zs) : 0 ≤ (pgB zs lo hi es s).1 ∧ (pgB zs lo hi es s).1 ≤ 255 := by
  unfold pgB
  split
  · simp
  · split
    · simp
    · split
      · simp
      · have := hz.getD s.pos
        simp only; omega
theorem pgB_le (zs : List Int) (lo hi : Int) (es : List Int) (s : Rs) (hh : 0 ≤ hi) : (pgB zs lo hi es s).1 ≤ hi := by
  unfold pgB
  split
  · exact hh
  · split
    · exact hh
    · split
      · exact hh
      · simp only; omega
def PgObj (bv : Value) (s : Rs) : Obj := .cells #[bv, .int .i64 s.pos, .int .i64 s.err] 104 (0, 0)
structure PgAt (rb : Nat) (ao : Option Addr) (n cap : Nat) (zs : List Int) (s : Rs) (w : World) : Prop where
  obj : w.heap[rb]? = some (PgObj (.slice ao n cap) s)
  held : Held w ao n cap zs
  apart : ∀ ad, ao = some ad → 0 < n → ad.block ≠ rb
  small : n ≤ 140737488351232
  pos : s.pos ≤ n
theorem PgAt.keep {rb : Nat} {ao : Option Addr} {n cap : Nat} {zs : List Int} {s : Rs} {w w' : World} (h : PgAt rb ao n cap zs s w) {S : Nat → Prop} (t : Touch S w w') (hb : ¬ S rb) (hz : ∀ ad, ao = some ad → 0 < n → ¬ S ad.block) : PgAt rb ao n cap zs s w' :=
  ⟨(t.block rb (lt_of_block h.obj) hb).trans h.obj, h.held.touch t hz, h.apart, h.small, h.pos⟩

set_option maxRecDepth 100000 in
set_option maxHeartbeats 2000000 in
theorem pgnumber_any (rb : Nat) (ao : Option Addr) (n cap : Nat) (zs : List Int) (s : Rs) (lo hi : Int) (eo : Option Addr) (ec : Nat) (es : List Int) (w : World) (h : PgAt rb ao n cap zs s w) (he : IntsAt w eo es) (hel : es.length ≤ 2) :
    Calls Tryz.prog 80 #[.pointer (some ⟨rb, 0, none⟩), .int .i64 lo, .int .i64 hi, .slice eo es.length ec] w fun e w' => e = .returned (.int .i64 (pgB zs lo hi es s).1) ∧ PgAt rb ao n cap zs (pgB zs lo hi es s).2 w' ∧ Touch (· = rb) w w' := by
  have hr := h.obj
  have c0 : w.cell? ⟨rb, 0, none⟩ = some (.slice ao n cap) := by rw [cell_of_row _ _ _ _ _ _ hr]; rfl
  have c1 : w.cell? ⟨rb, 1, none⟩ = some (.int .i64 s.pos) := by rw [cell_of_row _ _ _ _ _ _ hr]; rfl
  have c2 : w.cell? ⟨rb, 2, none⟩ = some (.int .i64 s.err) := by rw [cell_of_row _ _ _ _ _ _ hr]; rfl
  have f1 := free_of_block hr 1
  have f2 := free_of_block hr 2
  have hlen := h.held.len
  have hp := h.pos
  have hsm := h.small
  have hn0 : (0 : Int) ≤ (n : Int) := by omega
  have H := hide h
  have back : Hid (∀ (s' : Rs) (w' : World), w'.heap[rb]? = some (PgObj (.slice ao n cap) s') → Touch (· = rb) w w' → s'.pos ≤ n → PgAt rb ao n cap zs s' w') := fun r' w' ho ht hp' => ⟨ho, H.out.held.touch ht (fun ad e hn hs => H.out.apart ad e hn hs), H.out.apart, H.out.small, hp'⟩
  have t1 : Hid (∀ nq o v, Touch (· = rb) w ((w.drewN nq).setCell ⟨rb, o, none⟩ v)) := fun nq o v => Touch.trans (T := (· = rb)) (Touch.ofDrewN w nq) (Touch.ofSet _ rb o v rfl) (fun i hi => .inl hi)
  have HCON : Hid (∀ nq x, Calls Tryz.prog 117 #[.slice eo es.length ec, .int .i64 x] (w.drewN nq) fun e w' => e = .returned (.bool (decide (x ∈ es))) ∧ w' = w.drewN nq) := fun nq x => contains_any eo ec es x (w.drewN nq) (fun i hi => by obtain ⟨b, off, h1, h2⟩ := he i hi; exact ⟨b, off, h1, h2⟩) (by omega)
  have HOBJ := hide hr
  have HEL := hide hel
  clear h hr he hel
  by_cases h1 : s.err = 0
  · have b1 : (s.err != 0) = false := by simp [h1]
    by_cases h2 : zs.length ≤ s.pos
    · have HR : Hid (pgB zs lo hi es s = (0, { s with err := 2 })) := by show _ = _; unfold pgB; rw [if_neg (by simpa using h1), if_pos h2]
      have h2' : (n : Int) ≤ (s.pos : Int) := by omega
      clear h1 h2 hlen
      go_enter Tryz.func80, Tryz.ntmps80
      go_wp2
      go_quiet (fail)
      go_wp2
      go_ret
      rw [HR.out]
      refine ⟨rfl, back.out _ _ ?_ (t1.out _ _ _) hp, t1.out _ _ _⟩
      rw [block_set (w := w.drewN nq) HOBJ.out 2 _]
      rfl
    · have h2' : (s.pos : Int) < (n : Int) := by omega
      obtain ⟨ad, b, off, hao, hcell, hzb⟩ : ∃ ad b off, ao = some ad ∧ (ad = ⟨b, off, none⟩ ∧ w.cell? ⟨b, off + s.pos, none⟩ = some (.int .u8 (zs.getD s.pos 0))) ∧ (0 ≤ zs.getD s.pos 0 ∧ zs.getD s.pos 0 < 256) := by
        obtain ⟨b, off, hao, hrow⟩ := held_row H.out.held (by omega)
        exact ⟨_, b, off, hao, ⟨rfl, hrow s.pos (by omega)⟩, H.out.held.bytes.getD s.pos⟩
      obtain ⟨rfl, hc⟩ := hcell
      by_cases h3 : zs.getD s.pos 0 < lo ∨ hi < zs.getD s.pos 0 ∨ zs.getD s.pos 0 ∈ es
      · have HR : Hid (pgB zs lo hi es s = (0, { s with err := 3 })) := by show _ = _; unfold pgB; rw [if_neg (by simpa using h1), if_neg h2, if_pos h3]
        subst hao
        clear h1 h2 hlen
        generalize zs.getD s.pos 0 = z at hc hzb h3
        by_cases h4 : z < lo
        · clear h3 HCON
          go_enter Tryz.func80, Tryz.ntmps80
          go_wp2
          go_quiet (fail)
          go_wp2
          go_quiet (fail)
          go_wp2
          go_ret
          rw [HR.out]
          refine ⟨rfl, back.out _ _ ?_ (t1.out _ _ _) hp, t1.out _ _ _⟩
          rw [block_set (w := w.drewN _) HOBJ.out 2 _]
          rfl
        · by_cases h5 : hi < z
          · clear h3 HCON
            go_enter Tryz.func80, Tryz.ntmps80
            go_wp2
            go_quiet (fail)
            go_wp2
            go_quiet (fail)
            go_wp2
            go_ret
            rw [HR.out]
            refine ⟨rfl, back.out _ _ ?_ (t1.out _ _ _) hp, t1.out _ _ _⟩
            rw [block_set (w := w.drewN _) HOBJ.out 2 _]
            rfl
          · have h6 : decide (z ∈ es) = true := by simpa [h4, h5] using h3
            clear h3
            go_enter Tryz.func80, Tryz.ntmps80
            go_wp2
            go_quiet (fail)
            go_wp2
            go_quiet (fail)
            go_wp2_with fail
            refine (HCON.out _ _).mono ?_
            rintro e w1 ⟨rfl, rfl⟩
            rw [h6]
            go_wp2
            go_ret
            rw [HR.out]
            refine ⟨rfl, back.out _ _ ?_ (t1.out _ _ _) hp, t1.out _ _ _⟩
            rw [block_set (w := w.drewN _) HOBJ.out 2 _]
            rfl
      · have HR : Hid (pgB zs lo hi es s = (zs.getD s.pos 0, { s with pos := s.pos + 1 })) := by show _ = _; unfold pgB; rw [if_neg (by simpa using h1), if_neg h2, if_neg h3]
        have hp1 : s.pos + 1 ≤ n := by omega
        subst hao
        have h4 : ¬ zs.getD s.pos 0 < lo := fun h => h3 (.inl h)
        have h5 : ¬ hi < zs.getD s.pos 0 := fun h => h3 (.inr (.inl h))
        have h6 : decide (zs.getD s.pos 0 ∈ es) = false := by simpa using fun h => h3 (.inr (.inr h))
        clear h1 h2 hlen h3
        generalize zs.getD s.pos 0 = z at hc hzb h4 h5 h6 HR
        go_enter Tryz.func80, Tryz.ntmps80
        go_wp2
        go_quiet (fail)
        go_wp2
        go_quiet (fail)
        go_wp2_with fail
        refine (HCON.out _ _).mono ?_
        rintro e w1 ⟨rfl, rfl⟩
        rw [h6]
        go_wp2
        go_ret
        rw [HR.out]
        refine ⟨rfl, back.out _ _ ?_ (t1.out _ _ _) hp1, t1.out _ _ _⟩
        rw [block_set (w := w.drewN _) HOBJ.out 1 _]
        rfl
  · have b1 : (s.err != 0) = true := by simpa using h1
    have HR : Hid (pgB zs lo hi es s = (0, s)) := by show _ = _; unfold pgB; rw [if_pos h1]
    clear h1
    go_enter Tryz.func80, Tryz.ntmps80
    go_wp2
    go_ret
    rw [HR.out]
    exact ⟨rfl, H.out, Touch.refl _ _⟩
end Go.Proofs.YtnjlbgolnbdkaaaGreat
