/- What Parse answers, on lists; and how a configuration lies in memory. -/
import Derived.Test.YtnjlbgolnbdkaaaPd
namespace Go.Proofs.Ytnjlbgolnbdkaaa
open Go.RowKit

structure Wn where
  part : Int
  first : Int
  many : Int
structure Ch where
  src : Int
  dst : Int
  depth : Int
structure Cf where
  frame : Int
  watch : Int
  parts : List Pt
  wins : List Wn
  chans : List Ch
def rdWin (zs : List Int) (n frame : Int) (r : Rd) : Wn × Rd :=
  let a := rdB zs 0 (n - 1) r
  let b := rdB zs r.fin (frame - 1) a.2
  let c := rdB zs 1 (frame - b.1) b.2
  (⟨a.1, b.1, c.1⟩, { c.2 with fin := b.1 + c.1 })
def rdChan (zs : List Int) (n : Int) (r : Rd) : Ch × Rd :=
  let a := rdB zs 0 (n - 1) r
  let b := rdB zs 0 (n - 1) a.2
  let c := rdB zs 1 4 (rdNot b.1 a.1 b.2)
  (⟨a.1, b.1, c.1⟩, c.2)
def rdConf (zs : List Int) : Cf × Rd :=
  let r1 := (rdB zs 72 72 ⟨0, 0, 0, 0⟩).2
  let n := rdB zs 1 4 r1
  let f := rdB zs 1 64 n.2
  let wt := rdB zs 0 200 f.2
  let ps := rdTo (rdPart zs) n.1.toNat wt.2
  let m := rdB zs 1 8 ps.2
  let ws := rdTo (rdWin zs n.1 f.1) m.1.toNat { m.2 with fin := 0 }
  let k := rdB zs 0 4 ws.2
  let cs := rdTo (rdChan zs n.1) k.1.toNat k.2
  (⟨f.1, wt.1, ps.1, ws.1, cs.1⟩, cs.2)
def noCf : Cf := ⟨0, 0, [], [], []⟩
/- the configuration, the place, what is wrong -/
def parseOf (zs : List Int) : Cf × Int × Int :=
  let c := rdConf zs
  if c.2.err ≠ 0 then (noCf, c.2.pl, c.2.err)
  else if zs.length < c.2.pos + 4 then (noCf, zs.length, 2)
  else if numFrom 0 ((zs.drop c.2.pos).take 4) ≠ crcOf (zs.take c.2.pos) then (noCf, c.2.pos, 5)
  else if c.2.pos + 4 < zs.length then (noCf, (c.2.pos : Int) + 4, 4)
  else (c.1, 0, 0)

/- in memory -/
def ptsCells (l : List (Pt × Value)) : List Value := l.flatMap fun p => (ptCells p.1.sys p.1.words p.1.limit (fun i => p.1.acts.getD i 0) p.2).toList
theorem ptsCells_snoc (l : List (Pt × Value)) (p : Pt × Value) : ptsCells (l ++ [p]) = ptsCells l ++ (ptCells p.1.sys p.1.words p.1.limit (fun i => p.1.acts.getD i 0) p.2).toList := by simp [ptsCells]
def winCells (l : List Wn) : List Value := l.flatMap fun p => [.int .i64 p.part, .int .i64 p.first, .int .i64 p.many]
theorem winCells_snoc (l : List Wn) (p : Wn) : winCells (l ++ [p]) = winCells l ++ [.int .i64 p.part, .int .i64 p.first, .int .i64 p.many] := by simp [winCells]
def chanCells (l : List Ch) : List Value := l.flatMap fun p => [.int .i64 p.src, .int .i64 p.dst, .int .i64 p.depth]
theorem chanCells_snoc (l : List Ch) (p : Ch) : chanCells (l ++ [p]) = chanCells l ++ [.int .i64 p.src, .int .i64 p.dst, .int .i64 p.depth] := by simp [chanCells]
def PartsV (base : Nat) (v : Value) (ps : List Pt) (w : World) : Prop := ∃ l : List (Pt × Value), l.map Prod.fst = ps ∧ w.ownsRow base 90 10 v l.length (ptsCells l) ∧ ∀ p ∈ l, ProcsV base p.2 p.1.procs w
def WinsV (base : Nat) (v : Value) (l : List Wn) (w : World) : Prop := w.ownsRow base 93 3 v l.length (winCells l)
def ChansV (base : Nat) (v : Value) (l : List Ch) (w : World) : Prop := w.ownsRow base 95 3 v l.length (chanCells l)

/- whose a block is, by the type of its elements -/
def OfType (w : World) (b : Nat) (P : TypeId → Prop) : Prop := ∃ cur t, P t ∧ w.heap[b]? = some (.cells cur t (0, 0))
theorem own_of {w : World} {base : Nat} {e : TypeId} {size : Nat} {v : Value} {n : Nat} {xs : List Value} (h : w.ownsRow base e size v n xs) {b : Nat} (hb : v.ownBlock = some b) : ∃ cur, w.heap[b]? = some (.cells cur e (0, 0)) := by
  rcases h.2 with ⟨h1, _⟩ | ⟨g, cap, cur, hv, _, hh, _⟩
  · rw [h1] at hb; simp [Value.ownBlock] at hb
  · rw [hv] at hb; simp [Value.ownBlock] at hb; subst hb; exact ⟨cur, hh⟩
theorem own_type {w w' : World} {base : Nat} {e : TypeId} {size : Nat} {v : Value} {n : Nat} {xs : List Value} (h : w.ownsRow base e size v n xs) (hs : ∀ b, base ≤ b → b < w.heap.size → OfType w b (· = e) → w'.heap[b]? = w.heap[b]?) : w'.ownsRow base e size v n xs :=
  own_keep h (fun b hb => hs b (World.ownsRow.lt h b hb).1 (World.ownsRow.lt h b hb).2 (by obtain ⟨cur, hc⟩ := own_of h hb; exact ⟨cur, e, rfl, hc⟩))
theorem own_low {w : World} {base base' : Nat} {e : TypeId} {size : Nat} {v : Value} {n : Nat} {xs : List Value} (h : w.ownsRow base e size v n xs) (hb : base' ≤ base) : w.ownsRow base' e size v n xs := by
  obtain ⟨h1, h2⟩ := h
  rcases h2 with h2 | ⟨g', cap, cur, hv, hb', rest⟩
  · exact ⟨h1, .inl h2⟩
  · exact ⟨h1, .inr ⟨g', cap, cur, hv, by omega, rest⟩⟩
theorem PartsV.keep {base : Nat} {v : Value} {ps : List Pt} {w w' : World} (h : PartsV base v ps w) (hs : ∀ b, base ≤ b → b < w.heap.size → OfType w b (fun t => t = 90 ∨ t = 102 ∨ t = 104) → w'.heap[b]? = w.heap[b]?) : PartsV base v ps w' := by
  obtain ⟨l, h1, h2, h3⟩ := h
  refine ⟨l, h1, own_type h2 (fun b hb hl ⟨cur, t, ht, hc⟩ => hs b hb hl ⟨cur, t, .inl ht, hc⟩), fun p hp => (h3 p hp).keep (fun b hb hl ⟨cur, t, ht, hc⟩ => hs b hb hl ⟨cur, t, .inr ht, hc⟩)⟩
theorem PartsV.base {base base' : Nat} {v : Value} {ps : List Pt} {w : World} (h : PartsV base v ps w) (hb : base' ≤ base) : PartsV base' v ps w := by
  obtain ⟨l, h1, h2, h3⟩ := h
  exact ⟨l, h1, own_low h2 hb, fun p hp => (h3 p hp).base hb⟩
theorem parts_nil (base : Nat) (w : World) : PartsV base (.slice none 0 0) [] w := ⟨[], rfl, World.ownsRow_nil _ _ _ _, fun p hp => by simp at hp⟩
theorem own_slice {w : World} {base : Nat} {e : TypeId} {size : Nat} {v : Value} {n : Nat} {xs : List Value} (h : w.ownsRow base e size v n xs) : ∃ ad c, v = .slice ad n c := by
  rcases h.2 with ⟨h1, h2⟩ | ⟨g', cap', cur, hv, _⟩
  · exact ⟨none, 0, by rw [h1, h2]⟩
  · exact ⟨_, _, hv⟩
structure ConfV (base : Nat) (vP vW vC : Value) (cf : Cf) (w : World) : Prop where
  parts : PartsV base vP cf.parts w
  wins : WinsV base vW cf.wins w
  chans : ChansV base vC cf.chans w
theorem conf_nil (base : Nat) (w : World) : ConfV base (.slice none 0 0) (.slice none 0 0) (.slice none 0 0) noCf w := ⟨parts_nil _ _, World.ownsRow_nil _ _ _ _, World.ownsRow_nil _ _ _ _⟩
theorem ConfV.keep {base : Nat} {vP vW vC : Value} {cf : Cf} {w w' : World} (h : ConfV base vP vW vC cf w) (hs : ∀ b, base ≤ b → b < w.heap.size → w'.heap[b]? = w.heap[b]?) : ConfV base vP vW vC cf w' :=
  ⟨h.parts.keep (fun b h1 h2 _ => hs b h1 h2), own_type h.wins (fun b h1 h2 _ => hs b h1 h2), own_type h.chans (fun b h1 h2 _ => hs b h1 h2)⟩
theorem ConfV.base {base base' : Nat} {vP vW vC : Value} {cf : Cf} {w : World} (h : ConfV base vP vW vC cf w) (hb : base' ≤ base) : ConfV base' vP vW vC cf w := ⟨h.parts.base hb, own_low h.wins hb, own_low h.chans hb⟩

/- the values that are read are small -/
theorem rdB_small (zs : List Int) (lo hi : Int) (r : Rd) (hz : ∀ z ∈ zs, 0 ≤ z ∧ z < 256) (h0 : 0 ≤ lo) (h1 : lo ≤ 255) : 0 ≤ (rdB zs lo hi r).1 ∧ (rdB zs lo hi r).1 ≤ 255 := by
  unfold rdB
  split
  · exact ⟨h0, h1⟩
  · split
    · exact ⟨h0, h1⟩
    · rename_i h2
      split
      · exact ⟨h0, h1⟩
      · have := hz (zs.getD r.pos 0) (by rw [List.getD_eq_getElem?_getD, List.getElem?_eq_getElem (by omega)]; simp)
        simp only; omega
theorem rdB_fin (zs : List Int) (lo hi : Int) (r : Rd) : (rdB zs lo hi r).2.fin = r.fin := by
  unfold rdB
  repeat (first | rfl | split)
/- while nothing is wrong, the last window ends within the frame -/
theorem win_fin (zs : List Int) (n frame : Int) (r : Rd) (h0 : r.fin = 0) (hf : 0 ≤ frame) (k : Nat) (h : (rdTo (rdWin zs n frame) k r).2.err = 0) : 0 ≤ (rdTo (rdWin zs n frame) k r).2.fin ∧ (rdTo (rdWin zs n frame) k r).2.fin ≤ frame := by
  induction k with
  | zero => show 0 ≤ r.fin ∧ r.fin ≤ frame; omega
  | succ k ih =>
    by_cases he : (rdTo (rdWin zs n frame) k r).2.err = 0
    · have ih' := ih he
      rw [rdTo_go _ k r he] at h ⊢
      generalize (rdTo (rdWin zs n frame) k r).2 = q at *
      simp only [rdWin] at h ⊢
      obtain ⟨h1, _, e1, l1, u1, _⟩ := rdB_ok _ _ _ _ h
      obtain ⟨_, _, e2, l2, u2, _⟩ := rdB_ok _ _ _ _ h1
      omega
    · have := rdTo_stop (rdWin zs n frame) k r he (k + 1) (by omega)
      rw [this] at h
      exact absurd h he
end Go.Proofs.Ytnjlbgolnbdkaaa
