/- The hands: three lists that are kept together. -/
import Derived.Test.YtnjlbgolnbdkaaaKc
namespace Go.Proofs.Ytnjlbgolnbdkaaa
open Go.RowKit

structure K3 (L0 : Nat → Nat) (w0 : World) (base : Nat) (L : Nat → Nat) (hb : Nat) (n : Int) (vs : Nat → Value) (A M : Nat → List Kept) (T : Nat) (fs : Nat → Prop) (V : Nat → Value) (N : Nat → Nat) (m : Int) (bx : Nat) (cs : Array Value) (w : World) : Prop where
  h : Hnd L hb n vs A M w
  cur : ∀ g, fs g → Cur g L A w (V g) (N g) m
  box : w.heap[bx]? = some (.cells cs 48 (0, 0))
  bl : 100 ≤ L bx
  len : ∀ i, (A i).length ≤ T ∧ (M i).length ≤ T
  lab : ∀ k, k < base → L k = L0 k
  t : Touch (fun k => L0 k ≤ 27 ∨ base ≤ k) w0 w
section
variable {L0 : Nat → Nat} {w0 : World} {base : Nat} {L L' : Nat → Nat} {hb : Nat} {n : Int} {vs vs' : Nat → Value} {A M A' M' : Nat → List Kept} {T : Nat} {fs : Nat → Prop} {V V' : Nat → Value} {N N' : Nat → Nat} {m : Int} {bx : Nat} {cs : Array Value} {w w' w1 : World} {f g cap : Nat} {o : Obj}
theorem K3.next (h : K3 L0 w0 base L hb n vs A M T fs V N m bx cs w) (hb0 : base ≤ w0.heap.size) (hf : f < 9) (hS : Step f L L' w w') (hH : Hnd L' hb n vs' A' M' w') (hA : ∀ g, g ≠ f → A' g = A g) (hlen : ∀ i, (A' i).length ≤ T + 1 ∧ (M' i).length ≤ T + 1)
    (hV : ∀ g, fs g → g ≠ f → V' g = V g ∧ N' g = N g) (hC : Cur f L' A' w' (V' f) (N' f) m) : K3 L0 w0 base L' hb n vs' A' M' (T + 1) fs V' N' m bx cs w' := by
  have hsz := h.t.size
  have hbx := lt_of_block h.box
  refine ⟨hH, fun g hg => ?_, (hS.t.block bx hbx (fun hs => by have := h.bl; omega)).trans h.box, by rw [hS.lab bx hbx]; exact h.bl, hlen, fun k hk => (hS.lab k (by omega)).trans (h.lab k hk), Touch.trans h.t hS.t (fun i hi => ?_)⟩
  · by_cases e : g = f
    · subst e; exact hC
    · obtain ⟨e1, e2⟩ := hV g hg e
      rw [e1, e2]
      exact (h.cur g hg).step hS e (hA g e)
  · by_cases hk : i < base
    · left; left; rw [← h.lab i hk]; omega
    · left; right; omega
theorem len_upd {B : Nat → List Kept} {T : Nat} (h : ∀ i, (B i).length ≤ T) (f : Nat) (k : Kept) : ∀ i, (updL B f (B f ++ [k]) i).length ≤ T + 1 := by
  intro i
  by_cases e : i = f
  · subst e; rw [updL_at, List.length_append]; have := h i; simp; omega
  · rw [updL_off _ _ e]; have := h i; omega
theorem K3.row (h : K3 L0 w0 base L hb n vs A M T fs V N m bx cs w) (hb0 : base ≤ w0.heap.size) (hf : f < 9) (hfs : fs f) (hN : N f ≤ 1000000)
    (hown : w1.ownsRow 0 (eB f) 1 (.slice (some ⟨g, 0, none⟩) ((A f).length + 1) cap) ((A f).length + 1) ((A f).map Kept.v ++ [V f])) (hg : (w.alloc o).grownBy w1 (vs (3 + 2 * f)).ownBlock) (hat : (vs (3 + 2 * f)).ownBlock = some g ∨ g = w.heap.size + 1) :
    w1.heap[hb]? = some (.cells (handCells (.slice none 0 0) (.slice none 0 0) n vs) 41 (0, 0)) ∧ ∃ L' vs', K3 L0 w0 base L' hb n vs' (updL A f (A f ++ [⟨V f, m⟩])) M (T + 1) fs V N m bx cs (w1.setCell ⟨hb, 3 + 2 * f, none⟩ (.slice (some ⟨g, 0, none⟩) ((A f).length + 1) cap)) := by
  obtain ⟨h1, L', vs', A', h2, h3, rfl, h5⟩ := h.h.row hf (h.cur f hfs) hN hown hg hat
  refine ⟨h1, L', vs', h.next hb0 hf h5 h2 (fun g hne => updL_off _ _ hne) (fun i => ⟨len_upd (fun i => (h.len i).1) f _ i, ?_⟩) (fun g _ _ => ⟨rfl, rfl⟩) h3⟩
  have := (h.len i).2; omega
theorem K3.mark (h : K3 L0 w0 base L hb n vs A M T fs V N m bx cs w) (hb0 : base ≤ w0.heap.size) (hf : f < 9) (hfs : fs f)
    (hown : w1.ownsRow 0 (eM f) 1 (.slice (some ⟨g, 0, none⟩) ((M f).length + 1) cap) ((M f).length + 1) (((M f).map fun k => mvK f k.mark) ++ [mvK f m])) (hg : (w.alloc o).grownBy w1 (vs (4 + 2 * f)).ownBlock) (hat : (vs (4 + 2 * f)).ownBlock = some g ∨ g = w.heap.size + 1) :
    w1.heap[hb]? = some (.cells (handCells (.slice none 0 0) (.slice none 0 0) n vs) 41 (0, 0)) ∧ ∃ L' vs', K3 L0 w0 base L' hb n vs' A (updL M f (M f ++ [⟨V f, m⟩])) (T + 1) fs V N m bx cs (w1.setCell ⟨hb, 4 + 2 * f, none⟩ (.slice (some ⟨g, 0, none⟩) ((M f).length + 1) cap)) := by
  obtain ⟨h1, L', vs', M', h2, h3, rfl, h5⟩ := h.h.mark hf (h.cur f hfs) hown hg hat
  refine ⟨h1, L', vs', h.next hb0 hf h5 h2 (fun g _ => rfl) (fun i => ⟨?_, len_upd (fun i => (h.len i).2) f _ i⟩) (fun g _ _ => ⟨rfl, rfl⟩) h3⟩
  have := (h.len i).1; omega
theorem K3.list (h : K3 L0 w0 base L hb n vs A M T fs V N m bx cs w) (hb0 : base ≤ w0.heap.size) (hf : f < 9) (hfs : fs f)
    (hown : w1.ownsRow 0 (ety f) (esz f) (.slice (some ⟨g, 0, none⟩) (N f + 1) cap) (N f + 1) (reps (N f) (elm f m) ++ elm f m)) (hg : Grew (w.alloc o) w1 (V f) (N f) g cap)
    (hV : ∀ g, fs g → g ≠ f → V' g = V g ∧ N' g = N g) (hv : V' f = .slice (some ⟨g, 0, none⟩) (N f + 1) cap) (hn : N' f = N f + 1) :
    ∃ L', K3 L0 w0 base L' hb n vs A M (T + 1) fs V' N' m bx cs w1 := by
  obtain ⟨L', h1, h2, h3⟩ := h.h.list hf (h.cur f hfs) (Touch.alloc w o) hown hg
  exact ⟨L', h.next hb0 hf h3 h1 (fun _ _ => rfl) (fun i => by have := h.len i; omega) hV (by rw [hv, hn]; exact h2)⟩
theorem K3.store (h : K3 L0 w0 base L hb n vs A M T fs V N m bx cs w) (hb0 : base ≤ bx) (hfs : ∀ g, fs g → g < 9) (i : Nat) (v : Value) : K3 L0 w0 base L hb n vs A M T fs V N m bx (cs.setIfInBounds i v) (w.setCell ⟨bx, i, none⟩ v) := by
  have t : Touch (· = bx) w (w.setCell ⟨bx, i, none⟩ v) := Touch.ofSet w bx i v rfl
  have hbl := h.bl
  refine ⟨h.h.touch t (fun k _ hk => by rw [hk]; omega), fun g hg => (h.cur g hg).keep (fun b e => ⟨t.block b ((h.cur g hg).lt b e) (fun hh => ?_), rfl⟩) rfl, block_set h.box i v, hbl, h.len, h.lab, Touch.trans h.t t (fun k hk => .inl (.inr (by omega)))⟩
  have hl := (h.cur g hg).lab b e
  rw [hh] at hl
  have := hfs g hg
  omega
theorem K3.same (h : K3 L0 w0 base L hb n vs A M T fs V N m bx cs w) (e1 : w'.heap = w.heap) (e2 : w'.os = w.os) (e3 : w'.tape = w.tape) (e4 : w'.output = w.output) : K3 L0 w0 base L hb n vs A M T fs V N m bx cs w' := by
  have t : Touch (fun _ => False) w w' := ⟨e2, e3, e4, by rw [e1]; exact Nat.le_refl _, fun k _ _ => by rw [e1]⟩
  exact ⟨h.h.touch t (fun _ _ hk => hk.elim), fun g hg => (h.cur g hg).keep (fun b _ => ⟨by rw [e1], rfl⟩) rfl, by rw [e1]; exact h.box, h.bl, h.len, h.lab, Touch.trans h.t t (fun k hk => hk.elim)⟩
end
theorem ProcsIn.clip {lo hi : Nat} {v : Value} {ps : List Pr} {w : World} (h : ProcsIn lo hi v ps w) : ProcsIn (min lo w.heap.size) (min hi w.heap.size) v ps w := by
  obtain ⟨l, h1, h2, h3, h4, h5⟩ := h
  refine ⟨l, h1, own_low h2 (by omega), fun b e => ?_, fun p hp => ⟨(h4 p hp).1.base (by omega), fun b e => ?_⟩, h5⟩
  · have := h3 b e; have := (World.ownsRow.lt h2 b e).2; omega
  · have := (h4 p hp).2 b e; have := (World.ownsRow.lt (h4 p hp).1 b e).2; omega

structure CKeep (w0 : World) (L0 : Nat → Nat) (A0 : Nat → List Kept) (n0 : Int) (base : Nat) (vP vW vC : Value) (l : List (Pt × Value)) (lw : List Wn) (lc : List Ch) (c : Nat → Nat) (hb bx : Nat) (cs : Array Value) (k : Nat) (nk : Int) (L : Nat → Nat) (vs : Nat → Value) (A : Nat → List Kept) (w : World) : Prop where
  h : Hnd L hb nk vs A A w
  n1 : n0 ≤ nk ∧ nk ≤ n0 + 30 * k
  len : ∀ f, (A f).length ≤ (A0 f).length + 120 * k
  lab : ∀ b, b < base → L b = L0 b
  t : Touch (fun b => L0 b ≤ 27 ∨ base ≤ b) w0 w
  box : w.heap[bx]? = some (.cells cs 48 (0, 0))
  bl : 100 ≤ L bx
  row : w.ownsRow base 90 10 vP l.length (ptsCells l)
  rowL : ∀ b, vP.ownBlock = some b → 100 ≤ L b
  win : WinsV base vW lw w
  winL : ∀ b, vW.ownBlock = some b → 100 ≤ L b
  cha : ChansV base vC lc w
  chaL : ∀ b, vC.ownBlock = some b → 100 ≤ L b
  rest : ∀ i p, l[i]? = some p → k ≤ i → ProcsIn (c i) (c (i + 1)) p.2 p.1.procs w ∧ ∀ b, c i ≤ b → b < c (i + 1) → 100 ≤ L b
theorem oftype_not {w : World} {b : Nat} {cur : Array Value} {e : TypeId} (h : w.heap[b]? = some (.cells cur e (0, 0))) (he : e ≠ 102 ∧ e ≠ 104) : ¬ OfType w b (fun t => t = 102 ∨ t = 104) := by
  rintro ⟨c2, t, ht, h2⟩
  rw [h] at h2
  simp at h2
  obtain ⟨_, rfl⟩ := h2
  rcases ht with rfl | rfl
  · exact he.1 rfl
  · exact he.2 rfl
theorem CKeep.next {w0 : World} {L0 : Nat → Nat} {A0 : Nat → List Kept} {n0 : Int} {base : Nat} {vP vW vC : Value} {l : List (Pt × Value)} {lw : List Wn} {lc : List Ch} {c : Nat → Nat} {hb bx : Nat} {cs : Array Value} {k : Nat} {nk n2 : Int} {L L2 : Nat → Nat} {vs vs2 : Nat → Value} {A A2 : Nat → List Kept} {w w2 : World}
    (h : CKeep w0 L0 A0 n0 base vP vW vC l lw lc c hb bx cs k nk L vs A w) (hb0 : base ≤ w0.heap.size) (hc : ∀ i, base ≤ c i) (hmono : ∀ i j, i ≤ j → c i ≤ c j) (hcs : ∀ i, c i ≤ w0.heap.size)
    (hn : nk ≤ n2 ∧ n2 ≤ nk + 30) (hH : Hnd L2 hb n2 vs2 A2 A2 w2) (hlen : ∀ f, (A2 f).length ≤ (A f).length + 120) (hlab : ∀ b, b < w.heap.size → ¬ PBlk w (c k) (c (k + 1)) b → L2 b = L b) (ht : Touch (fun b => L b ≤ 27 ∨ PBlk w (c k) (c (k + 1)) b) w w2) :
    CKeep w0 L0 A0 n0 base vP vW vC l lw lc c hb bx cs (k + 1) n2 L2 vs2 A2 w2 := by
  have hsz := h.t.size
  have off : ∀ b, b < w.heap.size → 100 ≤ L b → ¬ PBlk w (c k) (c (k + 1)) b → w2.heap[b]? = w.heap[b]? ∧ 100 ≤ L2 b := fun b h1 h2 h3 => ⟨ht.block b h1 (fun hs => by rcases hs with hs | hs; omega; exact h3 hs), by rw [hlab b h1 h3]; exact h2⟩
  have own : ∀ {e : TypeId} {s : Nat} {v : Value} {N : Nat} {xs : List Value}, w.ownsRow base e s v N xs → (∀ b, v.ownBlock = some b → 100 ≤ L b) → e ≠ 102 ∧ e ≠ 104 → w2.ownsRow base e s v N xs ∧ ∀ b, v.ownBlock = some b → 100 ≤ L2 b := by
    intro e s v N xs h1 h2 he
    have key : ∀ b, v.ownBlock = some b → w2.heap[b]? = w.heap[b]? ∧ 100 ≤ L2 b := fun b eb => by
      obtain ⟨cur, hcur⟩ := own_of h1 eb
      exact off b (World.ownsRow.lt h1 b eb).2 (h2 b eb) (fun hp => oftype_not hcur he hp.2.2)
    exact ⟨own_keep h1 (fun b e => (key b e).1), fun b e => (key b e).2⟩
  have hbox := off bx (lt_of_block h.box) h.bl (fun hp => oftype_not h.box (by decide) hp.2.2)
  have o1 := own h.row h.rowL (by decide)
  have o2 := own h.win h.winL (by decide)
  have o3 := own h.cha h.chaL (by decide)
  refine ⟨hH, by have := h.n1; push_cast; omega, fun f => by have := h.len f; have := hlen f; omega, fun b hb' => ?_, Touch.trans h.t ht (fun i hi => ?_), hbox.1.trans h.box, hbox.2, o1.1, o1.2, o2.1, o2.2, o3.1, o3.2, fun i p hp hi => ?_⟩
  · rw [hlab b (by omega) (fun hp => by have := hc k; have := hp.1; omega)]; exact h.lab b hb'
  · by_cases hk : i < base
    · left; left
      rcases hi with hi | hi
      · rw [← h.lab i hk]; exact hi
      · have := hc k; have := hi.1; omega
    · left; right; omega
  · obtain ⟨h1, h2⟩ := h.rest i p hp (by omega)
    have hm := hmono (k + 1) i (by omega)
    refine ⟨h1.keep (fun b e1 e2 e3 _ => (off b e3 (h2 b e1 e2) (fun hp => by have := hp.2.1; omega)).1), fun b e1 e2 => ?_⟩
    have hbs : b < w.heap.size := by have := hcs (i + 1); omega
    exact (off b hbs (h2 b e1 e2) (fun hp => by have := hp.2.1; omega)).2
def sel3 {α : Type} (a b c : α) : Nat → α := fun g => if g = 4 then a else if g = 7 then b else c
def is3 (g : Nat) : Prop := g = 4 ∨ g = 7 ∨ g = 8
theorem own_ne {w : World} {b1 b2 : Nat} {e1 e2 : TypeId} {s1 s2 : Nat} {v1 v2 : Value} {n1 n2 : Nat} {x1 x2 : List Value} (h1 : w.ownsRow b1 e1 s1 v1 n1 x1) (h2 : w.ownsRow b2 e2 s2 v2 n2 x2) (hne : e1 ≠ e2) : ∀ b, v1.ownBlock = some b → v2.ownBlock ≠ some b := by
  intro b f1 f2
  obtain ⟨c1, g1⟩ := own_of h1 f1
  obtain ⟨c2, g2⟩ := own_of h2 f2
  rw [g1] at g2
  simp at g2
  exact hne g2.2
theorem box_ne {w : World} {b1 : Nat} {e1 : TypeId} {s1 : Nat} {v1 : Value} {n1 : Nat} {x1 : List Value} {bx : Nat} {cs : Array Value} (h1 : w.ownsRow b1 e1 s1 v1 n1 x1) (h2 : w.heap[bx]? = some (.cells cs 48 (0, 0))) (hne : e1 ≠ 48) : v1.ownBlock ≠ some bx := by
  intro f1
  obtain ⟨c1, g1⟩ := own_of h1 f1
  rw [g1] at h2
  simp at h2
  exact hne h2.2
/- the three lists as they stand ahead of being written full -/
structure Tri (L0 : Nat → Nat) (w0 : World) (base : Nat) (L : Nat → Nat) (hb : Nat) (n : Int) (vs : Nat → Value) (A : Nat → List Kept) (T : Nat) (vP vW vC : Value) (NP NW NC : Nat) (bx : Nat) (cs : Array Value) (w : World) : Prop where
  h : Hnd L hb n vs A A w
  rowP : ∃ xs, w.ownsRow base 90 10 vP NP xs
  rowW : ∃ xs, w.ownsRow base 93 3 vW NW xs
  rowC : ∃ xs, w.ownsRow base 95 3 vC NC xs
  labP : ∀ b, vP.ownBlock = some b → 100 ≤ L b
  labW : ∀ b, vW.ownBlock = some b → 100 ≤ L b
  labC : ∀ b, vC.ownBlock = some b → 100 ≤ L b
  box : w.heap[bx]? = some (.cells cs 48 (0, 0))
  bl : 100 ≤ L bx
  len : ∀ i, (A i).length ≤ T
  lab : ∀ k, k < base → L k = L0 k
  t : Touch (fun k => L0 k ≤ 27 ∨ base ≤ k) w0 w
section
variable {L0 : Nat → Nat} {w0 : World} {base : Nat} {L : Nat → Nat} {hb : Nat} {n : Int} {vs : Nat → Value} {A : Nat → List Kept} {T : Nat} {vP vW vC : Value} {NP NW NC : Nat} {m : Int} {bx : Nat} {cs : Array Value} {w wB wC wD wr : World} {k : Nat}
theorem Tri.fP (h : Tri L0 w0 base L hb n vs A T vP vW vC NP NW NC bx cs w) : Fill 4 w vP NP m 0 w := by
  obtain ⟨xs, hx⟩ := h.rowP
  exact Fill.start (f := 4) (own_low hx (Nat.zero_le _))
theorem Tri.boxP (h : Tri L0 w0 base L hb n vs A T vP vW vC NP NW NC bx cs w) (F : Fill 4 w vP NP m k wr) : wr.heap[bx]? = some (.cells cs 48 (0, 0)) := by
  obtain ⟨xs, hx⟩ := h.rowP
  exact (F.t.block bx (lt_of_block h.box) (box_ne hx h.box (by decide))).trans h.box
theorem Tri.fW (h : Tri L0 w0 base L hb n vs A T vP vW vC NP NW NC bx cs w) (F : Fill 4 w vP NP m NP wB) : Fill 7 wB vW NW m 0 wB := by
  obtain ⟨xs, hx⟩ := h.rowP
  obtain ⟨ys, hy⟩ := h.rowW
  exact Fill.start (f := 7) (own_low (own_keep hy (fun b e => F.t.block b (World.ownsRow.lt hy b e).2 (own_ne hy hx (by decide) b e))) (Nat.zero_le _))
theorem Tri.boxW (h : Tri L0 w0 base L hb n vs A T vP vW vC NP NW NC bx cs w) (F : Fill 4 w vP NP m NP wB) (G : Fill 7 wB vW NW m k wr) : wr.heap[bx]? = some (.cells cs 48 (0, 0)) := by
  obtain ⟨ys, hy⟩ := h.rowW
  have := h.boxP F
  exact (G.t.block bx (lt_of_block this) (box_ne hy h.box (by decide))).trans this
theorem Tri.fC (h : Tri L0 w0 base L hb n vs A T vP vW vC NP NW NC bx cs w) (F : Fill 4 w vP NP m NP wB) (G : Fill 7 wB vW NW m NW wC) : Fill 8 wC vC NC m 0 wC := by
  obtain ⟨xs, hx⟩ := h.rowP
  obtain ⟨ys, hy⟩ := h.rowW
  obtain ⟨zs, hz⟩ := h.rowC
  have h1 : wB.ownsRow base 95 3 vC NC zs := own_keep hz (fun b e => F.t.block b (World.ownsRow.lt hz b e).2 (own_ne hz hx (by decide) b e))
  exact Fill.start (f := 8) (own_low (own_keep h1 (fun b e => G.t.block b (World.ownsRow.lt h1 b e).2 (own_ne hz hy (by decide) b e))) (Nat.zero_le _))
theorem Tri.boxC (h : Tri L0 w0 base L hb n vs A T vP vW vC NP NW NC bx cs w) (F : Fill 4 w vP NP m NP wB) (G : Fill 7 wB vW NW m NW wC) (H : Fill 8 wC vC NC m k wr) : wr.heap[bx]? = some (.cells cs 48 (0, 0)) := by
  obtain ⟨ys, hy⟩ := h.rowC
  have := h.boxW F G
  exact (H.t.block bx (lt_of_block this) (box_ne hy h.box (by decide))).trans this
theorem Tri.full (h : Tri L0 w0 base L hb n vs A T vP vW vC NP NW NC bx cs w) (F : Fill 4 w vP NP m NP wB) (G : Fill 7 wB vW NW m NW wC) (H : Fill 8 wC vC NC m NC wD) : ∃ L', K3 L0 w0 base L' hb n vs A A T is3 (sel3 vP vW vC) (sel3 NP NW NC) m bx cs wD := by
  obtain ⟨xs, hx⟩ := h.rowP
  obtain ⟨ys, hy⟩ := h.rowW
  obtain ⟨zs, hz⟩ := h.rowC
  have nPW := own_ne hx hy (by decide)
  have nPC := own_ne hx hz (by decide)
  have nWC := own_ne hy hz (by decide)
  have nWP := own_ne hy hx (by decide)
  have nCP := own_ne hz hx (by decide)
  have nCW := own_ne hz hy (by decide)
  obtain ⟨hH4, hC4⟩ := Hnd.begin (f := 4) (by omega) h.h h.labP F
  obtain ⟨hH7, hC7⟩ := Hnd.begin (f := 7) (by omega) hH4 (fun b e => by show 100 ≤ lab1 L 4 vP b; unfold lab1; rw [if_neg (nWP b e)]; exact h.labW b e) G
  obtain ⟨hH8, hC8⟩ := Hnd.begin (f := 8) (by omega) hH7 (fun b e => by show 100 ≤ lab1 (lab1 L 4 vP) 7 vW b; unfold lab1; rw [if_neg (nCW b e), if_neg (nCP b e)]; exact h.labC b e) H
  have k4 : Cur 4 (lab1 (lab1 L 4 vP) 7 vW) A wC vP NP m := hC4.keep (fun b e => ⟨G.t.block b (hC4.lt b e) (nPW b e), if_neg (nPW b e)⟩) rfl
  have k4' : Cur 4 (lab1 (lab1 (lab1 L 4 vP) 7 vW) 8 vC) A wD vP NP m := k4.keep (fun b e => ⟨H.t.block b (k4.lt b e) (nPC b e), if_neg (nPC b e)⟩) rfl
  have k7 : Cur 7 (lab1 (lab1 (lab1 L 4 vP) 7 vW) 8 vC) A wD vW NW m := hC7.keep (fun b e => ⟨H.t.block b (hC7.lt b e) (nWC b e), if_neg (nWC b e)⟩) rfl
  have gP : ∀ b, vP.ownBlock = some b → base ≤ b := fun b e => (World.ownsRow.lt hx b e).1
  have gW : ∀ b, vW.ownBlock = some b → base ≤ b := fun b e => (World.ownsRow.lt hy b e).1
  have gC : ∀ b, vC.ownBlock = some b → base ≤ b := fun b e => (World.ownsRow.lt hz b e).1
  refine ⟨_, hH8, ?_, h.boxC F G H, ?_, fun i => ⟨h.len i, h.len i⟩, fun k hk => ?_, Touch.trans (Touch.trans (Touch.trans h.t F.t (fun i hi => .inl (.inr (gP i hi)))) G.t (fun i hi => .inl (.inr (gW i hi)))) H.t (fun i hi => .inl (.inr (gC i hi)))⟩
  · rintro g (rfl | rfl | rfl)
    · exact k4'
    · exact k7
    · exact hC8
  · show 100 ≤ lab1 (lab1 (lab1 L 4 vP) 7 vW) 8 vC bx
    unfold lab1
    rw [if_neg (box_ne hz h.box (by decide)), if_neg (box_ne hy h.box (by decide)), if_neg (box_ne hx h.box (by decide))]
    exact h.bl
  · show lab1 (lab1 (lab1 L 4 vP) 7 vW) 8 vC k = L0 k
    unfold lab1
    rw [if_neg (fun e => by have := gC k e; omega), if_neg (fun e => by have := gW k e; omega), if_neg (fun e => by have := gP k e; omega)]
    exact h.lab k hk
theorem CKeep.tri {w0 : World} {L0 : Nat → Nat} {A0 : Nat → List Kept} {n0 : Int} {base : Nat} {vP vW vC : Value} {l : List (Pt × Value)} {lw : List Wn} {lc : List Ch} {c : Nat → Nat} {hb bx : Nat} {cs : Array Value} {k : Nat} {nk : Int} {L : Nat → Nat} {vs : Nat → Value} {A : Nat → List Kept} {w w1 : World} {T : Nat}
    (h : CKeep w0 L0 A0 n0 base vP vW vC l lw lc c hb bx cs k nk L vs A w) (hB : w1.heap[hb]? = some (.cells (handCells (.slice none 0 0) (.slice none 0 0) (nk + 1) vs) 41 (0, 0))) (ht : Touch (· = hb) w w1) (hk : k ≤ 20) (hT : ∀ f, (A0 f).length ≤ T) :
    Tri L0 w0 base L hb (nk + 1) vs A (T + 2400) vP vW vC l.length lw.length lc.length bx cs w1 := by
  have hLb := h.h.lab
  have keep : ∀ {e : TypeId} {s : Nat} {v : Value} {N : Nat} {xs : List Value}, w.ownsRow base e s v N xs → (∀ b, v.ownBlock = some b → 100 ≤ L b) → ∃ xs, w1.ownsRow base e s v N xs := fun h1 h2 => ⟨_, own_keep h1 (fun b e => ht.block b (World.ownsRow.lt h1 b e).2 (fun hh => by have := h2 b e; rw [hh, hLb] at this; omega))⟩
  refine ⟨⟨hB, hLb, h.h.fam.touch ht (fun k _ hk => .inl (by rw [hk]; exact hLb))⟩, keep h.row h.rowL, keep h.win h.winL, keep h.cha h.chaL, h.rowL, h.winL, h.chaL, (ht.block bx (lt_of_block h.box) (fun hh => by have := h.bl; rw [hh, hLb] at this; omega)).trans h.box, h.bl, fun f => by have := h.len f; have := hT f; omega, h.lab, Touch.trans h.t ht (fun i hi => ?_)⟩
  by_cases hk : i < base
  · left; left; rw [← h.lab i hk, hi, hLb]; omega
  · left; right; omega
end
end Go.Proofs.Ytnjlbgolnbdkaaa
