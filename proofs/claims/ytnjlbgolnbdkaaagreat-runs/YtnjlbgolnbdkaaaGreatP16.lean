/- All, with short names -/
import Derived.Test.YtnjlbgolnbdkaaaGreatP15
import Derived.BigQuiet
import Derived.Deep.QuietTactic
import Derived.Deep.RegionHeld
import Derived.Sort.QuietTacIn
set_option maxRecDepth 100000
set_option maxHeartbeats 16000000
namespace Go.Proofs.YtnjlbgolnbdkaaaGreat
open Go Go.RowKit
theorem Ay(bs:List Int)(s k:Nat):lU bs s k≤k:=by
 induction k with
 | zero=>exact Nat.le_refl _
 | succ k ih=>
  unfold lU;split
  ·omega
  ·exact Nat.le_refl _
theorem Rh(bs:List Int):(bE bs).1<2∧(bE bs).2<2:=by
 unfold bE;split<;>exact⟨by decide,by decide⟩
theorem Jb{w:World}{b:Nat}{z0 z1 z2 z3 i a c d f g:Value}{t:TypeId}(h:w.heap[b]?=some (.cells #[z0,z1,z2,z3,i] t (0,0))):(((((w.setCell ⟨b,0,none⟩ a).setCell ⟨b,1,none⟩ c).setCell ⟨b,2,none⟩ d).setCell ⟨b,3,none⟩ f).setCell ⟨b,4,none⟩ g).heap[b]?=some (.cells #[a,c,d,f,g] t (0,0)):=by
 rw[aK (aK (aK (aK (aK h 0 _) 1 _) 2 _) 3 _) 4 _];rfl
theorem Hq{B:Nat}{a w:World}{b:Nat}{d f g i j:Value}(h:Below B a w)(c:B≤b):Below B a (((((w.setCell ⟨b,0,none⟩ d).setCell ⟨b,1,none⟩ f).setCell ⟨b,2,none⟩ g).setCell ⟨b,3,none⟩ i).setCell ⟨b,4,none⟩ j):=
 Below.thenSet (Below.thenSet (Below.thenSet (Below.thenSet (Below.thenSet h c _ _) c _ _) c _ _) c _ _) c _ _
theorem Jt(g:Nat)(F:Fl)(part code act:Int)(w:World)(h:fO w g F)(g1:gU F):
 Calls Tryz.prog 115 #[.agg #[.pointer (some ⟨g,0,none⟩)],.int .i64 part,.int .i64 code,.int .i64 act] w fun e w'=>
  e=.returned (.bool (F.app part code act).1)∧fO w' g (F.app part code act).2∧aH (·=g) w w':=by
 have b7:=Rh F.bs;obtain⟨R,b8⟩:∃R,R=w.alloc (.cells #[.pointer (some ⟨g,0,none⟩)] 107):=⟨_,rfl⟩;have d7:Below w.heap.size w R:=aE b8;have d8:R.heap[w.heap.size]?=some (.cells #[.pointer (some ⟨g,0,none⟩)] 107 (0,0)):=aF b8;have o3:R.cell? ⟨w.heap.size,0,none⟩=some (.pointer (some ⟨g,0,none⟩)):=aD d8;have g2:=aI (qE g F.bs F.left F.res F.dead F.done R (h.below d7));have j5:Hid (∀p,pK F.bs (bE F.bs).1 p=aX F.bs p):=fun p=>yO F.bs h.bytes p
 have j6:=aI (Bg F.bs h.bytes);have b9:Hid (∀s,0≤eC F.bs s∧eC F.bs s<4294967296):=fun s=>oF F.bs h.bytes s
 have j7:=aI (wL F.bs);have j8:=aI (Kt F.bs h.bytes);have j9:=aI h.bytes;have k1:Hid (nW F.bs (bE F.bs).1≤8):=Ay F.bs _ 8;have m:Hid (F.app part code act=if cH F.bs (bE F.bs).1=true∧nW F.bs (bE F.bs).1<8 then F.lay (128*(bE F.bs).1+16*nW F.bs (bE F.bs).1) (dN 1 part code (fQ (bT F.bs)+1) act)
  else eL (F.erase (bE F.bs).2) fun a1=>eL (a1.lay (128*(bE F.bs).2) (dN 2 0 0 (fG F.bs (bE F.bs).1 3+1) (kE F.bs))) fun c0=>c0.lay (128*(bE F.bs).2+16) (dN 1 part code (fQ (bT F.bs)+1) act)):=rfl
 have g3:=aI h;have d9:=aI g1;have g4:=aI d7;have e0:=aI d8;have k2:=aI b8;have o4:=h.lt;clear h g1 d7 d8 b8;obtain⟨a2,g5⟩:∃a2,a2=F.app part code act:=⟨_,rfl⟩;rw[←g5]at m ⊢;clear g5;generalize (bE F.bs).1=c at *;generalize (bE F.bs).2=f at *
 go_enter Tryz.func115,Tryz.ntmps115
 go_wp2_with fail
 rw[←k2.out];go_wp2_with fail
 refine g2.out.mono ?_;rintro e i ⟨x,a3,rfl,g6,g7,c1⟩;have e1:Hid (Below w.heap.size w i):=g4.out.trans (c1.mono g4.out.size);obtain⟨d,a4⟩:∃d,d=(i.alloc (.cells #[.int .i64 c,.slice (some ⟨x,0,none⟩) 8 8] 183)).alloc (.cells #[.int .i64 f,.slice (some ⟨a3,0,none⟩) 8 8] 183):=⟨_,rfl⟩;have a5:Below i.heap.size i d:=by rw[a4];exact(aG _ _).alloc (by simp) _
 have e2:d.heap[i.heap.size]?=some (.cells #[.int .i64 c,.slice (some ⟨x,0,none⟩) 8 8] 183 (0,0)):=by rw[a4,Below.heap_alloc _ _ _ (by simp)];exact heap_alloc_new i _
 have e3:d.heap[i.heap.size+1]?=some (.cells #[.int .i64 f,.slice (some ⟨a3,0,none⟩) 8 8] 183 (0,0)):=by rw[a4];exact cG (by simp)
 have e4:d.heap[w.heap.size]?=some (.cells #[.pointer (some ⟨g,0,none⟩)] 107 (0,0)):=(a5.block _ (Nat.lt_of_lt_of_le (lt_of_block e0.out) c1.size)).trans ((c1.block _ (lt_of_block e0.out)).trans e0.out);have a6:Hid (Below w.heap.size w d):=e1.out.trans (a5.mono e1.out.size);have a7:Hid (cA x F.bs c d):=g6.below a5;have k3:Hid (cA a3 F.bs f d):=g7.below a5;have S:Hid (∀W,Below d.heap.size d W→(W.cell? ⟨w.heap.size,0,none⟩=some (.pointer (some ⟨g,0,none⟩))∧W.cell? ⟨i.heap.size,0,none⟩=some (.int .i64 c)∧W.cell? ⟨i.heap.size,1,none⟩=some (.slice (some ⟨x,0,none⟩) 8 8))∧W.cell? ⟨i.heap.size+1,0,none⟩=some (.int .i64 f)∧W.cell? ⟨i.heap.size+1,1,none⟩=some (.slice (some ⟨a3,0,none⟩) 8 8)):=fun W k=>by
  have y:=(k.block _ (lt_of_block e4)).trans e4;have g8:=(k.block _ (lt_of_block e2)).trans e2;have g9:=(k.block _ (lt_of_block e3)).trans e3;exact⟨⟨aD y,aD g8,aD g8⟩,aD g9,aD g9⟩
 have k4:=aI a4;obtain⟨⟨E,z,M⟩,G,e5⟩:=S.out d (Below.refl _ _);clear g6 g7 c1 a5 e2 e3 e4 a4 g2;go_wp2_with fail
 rw[←k4.out];go_wp2_with fail
 refine(Gd x a3 F.bs c f d b9.out a7.out k3.out).mono ?_;rintro e k5 ⟨v,rfl,⟨T,_⟩,h0⟩;rw[j6.out]at T;have k6:=aI T;have h1:=aI h0;clear T h0 E z M G e5;go_wp2_with fail
 refine(zF d.heap.size v (bT F.bs) k5 j7.out j8.out k6.out).mono ?_;rintro e j ⟨rfl,h2⟩;have c2:Hid (Below d.heap.size d j):=h1.out.trans (h2.mono h1.out.size);clear h2;generalize fQ (bT F.bs)+1=U at *;obtain⟨l,c3⟩:∃l,l=j.alloc (.cells #[.int .i64 1,.int .i64 part,.int .i64 code,.int .i64 U,.int .i64 act] 52):=⟨_,rfl⟩;have e6:Hid (Below d.heap.size d l):=by rw[c3];exact c2.out.alloc c2.out.size _
 have e7:l.heap[j.heap.size]?=some (.cells #[.int .i64 1,.int .i64 part,.int .i64 code,.int .i64 U,.int .i64 act] 52 (0,0)):=aF c3;have h3:Hid (∀W,Below l.heap.size l W→W.cell? ⟨j.heap.size,0,none⟩=some (.int .i64 1)∧W.cell? ⟨j.heap.size,1,none⟩=some (.int .i64 part)∧W.cell? ⟨j.heap.size,2,none⟩=some (.int .i64 code)∧W.cell? ⟨j.heap.size,3,none⟩=some (.int .i64 U)∧W.cell? ⟨j.heap.size,4,none⟩=some (.int .i64 act)):=fun W k=>by
  have y:=(k.block _ (lt_of_block e7)).trans e7;exact⟨aD y,aD y,aD y,aD y,aD y⟩
 have k7:=aI c3;have A:Hid (∀W,Below l.heap.size l W→Below d.heap.size d W):=fun W k=>e6.out.trans (k.mono e6.out.size)
 clear c3 e7;obtain⟨⟨_,z,M⟩,_,_⟩:=S.out j c2.out;have k8:=aN z;go_wp2_with fail
 rw[←k7.out];refine(Pc x F.bs c l (a7.out.below e6.out)).mono ?_;rintro e c4 ⟨rfl,h4⟩;have a8:=aI h4;clear h4 z M k8;obtain⟨⟨_,z,M⟩,_,_⟩:=S.out c4 (A.out c4 a8.out);have h5:=aI (kZ x F.bs c c4 (a7.out.below (A.out c4 a8.out)));have o5:=k1.out;generalize nW F.bs c=e8 at *;generalize cH F.bs c=c5 at *;go_wp2_with fail
 refine h5.out.mono ?_;rintro e a ⟨rfl,h6⟩;have B:Hid (Below l.heap.size l a):=a8.out.trans (h6.mono a8.out.size);clear h6 z M h5 a8;obtain⟨⟨E,z,M⟩,G,e5⟩:=S.out a (A.out a B.out);obtain⟨V,r1,X,Y,Z⟩:=h3.out a B.out;have e9:Hid (Below w.heap.size w a):=a6.out.trans ((A.out a B.out).mono a6.out.size)
 by_cases c6:c5=true∧e8<8
 ·obtain⟨rfl,H⟩:=c6;rw[if_pos ⟨rfl,H⟩]at m;have I:=aI (xR g F c e8 1 part code U act a (g3.out.below e9.out) d9.out b7.1 H);rw[←m.out]at I;clear m;go_wp2_with fail
  refine I.out.mono ?_;rintro e f0 ⟨rfl,h7,h8⟩;have k9:=aI h7;have l0:Hid (aH (·=g) w f0):=(aH.ofBelow e9.out).andThen h8;clear h7 h8 I;go_wp2
  go_ret
  exact⟨rfl,k9.out,l0.out⟩
 ·rw[if_neg c6]at m;have h9:=aI (fun W (k:Below a.heap.size a W)=>Gq x F.bs c W j9.out ((a7.out.below (A.out a B.out)).below k) j5.out);have i0:=aI (fun W (k:Below a.heap.size a W)=>kH x F.bs c W ((a7.out.below (A.out a B.out)).below k));have o6:=aI (b9.out c);have l1:Hid (eC F.bs c=fG F.bs c 3):=rfl;rw[←l1.out]at m;have o7:=b9.out c;generalize eC F.bs c=r at *;generalize kE F.bs=C at *;obtain⟨P,D⟩:∃P:World→Prop,P=fun W=>Below a.heap.size a W:=⟨_,rfl⟩
  obtain⟨u,J⟩:∃u:Nat→World→Prop,u=fun b W=>a.heap.size≤b∧W.heap[b]?=some (.cells #[.int .i64 0,.int .i64 0,.int .i64 0,.int .i64 0,.int .i64 0] 52 (0,0)):=⟨_,rfl⟩
  have L:Hid (P a.drew):=by subst D;exact(Below.refl _ _).drew
  have a9:Hid (∀W,P W→W.cell? ⟨i.heap.size,0,none⟩=some (.int .i64 c)∧W.cell? ⟨i.heap.size,1,none⟩=some (.slice (some ⟨x,0,none⟩) 8 8)):=fun W h=>by
   subst D;have:=(S.out W (A.out W (B.out.trans (h.mono B.out.size)))).1;exact this.2
  have l2:Hid (∀W,P W→Calls Tryz.prog 126 #[.agg #[.int .i64 c,.slice (some ⟨x,0,none⟩) 8 8]] W fun e w'=>e=.returned (.int .i64 r)∧P w'∧∀b,u b W→u b w'):=fun W h=>by
   subst D J;refine(i0.out W h).mono ?_;rintro e w' ⟨rfl,b0⟩;exact⟨rfl,h.trans (b0.mono h.size),fun b N=>⟨N.1,(b0.block b (lt_of_block N.2)).trans N.2⟩⟩
  have l3:Hid (∀W,P W→Calls Tryz.prog 157 #[.agg #[.int .i64 c,.slice (some ⟨x,0,none⟩) 8 8]] W fun e w'=>e=.returned (.int .i64 C)∧P w'∧∀b,u b W→u b w'):=fun W h=>by
   subst D J;refine(h9.out W h).mono ?_;rintro e w' ⟨rfl,b0⟩;exact⟨rfl,h.trans (b0.mono h.size),fun b N=>⟨N.1,(b0.block b (lt_of_block N.2)).trans N.2⟩⟩
  have b1:Hid (∀W,P W→P (W.alloc (.cells #[.int .i64 0,.int .i64 0,.int .i64 0,.int .i64 0,.int .i64 0] 52))∧u W.heap.size (W.alloc (.cells #[.int .i64 0,.int .i64 0,.int .i64 0,.int .i64 0,.int .i64 0] 52))):=fun W h=>by
   subst D J;exact⟨h.alloc h.size _,h.size,heap_alloc_new W _⟩
  have b2:Hid (P (a.alloc (.cells #[.int .i64 0,.int .i64 0,.int .i64 0,.int .i64 0,.int .i64 0] 52)).drew∧u a.heap.size (a.alloc (.cells #[.int .i64 0,.int .i64 0,.int .i64 0,.int .i64 0,.int .i64 0] 52)).drew):=by
   subst D J;exact⟨(aG _ _).drew,Nat.le_refl _,heap_alloc_new a _⟩
  have i1:Hid (∀b W,u b W→(W.cell? ⟨b,0,none⟩=some (.int .i64 0)∧W.cell? ⟨b,1,none⟩=some (.int .i64 0)∧W.cell? ⟨b,2,none⟩=some (.int .i64 0)∧W.cell? ⟨b,3,none⟩=some (.int .i64 0)∧W.cell? ⟨b,4,none⟩=some (.int .i64 0))∧W.frozen? ⟨b,0,none⟩=false∧W.frozen? ⟨b,1,none⟩=false∧W.frozen? ⟨b,2,none⟩=false∧W.frozen? ⟨b,3,none⟩=false∧W.frozen? ⟨b,4,none⟩=false):=fun b W h=>by
   subst J;have b3:=aJ h.2;exact⟨⟨aD h.2,aD h.2,aD h.2,aD h.2,aD h.2⟩,b3 0,b3 1,b3 2,b3 3,b3 4⟩
  obtain⟨a0,c7⟩:∃a0:Value→World→Prop,a0=fun v c8=>∃b,v=.pointer (some ⟨b,0,none⟩)∧a.heap.size≤b∧c8.heap[b]?=some (.cells #[.int .i64 2,.int .i64 0,.int .i64 0,.int .i64 (r+1),.int .i64 C] 52 (0,0))∧Below a.heap.size a c8:=⟨_,rfl⟩
  have l4:Hid (∀b W,P W→u b W→a0 (.pointer (some ⟨b,0,none⟩)) (((((W.setCell ⟨b,0,none⟩ (.int .i64 2)).setCell ⟨b,1,none⟩ (.int .i64 0)).setCell ⟨b,2,none⟩ (.int .i64 0)).setCell ⟨b,3,none⟩ (.int .i64 (r+1))).setCell ⟨b,4,none⟩ (.int .i64 C))):=fun b W b4 c9=>by
   subst D J c7;exact⟨b,rfl,c9.1,Jb c9.2,Hq b4 c9.1⟩
  have l5:Hid (∀W,P W→a0 (.pointer (some ⟨W.heap.size,0,none⟩)) (W.alloc (.cells #[.int .i64 2,.int .i64 0,.int .i64 0,.int .i64 (r+1),.int .i64 C] 52))):=fun W b4=>by
   subst D J c7;exact⟨W.heap.size,rfl,b4.size,heap_alloc_new W _,b4.alloc b4.size _⟩
  have l6:Hid (∀v W,a0 v W→∃b,v=.pointer (some ⟨b,0,none⟩)∧a.heap.size≤b∧W.heap[b]?=some (.cells #[.int .i64 2,.int .i64 0,.int .i64 0,.int .i64 (r+1),.int .i64 C] 52 (0,0))∧Below a.heap.size a W):=fun v W h=>by subst c7;exact h
  have l7:=World.new_ne _ _ z;have o8:IntKind.i64.wrap (r+1)=r+1:=by rw[IntKind.wrap_i64];omega
  clear D J c7 h9 i0 b9;have l8:c5=false∨(c5=true∧e8=8):=by
   cases c5 with
   | false=>exact .inl rfl
   | true=>exact .inr ⟨rfl,by have:=c6;simp at this;omega⟩
  clear c6;rcases l8 with rfl| ⟨rfl,rfl⟩
  all_goals (
   go_wp2_with fail
   go_cut [13]from 29 to 46 (fun v c8=>a0 v c8)
   case first=>
    go_region_held (fun W:World=>W.cell? ⟨i.heap.size,0,none⟩=some (.int .i64 c)∧W.cell? ⟨i.heap.size,1,none⟩=some (.slice (some ⟨x,0,none⟩) 8 8))
     ((first| (with_reducible assumption)| (with_reducible exact a9.out _ (b1.out _ (by first| (with_reducible assumption)| (with_reducible exact L.out))).1)| (with_reducible exact a9.out _ L.out)| (with_reducible exact a9.out _ b2.out.1)| (go_keep;done)))
     (first
     | (go_at_call 126;refine(l2.out _ (by first | (with_reducible assumption) | (with_reducible exact L.out) | (with_reducible exact b2.out.1) | (with_reducible exact(b1.out _ (by first | (with_reducible assumption) | (with_reducible exact L.out))).1))).mono ?_;rintro e f0 ⟨rfl,f1,O⟩;have f2:=a9.out _ f1;have l9:=World.new_ne _ _ f2.1;try (first | (have Q:=O _ (by with_reducible assumption)) | (have Q:=O _ (by with_reducible exact b2.out.2)) | (have Q:=O _ (by with_reducible exact(b1.out _ (by first | (with_reducible assumption) | (with_reducible exact L.out))).2)));try (obtain⟨⟨m0,m1,m2,m3,m4⟩,m5,m6,m7,m8,m9⟩:=i1.out _ _ Q))
     | (go_at_call 157;refine(l3.out _ (by first | (with_reducible assumption) | (with_reducible exact L.out) | (with_reducible exact b2.out.1) | (with_reducible exact(b1.out _ (by first | (with_reducible assumption) | (with_reducible exact L.out))).1))).mono ?_;rintro e f0 ⟨rfl,f1,O⟩;have f2:=a9.out _ f1;have l9:=World.new_ne _ _ f2.1;try (first | (have Q:=O _ (by with_reducible assumption)) | (have Q:=O _ (by with_reducible exact b2.out.2)) | (have Q:=O _ (by with_reducible exact(b1.out _ (by first | (with_reducible assumption) | (with_reducible exact L.out))).2)));try (obtain⟨⟨m0,m1,m2,m3,m4⟩,m5,m6,m7,m8,m9⟩:=i1.out _ _ Q)))
    all_goals (go_wp2_with fail;go_meet;first| (with_reducible exact l5.out _ (by with_reducible assumption))| (with_reducible exact l4.out _ _ (by with_reducible assumption) (by with_reducible assumption)))
   case rest=>
    obtain⟨b,rfl,i2,i3,i4⟩:=l6.out _ _ hcut;have f3:Hid (Below l.heap.size l wc):=B.out.trans (i4.mono B.out.size);have d0:Hid (Below w.heap.size w wc):=a6.out.trans ((A.out wc f3.out).mono a6.out.size);have b5:=aI i3;have n0:Hid (w.heap.size≤b):=Nat.le_trans e9.out.size i2;have f4:Hid (∀W,aH (·=g) wc W→(W.cell? ⟨w.heap.size,0,none⟩=some (.pointer (some ⟨g,0,none⟩))∧W.cell? ⟨i.heap.size+1,0,none⟩=some (.int .i64 f))∧(W.cell? ⟨j.heap.size,0,none⟩=some (.int .i64 1)∧W.cell? ⟨j.heap.size,1,none⟩=some (.int .i64 part)∧W.cell? ⟨j.heap.size,2,none⟩=some (.int .i64 code)∧W.cell? ⟨j.heap.size,3,none⟩=some (.int .i64 U)∧W.cell? ⟨j.heap.size,4,none⟩=some (.int .i64 act))∧(W.cell? ⟨b,0,none⟩=some (.int .i64 2)∧W.cell? ⟨b,1,none⟩=some (.int .i64 0)∧W.cell? ⟨b,2,none⟩=some (.int .i64 0)∧W.cell? ⟨b,3,none⟩=some (.int .i64 (r+1))∧W.cell? ⟨b,4,none⟩=some (.int .i64 C))):=fun W k=>by
     have n:∀ (q o:Nat) (v:Value),w.heap.size≤q→wc.cell? ⟨q,o,none⟩=some v→W.cell? ⟨q,o,none⟩=some v:=fun q o v o9 T=>(World.cell?_of_block (k.block q (aN T) (by intro e;have p1:q=g:=e;omega))).trans T
     obtain⟨⟨k0,_,_⟩,y,_⟩:=S.out wc (A.out wc f3.out);obtain⟨n1,n2,n3,n4,n5⟩:=h3.out wc f3.out;have c9:=e1.out.size;have b6:=Nat.le_trans a6.out.size c2.out.size;have H:=n0.out;exact⟨⟨n _ _ _ (Nat.le_refl _) k0,n _ _ _ (by omega) y⟩,⟨n _ _ _ b6 n1,n _ _ _ b6 n2,n _ _ _ b6 n3,n _ _ _ b6 n4,n _ _ _ b6 n5⟩,n _ _ _ H (aD b5.out),n _ _ _ H (aD b5.out),n _ _ _ H (aD b5.out),n _ _ _ H (aD b5.out),n _ _ _ H (aD b5.out)⟩
    have f5:=aI (tV g F f wc (g3.out.below d0.out) d9.out b7.2);have f6:=aI (d9.out.erase f);clear hcut i2 i3 i4 E z M G e5 V r1 X Y Z l7;obtain⟨⟨E,G⟩,⟨V,r1,X,Y,Z⟩,d1,d2,d3,d4,d5⟩:=f4.out wc (aH.refl _ _);generalize F.erase f=n6 at *;obtain⟨n7,a1⟩:=n6;simp only at f5 f6;go_wp2_with fail
    refine f5.out.mono ?_;rintro e i5 ⟨rfl,i6,i7⟩;have f7:=aI i7;have i8:=aI i6;clear i6 i7 f5 E G V r1 X Y Z d1 d2 d3 d4 d5;cases n7 with
    | false=>
     have f8:Hid (a2=(false,a1)):=by show _=_;rw[m.out];rfl
     go_wp2
     go_ret
     rw[f8.out];exact⟨rfl,i8.out,(aH.ofBelow d0.out).andThen f7.out⟩
    | true=>
     rw[kQ]at m;obtain⟨⟨E,G⟩,⟨V,r1,X,Y,Z⟩,d1,d2,d3,d4,d5⟩:=f4.out i5 f7.out;have I:=aI (xR g a1 f 0 2 0 0 (r+1) C i5 i8.out f6.out b7.2 (by omega));rw[show 128*f+16*0=128*f from by omega]at I;have i9:=aI (f6.out.lay (128*f) (dN 2 0 0 (r+1) C));generalize a1.lay (128*f) (dN 2 0 0 (r+1) C)=n8 at *;obtain⟨n9,c0⟩:=n8;simp only at I i9;go_wp2_with fail
     refine I.out.mono ?_;rintro e f9 ⟨rfl,j0,j1⟩;have g0:Hid (aH (·=g) wc f9):=f7.out.andThen j1;have j2:=aI j0;clear j0 j1 I E G V r1 X Y Z d1 d2 d3 d4 d5;cases n9 with
     | false=>
      have f8:Hid (a2=(false,c0)):=by show _=_;rw[m.out];rfl
      go_wp2
      go_ret
      rw[f8.out];exact⟨rfl,j2.out,(aH.ofBelow d0.out).andThen g0.out⟩
     | true=>
      rw[kQ]at m;obtain⟨⟨E,G⟩,⟨V,r1,X,Y,Z⟩,d1,d2,d3,d4,d5⟩:=f4.out f9 g0.out;have d6:=aI (xR g c0 f 1 1 part code U act f9 j2.out i9.out b7.2 (by omega));rw[show 128*f+16*1=128*f+16 from by omega,←m.out]at d6;clear m;obtain⟨p2,p3⟩:=a2;simp only at d6;go_wp2_with fail
      refine d6.out.mono ?_;rintro e o0 ⟨rfl,j3,j4⟩;have o1:Hid (aH (·=g) w o0):=(aH.ofBelow d0.out).andThen (g0.out.andThen j4);have o2:=aI j3;clear j3 j4 d6;go_wp2
      go_ret
      exact⟨rfl,o2.out,o1.out⟩)
theorem aQ.act_len(st:aQ)(i n:Nat)(a:Int):(st.act i n a).parts.length=st.parts.length:=by
 unfold aQ.act
 repeat' split
 all_goals simp[aQ.setProc,aQ.setPart,aQ.restart,aQ.reset]
theorem aQ.act_cf(st:aQ)(i n:Nat)(a:Int):(st.act i n a).cf=st.cf:=by
 unfold aQ.act
 repeat' split
 all_goals rfl
theorem aQ.act_now(st:aQ)(i n:Nat)(a:Int):(st.act i n a).now=st.now:=by
 unfold aQ.act
 repeat' split
 all_goals rfl
theorem Mo.setProc{w w':World}{a:bN}{g:Nat}{st:aQ}{F:Fl}(h:Mo w a g st F)(i n:Nat)(x:cQ)(c:i<st.parts.length)(d:aH (·=a.pr i) w w')(f:aU w' a g (st.setProc i n x)):Mo w' a g (st.setProc i n x) F∧aH (Dm a g st) w w':=
 ⟨h.cells (h.mach.procs i c) (by decide) d f (aQ.setPart_len _ _ _) rfl (h.ok.setPart i _ rfl (by simp)),d.to (fun b e=>by have j:b=a.pr i:=e;rw[j];exact .inr (.inr (.inl ⟨i,c,.inr rfl⟩)))⟩
theorem Mo.setPart{w w':World}{a:bN}{g:Nat}{st:aQ}{F:Fl}(h:Mo w a g st F)(i:Nat)(p:fF)(d:p.words.length=(st.part i).words.length)(f:p.procs.length=(st.part i).procs.length)(c:aH (·=a.pb) w w')(j:aU w' a g (st.setPart i p)):Mo w' a g (st.setPart i p) F∧aH (Dm a g st) w w':=
 ⟨h.cells h.mach.parts (by decide) c j (aQ.setPart_len _ _ _) rfl (h.ok.setPart i p d f),c.to (fun b e=>.inr (.inl e))⟩
theorem Ry(f:bN)(g:Nat)(st:aQ)(F:Fl)(i n:Nat)(q:Option Addr)(a:Int)(w:World)(h:Mo w f g st F)(m:i<st.parts.length)(A:n<(st.part i).procs.length)(c:q=some ⟨f.pr i,n*6,none⟩∨(a≠2∧a≠3)):
 Calls Tryz.prog 116 #[.pointer (some ⟨f.mb,0,none⟩),.pointer (some ⟨f.pb,i*14,none⟩),.pointer q,.int .i64 a] w fun e w'=>e=.returned (.tuple #[])∧Mo w' f g (st.act i n a) F∧aH (Dm f g st) w w':=by
 have H:=h.mach.machAt 6;simp only[List.getElem?_toArray,List.getElem?_cons_succ,List.getElem?_cons_zero]at H;have I:=h.mach.partAt i 9 m (by omega);simp only[fK,List.getElem?_cons_succ,List.getElem?_cons_zero]at I;have L:=aJ h.mach.parts (i*14+9);have p3:=h.mach.procAt i n 3 m A (by omega);simp only[aY,List.getElem?_cons_succ,List.getElem?_cons_zero]at p3;have M:=aJ (h.mach.procs i m) (n*6+3);have D:=aI h;obtain⟨E,b⟩:∃E,E=st.act i n a:=⟨_,rfl⟩;rw[←b];unfold aQ.act at b
 by_cases o:a=2
 ·rw[if_pos o]at b;subst o;obtain rfl:q=some ⟨f.pr i,n*6,none⟩:=by rcases c with c| c;exact c;exact absurd rfl c.1
  have d:=aI (h.setProc i n { st.proc i n with stopped:=true } m (aH.ofSet w (f.pr i) (n*6+3) (.bool true) rfl) (h.mach.procCell h.lay i n 3 (.bool true) _ m A (by omega) rfl));have j:=aI b;clear h b c
  go_enter Tryz.func116,Tryz.ntmps116
  go_wp2
  go_end0
  rw[j.out];exact⟨rfl,d.out.1,d.out.2⟩
 rw[if_neg o]at b;have x:(a == 2)=false:=by simp[o]
 by_cases p:a=3
 ·rw[if_pos p]at b;subst p;obtain rfl:q=some ⟨f.pr i,n*6,none⟩:=by rcases c with c| c;exact c;exact absurd rfl c.2
  have s:=aI (An f g st i n w h.mach h.lay m A);have j:=aI b;clear h b c o x
  go_enter Tryz.func116,Tryz.ntmps116
  go_wp2_with fail
  refine s.out.mono ?_;rintro e B ⟨rfl,k,l⟩;have d:=aI (D.out.setProc i n dC m l k);clear k l;go_wp2
  go_end0
  rw[j.out];exact⟨rfl,d.out.1,d.out.2⟩
 rw[if_neg p]at b;have z:(a == 3)=false:=by simp[p]
 by_cases r:a=4
 ·rw[if_pos r]at b;subst r;have s:=aI (pW f g st F i 2 st.now w h m rfl);have j:=aI b;clear h b c o x p z
  go_enter Tryz.func116,Tryz.ntmps116
  go_wp2_with fail
  refine s.out.mono ?_;rintro e B ⟨rfl,k,l⟩;have d:=aI (And.intro k l);clear k l;go_wp2
  go_end0
  rw[j.out];exact⟨rfl,d.out.1,d.out.2⟩
 rw[if_neg r]at b;have C:(a == 4)=false:=by simp[r]
 by_cases u:a=5
 ·rw[if_pos u]at b;subst u;have s:=aI (pW f g st F i 1 st.now w h m rfl);have j:=aI b;clear h b c o x p z r C
  go_enter Tryz.func116,Tryz.ntmps116
  go_wp2_with fail
  refine s.out.mono ?_;rintro e B ⟨rfl,k,l⟩;have d:=aI (And.intro k l);clear k l;go_wp2
  go_end0
  rw[j.out];exact⟨rfl,d.out.1,d.out.2⟩
 rw[if_neg u]at b;have G:(a == 5)=false:=by simp[u]
 by_cases v:a=6
 ·rw[if_pos v]at b;subst v;have d:=aI (h.setPart i { st.part i with mode:=3 } rfl rfl (aH.ofSet w f.pb (i*14+9) (.int .i64 3) rfl) (h.mach.setMode i 3 m));have j:=aI b;clear h b c o x p z r C u G
  go_enter Tryz.func116,Tryz.ntmps116
  go_wp2
  go_end0
  rw[j.out];exact⟨rfl,d.out.1,d.out.2⟩
 rw[if_neg v]at b;have J:(a == 6)=false:=by simp[v]
 by_cases y:a=7
 ·rw[if_pos y]at b;subst y;have s:=aI (Mf f g st F w h);have j:=aI b;clear h b c o x p z r C u G v J
  go_enter Tryz.func116,Tryz.ntmps116
  go_wp2_with fail
  refine s.out.mono ?_;rintro e B ⟨rfl,k,l⟩;have d:=aI (And.intro k l);clear k l;go_wp2
  go_end0
  rw[j.out];exact⟨rfl,d.out.1,d.out.2⟩
 rw[if_neg y]at b;have N:(a == 7)=false:=by simp[y]
 have j:=aI b;clear h b c o p r u v y
 go_enter Tryz.func116,Tryz.ntmps116
 go_wp2
 go_end0
 rw[j.out];exact⟨rfl,D.out,aH.refl _ _⟩
theorem aU.actAt{w:World}{a:bN}{g:Nat}{st:aQ}(h:aU w a g st)(i code:Nat)(b:i<st.parts.length)(c:code<6):w.cell? ⟨a.pb,i*14+3+code,none⟩=some (.int .i64 ((st.cpart i).acts.getD code 0)):=by
 have:=h.partAt i (3+code) b (by omega);rw[←Nat.add_assoc]at this;rw[this];obtain rfl| rfl| rfl| rfl| rfl| rfl:code=0∨code=1∨code=2∨code=3∨code=4∨code=5:=by omega
 all_goals rfl
theorem Hz(b:bN)(g:Nat)(st:aQ)(F:Fl)(i code:Nat)(w:World)(h:Mo w b g st F)(q:i<st.parts.length)(v:code<6):
 Calls Tryz.prog 114 #[.pointer (some ⟨b.mb,0,none⟩),.pointer (some ⟨b.pb,i*14,none⟩),.int .i64 code] w fun e w'=>e=.returned (.int .i64 (eR st F.bs i code))∧Below w.heap.size w w':=by
 have k:=h.mach.machAt 0;simp only[List.getElem?_toArray,List.getElem?_cons_zero]at k;have p0:=h.mach.partAt i 0 q (by omega);have p2:=h.mach.partAt i 2 q (by omega);simp only[fK,List.getElem?_cons_succ,List.getElem?_cons_zero,Nat.add_zero]at p0 p2;have B:=h.mach.actAt i code q v;have x:i<4:=by have:=h.ok.good.few;have:=h.ok.len;omega
 have s:Hid (Calls Tryz.prog 75 #[.agg #[.pointer (some ⟨g,0,none⟩)],.int .i64 i] w.drew fun e w'=>e=.returned (.int .i64 (aX F.bs i))∧Below w.heap.size w w'):=(Al g F.bs F.left F.res F.dead F.done i w.drew x (h.fl.keep rfl)).mono (fun e w' ⟨y,l⟩=>⟨y,⟨l.os,l.tape,l.output,l.size,l.block⟩⟩);obtain⟨m,c⟩:∃m,m=eR st F.bs i code:=⟨_,rfl⟩;rw[←c];unfold eR at c;have u:=lt_of_block h.mach.mach;have n:=lt_of_block h.mach.parts;clear h;generalize (st.cpart i).acts.getD code 0=a at *;generalize (st.cpart i).limit=d at *;generalize aX F.bs i=rs at *
 by_cases o:a=4∨a=5
 ·by_cases r:d≤rs
  ·rw[if_pos ⟨o,r⟩]at c;subst c;have z:decide (d≤rs)=true:=by simp[r]
   rcases o with rfl| rfl
   all_goals (
    go_enter Tryz.func114,Tryz.ntmps114
    go_wp2_with fail
    go_region_held (fun W:World=>W.cell? ⟨b.mb,0,none⟩=some (.pointer (some ⟨g,0,none⟩))∧W.cell? ⟨b.pb,i*14,none⟩=some (.int .i64 i)∧W.cell? ⟨b.pb,i*14+2,none⟩=some (.int .i64 d))
     ((first| (with_reducible assumption)| exact⟨k,p0,p2⟩))
     (first| (go_at_call 75;refine s.out.mono ?_;rintro e f ⟨rfl,j⟩;have A:f.cell? ⟨b.mb,0,none⟩=some (.pointer (some ⟨g,0,none⟩))∧f.cell? ⟨b.pb,i*14,none⟩=some (.int .i64 i)∧f.cell? ⟨b.pb,i*14+2,none⟩=some (.int .i64 d):=⟨(j.cell (p:=⟨b.mb,0,none⟩) u).trans k,(j.cell (p:=⟨b.pb,i*14,none⟩) n).trans p0,(j.cell (p:=⟨b.pb,i*14+2,none⟩) n).trans p2⟩))
    all_goals (go_wp2;go_ret;exact⟨rfl,by assumption⟩))
  ·rw[if_neg (fun h=>r h.2)]at c;have z:decide (d≤rs)=false:=by simp;omega
   subst c;rcases o with rfl| rfl
   all_goals (
    go_enter Tryz.func114,Tryz.ntmps114
    go_wp2_with fail
    go_region_held (fun W:World=>W.cell? ⟨b.mb,0,none⟩=some (.pointer (some ⟨g,0,none⟩))∧W.cell? ⟨b.pb,i*14,none⟩=some (.int .i64 i)∧W.cell? ⟨b.pb,i*14+2,none⟩=some (.int .i64 d))
     ((first| (with_reducible assumption)| exact⟨k,p0,p2⟩))
     (first| (go_at_call 75;refine s.out.mono ?_;rintro e f ⟨rfl,j⟩;have A:f.cell? ⟨b.mb,0,none⟩=some (.pointer (some ⟨g,0,none⟩))∧f.cell? ⟨b.pb,i*14,none⟩=some (.int .i64 i)∧f.cell? ⟨b.pb,i*14+2,none⟩=some (.int .i64 d):=⟨(j.cell (p:=⟨b.mb,0,none⟩) u).trans k,(j.cell (p:=⟨b.pb,i*14,none⟩) n).trans p0,(j.cell (p:=⟨b.pb,i*14+2,none⟩) n).trans p2⟩))
    all_goals (go_wp2;go_ret;exact⟨rfl,by assumption⟩))
 ·rw[if_neg (fun h=>o h.1)]at c;subst c;have C:(m == 4)=false:=by simp;omega
  have D:(m == 5)=false:=by simp;omega
  go_enter Tryz.func114,Tryz.ntmps114
  go_wp2_with fail
  go_quiet (fail)
  go_wp2
  go_ret
  exact⟨rfl,⟨rfl,rfl,rfl,Nat.le_refl _,fun _ _=>rfl⟩⟩
theorem Du(st:aQ)(bs:List Int)(i:Nat)(h:eA st)(a:i<st.parts.length):eR st bs i 5≠2∧eR st bs i 5≠3:=by
 have b:=(h.good.parts (st.cf.parts.getD i default) (dB (by rw[←h.len];exact a))).last;unfold eR;split
 ·exact⟨by decide,by decide⟩
 ·exact b
theorem qZ(c:bN)(g:Nat)(st:aQ)(F:Fl)(i n code:Nat)(q:Option Addr)(w:World)(h:Mo w c g st F)(l:i<st.parts.length)(L:n<(st.part i).procs.length)(M:code<6)(m:q=some ⟨c.pr i,n*6,none⟩∨code=5):
 Calls Tryz.prog 78 #[.pointer (some ⟨c.mb,0,none⟩),.pointer (some ⟨c.pb,i*14,none⟩),.pointer q,.int .i64 code] w fun e w'=>
  e=.returned (.bool (cK i n code (st,F)).1)∧Mo w' c g (cK i n code (st,F)).2.1 (cK i n code (st,F)).2.2∧aH (Dm c g st) w w':=by
 have z:=aI (Hz c g st F i code w h l M);have A:q=some ⟨c.pr i,n*6,none⟩∨(eR st F.bs i code≠2∧eR st F.bs i code≠3):=by
  rcases m with m| rfl
  ·exact .inl m
  ·exact .inr (Du st F.bs i h.ok l)
 have j:Hid (cK i n code (st,F)=if(F.app i code (eR st F.bs i code)).1=true then(true,st.act i n (eR st F.bs i code),(F.app i code (eR st F.bs i code)).2)else(false,st,(F.app i code (eR st F.bs i code)).2)):=rfl;have N:=aI h;have O:=aI A;have B:=aI (h.flok.app i code (eR st F.bs i code));clear h m A;generalize cK i n code (st,F)=Z at *;generalize eR st F.bs i code=a at *
 go_enter Tryz.func78,Tryz.ntmps78
 go_wp2_with fail
 refine z.out.mono ?_;rintro e k ⟨rfl,u⟩;have d:=N.out.mono u;have o:=d.mach.machAt 0;simp only[List.getElem?_toArray,List.getElem?_cons_zero]at o;have p0:=d.mach.partAt i 0 l (by omega);simp only[fK,List.getElem?_cons_zero,Nat.add_zero]at p0;have y:Hid (Calls Tryz.prog 115 #[.agg #[.pointer (some ⟨g,0,none⟩)],.int .i64 i,.int .i64 code,.int .i64 a] k.drew fun e w'=>e=.returned (.bool (F.app i code a).1)∧fO w' g (F.app i code a).2∧aH (·=g) k w'):=(Jt g F i code a k.drew (d.fl.keep rfl) d.flok).mono (fun e w' ⟨p,r,P⟩=>⟨p,r,(aH.ofDrew k).andThen P⟩);have Q:=aI u;have R:=aI d;have S:¬c.mb=g:=bG d.mach.mach d.fl.blk (by decide);have T:¬c.pb=g:=bG d.mach.parts d.fl.blk (by decide);have U:=lt_of_block d.mach.mach;have V:=lt_of_block d.mach.parts;clear u d z;generalize F.app i code a=X at *;obtain⟨b,C⟩:=X;simp only at y B j;go_wp2_with fail
 go_cut [25]from 10 to 25 (fun v D=>v=.bool (!b)∧fO D g C∧aH (·=g) k D)
 case first=>
  go_region_held (fun W:World=>W.cell? ⟨c.mb,0,none⟩=some (.pointer (some ⟨g,0,none⟩))∧W.cell? ⟨c.pb,i*14,none⟩=some (.int .i64 i))
   ((first| (with_reducible assumption)| exact⟨o,p0⟩))
   (first| (go_at_call 115;refine y.out.mono ?_;rintro e E ⟨rfl,s,f⟩;have a0:E.cell? ⟨c.mb,0,none⟩=some (.pointer (some ⟨g,0,none⟩))∧E.cell? ⟨c.pb,i*14,none⟩=some (.int .i64 i):=⟨(World.cell?_of_block (f.block _ U S)).trans o,(World.cell?_of_block (f.block _ V T)).trans p0⟩))
  all_goals (go_wp2_with fail;go_meet;exact⟨by first| rfl| simp,s,f⟩)
 case rest=>
  obtain⟨rfl,s,f⟩:=hcut;have G:=R.out.flash f s B.out;have H:Hid (aH (Dm c g st) w wc):=(aH.ofBelow Q.out).andThen (f.to (fun x e=>.inr (.inr (.inr (.inr e)))));have I:=aI G;clear s f G y o p0;cases b with
  | false=>
   rw[if_neg (by decide)]at j;go_wp2
   go_ret
   rw[j.out];exact⟨rfl,I.out,H.out⟩
  | true=>
   rw[if_pos rfl]at j;have Y:=aI (Ry c g st C i n q a wc I.out l L O.out);go_wp2_with fail
   refine Y.out.mono ?_;rintro e a1 ⟨rfl,p,r⟩;have J:=aI (And.intro p (H.out.andThen r));clear p r;go_wp2
   go_ret
   rw[j.out];exact⟨rfl,J.out.1,J.out.2⟩
structure Lk(s s':aQ):Prop where
 cf:s'.cf=s.cf
 len:s'.parts.length=s.parts.length
 now:s'.now=s.now
theorem Lk.refl(s:aQ):Lk s s:=⟨rfl,rfl,rfl⟩
theorem Lk.trans{a b c:aQ}(h:Lk a b)(k:Lk b c):Lk a c:=⟨k.cf.trans h.cf,k.len.trans h.len,k.now.trans h.now⟩
theorem Lk.setPart(st:aQ)(i:Nat)(p:fF):Lk st (st.setPart i p):=⟨rfl,aQ.setPart_len _ _ _,rfl⟩
theorem Lk.setProc(st:aQ)(i n:Nat)(x:cQ):Lk st (st.setProc i n x):=Lk.setPart _ _ _
theorem Lk.act(st:aQ)(i n:Nat)(a:Int):Lk st (st.act i n a):=⟨aQ.act_cf _ _ _ _,aQ.act_len _ _ _ _,aQ.act_now _ _ _ _⟩
theorem Lk.fault(i n code:Nat)(s:SF):Lk s.1 (cK i n code s).2.1:=by
 unfold cK;split
 ·exact Lk.act _ _ _ _
 ·exact Lk.refl _
theorem Lk.watch(i:Nat)(s:SF):Lk s.1 (cF i s).2.1:=by
 unfold cF;split
 ·exact Lk.refl _
 ·exact(Lk.setPart _ _ _).trans (Lk.fault i 0 5 (_,s.2))
theorem Lk.late(i n:Nat)(s:SF):Lk s.1 (dT i n s).2.1:=by
 unfold dT;split
 ·exact Lk.refl _
 ·exact(Lk.setProc _ _ _ _).trans (Lk.fault i n 2 (_,s.2))
theorem Lk.loopB(f:Nat→SF→Bool×SF)(a:∀k s,Lk s.1 (f k s).2.1)(k:Nat)(s:SF):Lk s.1 (loopB f k s).2.1:=
 sR (fun x=>Lk s.1 x.1) f (fun k x b=>b.trans (a k x)) k s (Lk.refl _)
theorem Lk.lates(i:Nat)(s:SF):Lk s.1 (dF i s).2.1:=Lk.loopB _ (Lk.late i) _ s
def loopL(f:Nat→SF→Bool×SF){a:Nat}(b:List (Fin a))(s:SF):Bool×SF:=b.foldl (fun r k=>eL r (f k.1)) (true,s)
theorem rY(f:Nat→SF→Bool×SF){b:Nat}(a:List (Fin b))(k:Fin b)(s:SF)(h:(loopL f a s).1=true):loopL f (a++[k]) s=f k.1 (loopL f a s).2:=by
 unfold loopL at h ⊢;rw[List.foldl_append];generalize a.foldl (fun r k=>eL r (f k.1)) (true,s)=r at *;show eL r (f k.1)=_
 unfold eL;rw[if_pos h]
theorem gG(f:Nat→SF→Bool×SF)(a:Nat)(s:SF)(k:Nat)(b:k≤a):loopL f (upto a k) s=loopB f k s:=by
 induction k with
 | zero=>rfl
 | succ k ih=>
  have:=ih (by omega);unfold loopL at this ⊢;rw[eW a k (by omega),List.foldl_append,this];rfl
theorem Lk.loopL(f:Nat→SF→Bool×SF)(c:∀k s,Lk s.1 (f k s).2.1){d:Nat}(s:SF):∀ (b:List (Fin d)) (r:Bool×SF),Lk s.1 r.2.1→Lk s.1 (b.foldl (fun r k=>eL r (f k.1)) r).2.1:=by
 intro b
 induction b with
 | nil=>intro r h;exact h
 | cons a l ih=>intro r h;exact ih _ (jO (fun x=>Lk s.1 x.1) h (fun x g=>g.trans (c a.1 x)))
structure qS(len:Nat)(now:Int)(x:cQ):Prop where
 next:0≤x.next∧x.next≤1000∧(x.stopped=true∨x.next<len)
 til:0≤x.til∧x.til≤now+255
 dl:-1≤x.dl∧x.dl≤now+255∧x.dl≠0
structure dY(st:aQ):Prop where
 now:0≤st.now∧st.now≤1000000000000
 watch:∀i,i<st.parts.length→0≤(st.part i).watch∧(st.part i).watch≤st.now
 proc:∀i n,i<st.parts.length→n<(st.part i).procs.length→qS (st.codeOf i n).length st.now (st.proc i n)
 queue:∀j,j<st.cf.chans.length→((st.queues.getD j []).length:Int)≤(st.cf.chans.getD j default).depth
theorem qS.nought(len:Nat)(now:Int)(h:0<len)(a:0≤now):qS len now dC:=⟨⟨by decide,by decide,.inr (by show(0:Int)<_;omega)⟩,⟨by decide,by show(0:Int)≤_;omega⟩,by decide,by show(-1:Int)≤_;omega,by decide⟩
theorem eA.codeLen{st:aQ}(h:eA st)(i n:Nat)(a:i<st.parts.length)(b:n<(st.part i).procs.length):0<(st.codeOf i n).length∧(st.codeOf i n).length≤20:=by
 have c:=h.good.parts (st.cf.parts.getD i default) (dB (by rw[←h.len];exact a));have d:=(h.part i a).2;have f:=c.procs ((st.cf.parts.getD i default).procs.getD n default) (dB (by rw[←d];exact b));have:=f.len;unfold aQ.codeOf aQ.cpart;omega
theorem dY.setPart{st:aQ}(h:dY st)(i:Nat)(p:fF)(d:i<st.parts.length)(g:0≤p.watch∧p.watch≤st.now)(j:∀n,n<p.procs.length→qS (st.codeOf i n).length st.now (p.procs.getD n default)):dY (st.setPart i p):=by
 refine⟨h.now,fun a b=>?_,fun a n b c=>?_,h.queue⟩
 ·by_cases e:i=a
  ·subst e;rw[aQ.part_set d];exact g
  ·rw[aQ.part_other e];exact h.watch a (by rw[aQ.setPart_len]at b;exact b)
 ·by_cases e:i=a
  ·subst e;rw[aQ.part_set d]at c;have f:(st.setPart i p).proc i n=p.procs.getD n default:=by unfold aQ.proc;rw[aQ.part_set d]
   rw[f];exact j n c
  ·rw[aQ.part_other e]at c;have f:(st.setPart i p).proc a n=st.proc a n:=by unfold aQ.proc;rw[aQ.part_other e]
   rw[f];exact h.proc a n (by rw[aQ.setPart_len]at b;exact b) c
theorem dY.setProc{st:aQ}(h:dY st)(i n:Nat)(x:cQ)(a:i<st.parts.length)(c:qS (st.codeOf i n).length st.now x):dY (st.setProc i n x):=by
 refine h.setPart i _ a (h.watch i a) (fun k b=>?_);simp only[List.length_set]at b
 by_cases e:n=k
 ·subst e;have:((st.part i).procs.set n x).getD n default=x:=by simp[List.getD_eq_getElem?_getD,b]
  rw[this];exact c
 ·have:((st.part i).procs.set n x).getD k default=st.proc i k:=by
   simp only[List.getD_eq_getElem?_getD];rw[List.getElem?_set_ne e];unfold aQ.proc;rw[List.getD_eq_getElem?_getD]
  rw[this];exact h.proc i k a b
theorem dY.mode{st:aQ}(h:dY st)(i:Nat)(b:Int)(a:i<st.parts.length):dY (st.setPart i { st.part i with mode:=b }):=h.setPart i _ a (h.watch i a) (fun n c=>h.proc i n a c)
theorem dY.watched{st:aQ}(h:dY st)(i:Nat)(a:i<st.parts.length):dY (st.setPart i { st.part i with watch:=st.now }):=h.setPart i _ a ⟨h.now.1,Int.le_refl _⟩ (fun n b=>h.proc i n a b)
theorem dY.restart{st:aQ}(h:dY st)(c:eA st)(i:Nat)(d:Int)(b:i<st.parts.length):dY (st.restart i d):=by
 refine h.setPart i _ b ⟨h.now.1,Int.le_refl _⟩ (fun n a=>?_);simp only[gI,List.length_replicate]at a ⊢;have:(List.replicate (st.part i).procs.length dC).getD n default=dC:=by simp[List.getD_eq_getElem?_getD,a]
 rw[this];exact qS.nought _ _ (c.codeLen i n b a).1 h.now.1
theorem eA.restart{st:aQ}(a:eA st)(i:Nat)(b:Int):eA (st.restart i b):=by
 refine a.setPart i _ ?_ ?_
 ·simp only[gI];split<;>simp
 ·simp[gI]
theorem eA.resetOne{st:aQ}(a:eA st)(i:Nat):eA (gZ i st):=by
 unfold gZ;split
 ·exact a
 ·exact a.restart i 1
theorem dY.resetOne{st:aQ}(h:dY st)(a:eA st)(i:Nat)(b:i<st.parts.length):dY (gZ i st):=by
 unfold gZ;split
 ·exact h
 ·exact h.restart a i 1 b
theorem Ia(st:aQ):st.reset=eQ st (upto st.parts.length st.parts.length):=by
 rw[qO st st.parts.length rfl st.parts.length (Nat.le_refl _)];unfold aQ.reset;simp
theorem Ha{c:Nat}(a:List (Fin c)):∀st:aQ,dY st→eA st→c=st.parts.length→dY (eQ st a)∧eA (eQ st a):=by
 induction a with
 | nil=>intro st h b _;exact⟨h,b⟩
 | cons k a ih=>
  intro st h b d;exact ih (gZ k.1 st) (h.resetOne b k.1 (by rw[←d];exact k.2)) (b.resetOne k.1) (by rw[(qL k.1 st).2.1];exact d)
theorem dY.act{st:aQ}(h:dY st)(c:eA st)(i n:Nat)(a:Int)(b:i<st.parts.length)(f:n<(st.part i).procs.length):dY (st.act i n a):=by
 have d:=h.proc i n b f;have g:=c.codeLen i n b f;unfold aQ.act;split
 ·exact h.setProc i n _ b ⟨⟨d.next.1,d.next.2.1,.inl rfl⟩,d.til,d.dl⟩
 split
 ·exact h.setProc i n _ b (qS.nought _ _ g.1 h.now.1)
 split
 ·exact h.restart c i 2 b
 split
 ·exact h.restart c i 1 b
 split
 ·exact h.mode i 3 b
 split
 ·rw[Ia];exact(Ha _ st h c rfl).1
 ·exact h
theorem eA.act{st:aQ}(b:eA st)(i n:Nat)(a:Int):eA (st.act i n a):=by
 unfold aQ.act;split
 ·exact b.setPart i _ rfl (by simp)
 split
 ·exact b.setPart i _ rfl (by simp)
 split
 ·exact b.restart i 2
 split
 ·exact b.restart i 1
 split
 ·exact b.setPart i _ rfl rfl
 split
 ·refine⟨b.good,by simpa[aQ.reset]using b.len,fun c f=>?_,b.qlen⟩;have d:c<st.parts.length:=by simpa[aQ.reset]using f
  have:=b.part c d;have e:(st.reset.parts.getD c default)=if(st.part c).mode=3 then st.part c else gI 1 st.now (st.part c):=by
   unfold aQ.reset aQ.part;simp[List.getD_eq_getElem?_getD,d]
  rw[e];split
  ·exact this
  ·simp only[gI,if_true,List.length_replicate];exact this
 ·exact b
def cS(s:SF):Prop:=dY s.1∧eA s.1
theorem cS.fault{s:SF}(h:cS s)(i n code:Nat)(a:i<s.1.parts.length)(b:n<(s.1.part i).procs.length):cS (cK i n code s).2:=by
 unfold cK;split
 ·exact⟨h.1.act h.2 i n _ a b,h.2.act i n _⟩
 ·exact h
theorem eA.one{st:aQ}(a:eA st)(i:Nat)(b:i<st.parts.length):0<(st.part i).procs.length∧(st.part i).procs.length≤2:=by
 have c:=(a.good.parts (st.cf.parts.getD i default) (dB (by rw[←a.len];exact b))).few;have d:=(a.part i b).2;unfold aQ.part;omega
theorem cS.watch{s:SF}(h:cS s)(i:Nat)(a:i<s.1.parts.length):cS (cF i s).2:=by
 unfold cF;split
 ·exact h
 ·have b:cS (s.1.setPart i { s.1.part i with watch:=s.1.now },s.2):=⟨h.1.watched i a,h.2.setPart i _ rfl rfl⟩;refine b.fault i 0 5 ?_ ?_
  ·show i<(s.1.setPart i { s.1.part i with watch:=s.1.now }).parts.length
   rw[aQ.setPart_len];exact a
  ·show 0<((s.1.setPart i { s.1.part i with watch:=s.1.now }).part i).procs.length
   rw[aQ.part_set a];exact(h.2.one i a).1
theorem cS.late{s:SF}(h:cS s)(i n:Nat)(a:i<s.1.parts.length)(b:n<(s.1.part i).procs.length):cS (dT i n s).2:=by
 have c:=h.1.proc i n a b;unfold dT;split
 ·exact h
 ·have d:qS (s.1.codeOf i n).length s.1.now { s.1.proc i n with dl:=-1 }:=⟨c.next,c.til,Int.le_refl (-1),by have:=h.1.now;show(-1:Int)≤s.1.now+255;omega,show(-1:Int)≠0 by decide⟩;have f:cS (s.1.setProc i n { s.1.proc i n with dl:=-1 },s.2):=⟨h.1.setProc i n _ a d,h.2.setPart i _ rfl (by simp)⟩;refine f.fault i n 2 ?_ ?_
  ·show i<(s.1.setProc i n { s.1.proc i n with dl:=-1 }).parts.length
   rw[(eK s.1 i n _).2.1];exact a
  ·show n<((s.1.setProc i n { s.1.proc i n with dl:=-1 }).part i).procs.length
   rw[(eK s.1 i n _).2.2];exact b
theorem cS.loopL(f:Nat→SF→Bool×SF)(d:∀k s,Lk s.1 (f k s).2.1)(g:∀k s,cS s→k<s.1.parts.length→cS (f k s).2){c:Nat}(s:SF)(i:c=s.1.parts.length):∀ (b:List (Fin c)) (r:Bool×SF),cS r.2→Lk s.1 r.2.1→cS (b.foldl (fun r k=>eL r (f k.1)) r).2:=by
 intro b
 induction b with
 | nil=>intro r h _;exact h
 | cons a l ih=>
  intro r h k;have j:cS (eL r (f a.1)).2:=by
   unfold eL;split
   ·exact g a.1 r.2 h (by rw[k.len,←i];exact a.2)
   ·exact h
  have m:Lk s.1 (eL r (f a.1)).2.1:=jO (fun x=>Lk s.1 x.1) k (fun x n=>n.trans (d a.1 x));exact ih _ j m
section
open Go.RowKit
section
variable {F:Fence} {n:Nat} {P:Program} {ops:Array Oper} {C:World→Prop} {md:Region.Mode}
theorem xG{o:Oper}{a:Act}{K:Act→Prop}{j:Act→World→Prop}{k:Exit→Act→World→Prop}{w:World}(l:o.semAt F.round a.eval=execOp a.eval o)(d:C w)(h:∀a w',C w'→K a→j a w')
 (m:o.askedIn F P a C) (p:o.quietIn F n P a C K):o.wpIn F n P a w j k:=by
 obtain⟨v,q,g⟩:=p;have b:=q w d;unfold Oper.quietAtIn at b;unfold Oper.wpIn;refine⟨m w d,?_⟩;rw[l];generalize (execOp a.eval o).run P w=r at *;cases r with
 | ok x w'=>
  cases x<;>simp only[Oper.quietUponIn]at b<;>simp only[Oper.uponIn]
  case value u=>
   obtain⟨c,i⟩:=b;rw[c,i];exact h _ _ d g
  case skip=>
   obtain⟨c,i⟩:=b;rw[c,←i];exact h _ _ d g
  case enter f args=>
   obtain⟨c,s,y⟩:=b;rw[c];exact⟨s,y.mono fun e B ⟨z,A⟩=>by subst z;exact h _ _ A g⟩
 | halt x w'=>simp only[Oper.quietUponIn]at b
theorem Ab(o:Oper)(ρ:Operand→Value)(h:∀c,o.op≠.defer c):o.semAt F.round ρ=execOp ρ o:=by
 cases F.round with
 | none=>simp[Oper.semAt]
 | some l=>exact Oper.semAt_some l _ _ h
theorem Dk{i:Nat}{a:Act}{K:Act→Prop}{j:Act→World→Prop}{l:Exit→Act→World→Prop}{w:World}(m:∀ (i:Nat) (o:Oper),ops[i]?=some o→∀c,o.op≠.defer c)(d:C w)(h:∀a w',C w'→K a→j a w')
 (b:qOpIn F n P ops C i K a):wpOpIn F n P ops l i j a w:=by
 unfold qOpIn at b;unfold wpOpIn;split
 ·rename_i f;simp only[f]at b;exact h _ _ d b
 ·rename_i o f
  simp only[f]at b;obtain⟨k,b⟩:=b;split
  ·rename_i g;simp only[g,if_true]at b;exact xG (Ab o a.eval (m i o f)) d h k b
  ·rename_i g;simp only[g]at b;exact⟨k w d,h _ _ d b⟩
theorem nX{Q:Act→Prop}{f:Exit→Act→World→Prop}(g:∀ (i:Nat) (o:Oper),ops[i]?=some o→∀c,o.op≠.defer c)(d:∀a w,C w→Q a→f .normal a w):∀ (b:Nat) (j:Array Bool) (a:Act) (w:World),C w→
 wpAnyQIn F n P md ops C Q b j a→wpAnyIn F n P md ops f b j a w
 | 0,_,_,_,hw,h=>⟨h.1,d _ _ hw h.2⟩
 | b+1,_,_,_,hw,h=>⟨fun k=>d _ _ hw (h.1 k),fun i l=>Dk g hw (fun m w' p=>nX g d b _ m w' p) (h.2 i l)⟩
def wK(l:List Oper):Bool:=l.all fun o=>match o.op with| .defer _=>false| _=>true
theorem oT{l:List Oper}(h:wK l=true)(i:Nat)(o:Oper)(b:l.toArray[i]?=some o)(c:Call):o.op≠.defer c:=by
 intro e;have a:=List.all_eq_true.1 h o (List.mem_of_getElem? (by simpa using b));rw[e]at a;simp at a
theorem fE{id:Nat}{Q:Exit→Act→World→Prop}{a:Act}{w:World}{l:List Oper}(d:wK l=true)(f:P.follows .mixedOrders=true)(b:Region.lexB .any l.toArray=true)
 (h:wpQuietIn F n P l.toArray (fun w'=>∃n,w'=w.drewN n) (fun c=>∀w',(∃n,w'=w.drewN n)→Q .normal c w') l a):(Code.region id l.toArray true).wpIn F n P Q a w:=by
 simp only[Region.lexB,Bool.and_eq_true]at b;refine wpIn_region_any f (nX (Q:=fun c=>∀w',(∃n,w'=w.drewN n)→Q .normal c w') (C:=fun w'=>∃n,w'=w.drewN n) (oT d) (fun _ w' g h=>h w' g) _ _ _ _ ⟨1,rfl⟩ ?_);have:=wpAnyQIn_lex (F:=F) (n:=n) (C:=fun w'=>∃n,w'=w.drewN n) (md:=.any) b.1 l 0 (Array.replicate l.toArray.size false) a (by simp) (by simpa using b.2) h
 simpa using this
end
end
end Go.Proofs.YtnjlbgolnbdkaaaGreat
