/- All, with short names -/
import Derived.Test.YtnjlbgolnbdkaaaGreatP23
import Derived.Test.YtnjlbgolnbdkaaaGreatP12
import Derived.Test.YtnjlbgolnbdkaaaGreatP08
import Derived.Deep.RegionHeld3
import Derived.Test.YtnjlbgolnbdkaaaGreatP13
import Derived.Test.YtnjlbgolnbdkaaaGreatP31
set_option maxRecDepth 100000
set_option maxHeartbeats 16000000
namespace Go.Proofs.YtnjlbgolnbdkaaaGreat
open Go Go.RowKit
section
open Go.RowKit
attribute [-go_sem] Builtin.append_
theorem Tryz.size43r:(Tryz.prog.info? 43).map (·.size)=some 4:=by kernel_rfl
theorem rQ{w w':World}{b:Nat}(h:w'.heap[b]?=w.heap[b]?)(o:Nat):w'.cell? ⟨b,o,none⟩=w.cell? ⟨b,o,none⟩:=World.cell?_of_block h
theorem wV{w:World}{b:Nat}{z0 z1 z2 z3 a c d f:Value}{t:TypeId}(h:w.heap[b]?=some (.cells #[z0,z1,z2,z3] t (0,0))):((((w.setCell ⟨b,0,none⟩ a).setCell ⟨b,1,none⟩ c).setCell ⟨b,2,none⟩ d).setCell ⟨b,3,none⟩ f).heap[b]?=some (.cells #[a,c,d,f] t (0,0)):=aK (aK (aK (aK h 0 a) 1 c) 2 d) 3 f
theorem Tryz.info47r:(Tryz.prog.info? 47).map (fun i=>(i.zero,i.size,i.bytes))=some (some (.agg #[.int .i64 0,.int .i64 0,.bool false]),3,24):=by kernel_rfl
def lQ(p:cQ):List Value:=[.int .i64 p.next,.int .i64 p.acc,.bool p.stopped]
theorem Kf(kb g Y f6 i:Nat)(b1:Nat)(mo b2:Int)(u:Option Addr)(nw x qb np C:Nat)(y:List cQ)(bs:List Int)(left res:Int)(dead:Bool)(done:Int)(w:World)(Q:i<b1)(f7:i<4)(j1:np≤2)(d3:y.length=np)(d4:aS w g bs left res dead done)
 (d5:w.cell? ⟨kb,5,none⟩=some (.pointer (some ⟨g,0,none⟩))) (j2:w.cell? ⟨kb,6,none⟩=some (.slice (some ⟨Y,0,none⟩) b1 f6))
 (f8:w.cell? ⟨Y,i*4,none⟩=some (.int .i64 mo)) (r1:w.cell? ⟨Y,i*4+1,none⟩=some (.slice u nw x)) (j3:w.cell? ⟨Y,i*4+2,none⟩=some (.slice (some ⟨qb,0,none⟩) np C)) (j4:w.cell? ⟨Y,i*4+3,none⟩=some (.int .i64 b2))
 (a1:∀k p,y[k]?=some p→w.cell? ⟨qb,k*5,none⟩=some (.int .i64 p.next)∧w.cell? ⟨qb,k*5+1,none⟩=some (.int .i64 p.acc)∧w.cell? ⟨qb,k*5+4,none⟩=some (.bool p.stopped)):
 Calls Tryz.prog 99 #[.pointer (some ⟨kb,0,none⟩),.int .i64 i] w fun e w'=>∃v,e=.returned (.tuple #[.agg #[.int .i64 mo,.int .i64 (aX bs i),.slice u nw x,v],.int .i64 0])∧w'.ownsRow w.heap.size 47 3 v np (y.flatMap lQ)∧Below w.heap.size w w':=by
 obtain⟨f9,g0,g1,g2,g3⟩:=info_parts Tryz.info47r;have g4:=aN d5;have j5:=aN f8;obtain⟨j,Z⟩:∃j,j=w.heap.size+1:=⟨_,rfl⟩;obtain⟨s,R⟩:∃s,s=(w.alloc (.cells #[.int .i64 0,.int .i64 0,.slice none 0 0,.slice none 0 0] 43)).alloc (.cells #[.int .i64 mo,.slice u nw x,.slice (some ⟨qb,0,none⟩) np C,.int .i64 b2] 198):=⟨_,rfl⟩;have a2:s.heap.size=w.heap.size+2:=by rw[R];simp
 have b3:Below w.heap.size w s:=by rw[R];exact(aG _ _).alloc (by simp) _
 have d6:s.heap[w.heap.size]?=some (.cells #[.int .i64 0,.int .i64 0,.slice none 0 0,.slice none 0 0] 43 (0,0)):=by rw[R,Below.heap_alloc _ _ _ (by simp)];exact cG rfl
 have b4:s.heap[j]?=some (.cells #[.int .i64 mo,.slice u nw x,.slice (some ⟨qb,0,none⟩) np C,.int .i64 b2] 198 (0,0)):=by rw[R];exact cG (by simp[Z])
 obtain⟨P,M⟩:∃P:World→Prop,P=fun W=>Below s.heap.size s W:=⟨_,rfl⟩
 have b5:Hid (P s):=by show P s;rw[M];exact Below.refl _ _
 have a3:Hid (∀W,P W→Below s.heap.size s W):=fun W h=>by rw[M]at h;exact h
 have g5:Hid (∀W b6,P W→Below W.heap.size W b6→P b6):=fun W b6 h z=>by rw[M]at h ⊢;exact h.trans (z.mono h.size)
 have b7:Hid (∀W,P W→P W.drew):=fun W h=>by rw[M]at h ⊢;exact h.drew
 have b8:Hid (∀W o,P W→P (W.alloc o)):=fun W o h=>by rw[M]at h ⊢;exact h.alloc h.size _
 have d7:Hid (∀W b o v,s.heap.size≤b→P W→P (W.setCell ⟨b,o,none⟩ v)):=fun W b o v z h=>by rw[M]at h ⊢;exact h.setCell (p:=⟨b,o,none⟩) z v
 have b9:Hid (∀W,P W→Below w.heap.size w W):=fun W N=>b3.trans ((a3.out W N).mono (by omega))
 have d8:Hid (∀W,P W→W.cell? ⟨j,0,none⟩=some (.int .i64 mo)∧W.cell? ⟨j,1,none⟩=some (.slice u nw x)∧W.cell? ⟨kb,5,none⟩=some (.pointer (some ⟨g,0,none⟩))):=fun W N=>by
  have a:=eT (a3.out W N) b4;exact⟨aD a,aD a,((b9.out W N).cell (p:=⟨kb,5,none⟩) g4).trans d5⟩
 have g6:Hid (∀W,P W→Calls Tryz.prog 140 #[.pointer (some ⟨g,0,none⟩),.int .i64 i] W fun e w'=>e=.returned (.int .i64 (aX bs i))∧Below W.heap.size W w'∧P w'):=fun W N=>(nQ g bs left res dead done i W f7 (d4.below (b9.out W N))).mono (fun e w' ⟨g7,z⟩=>⟨g7,z,g5.out W w' N z⟩)
 have g8:=aI R;have g9:=aI b4;have h0:=aI d6;have j6:=aI b3;have h1:=aI a2;have d9:=aI Z;have e0:=aI a1;have e1:=aI d3;clear R b4 d6 b3 Z a1 d3 M d4 a2;have j7:(decide ((i:Int)<0))=false:=by simp
 have j8:(decide (b1≤i))=false:=by simp;omega
 generalize aX bs i=rs at *;obtain⟨h2,h3,h4⟩:=d8.out _ b5.out
 go_enter Tryz.func99,Tryz.ntmps99
 go_wp2_with fail
 rw[←g8.out,←d9.out]
 go_cut [7]from 28 to 38 (fun h5 e2=>∃f,h5=.pointer (some ⟨f,0,none⟩)∧s.heap.size≤f∧e2.heap[f]?=some (.cells #[.int .i64 mo,.int .i64 rs,.slice u nw x,.slice none 0 0] 43 (0,0))∧P e2)
 case first=>
  go_region_held3 (fun w'=>w'.cell? ⟨j,0,none⟩=some (.int .i64 mo)∧w'.cell? ⟨j,1,none⟩=some (.slice u nw x)∧w'.cell? ⟨kb,5,none⟩=some (.pointer (some ⟨g,0,none⟩)))
   ((refine d8.out _ ?_;repeat (first| exact b5.out| assumption| refine b7.out _ ?_| refine b8.out _ _ ?_| refine d7.out _ _ _ _ (by first| omega| (simp;omega)) ?_)))
   ((go_at_call 140;refine(g6.out _ (by repeat (first| exact b5.out| assumption| refine b7.out _ ?_| refine b8.out _ _ ?_))).mono ?_;rintro e e3 ⟨rfl,z,a1⟩;have j9:=fun p h=>z.cell (p:=p) h;have k0:=fun p h=>z.frozen (p:=p) h;have c0:=z.size;(try rw[World.size_drew]at c0);(try rw[World.size_alloc]at c0);(try rw[World.size_drew]at c0);(try have k1:s.heap.size<e3.heap.size:=(by omega))))
  all_goals
   go_wp2_with fail
   go_meet
   refine⟨_,rfl,?_,?_,?_⟩
   ·first| omega| (simp;omega)| (have:=(a3.out _ a1).size;omega)
   ·first| (with_reducible exact cG rfl)| ((with_reducible refine wV (z0:=.int .i64 0) (z1:=.int .i64 0) (z2:=.slice none 0 0) (z3:=.slice none 0 0) ?_);exact eT z (cG (by simp)))
   ·repeat (first| (with_reducible refine b8.out _ _ ?_)| (with_reducible refine b7.out _ ?_)| (with_reducible refine d7.out _ _ _ _ (by first| omega| (simp;omega)) ?_)| (with_reducible assumption))
 case rest=>
  obtain⟨f,rfl,k2,c1,c2⟩:=hcut;have c3:=b9.out _ c2;have a4:=a3.out _ c2;have a2:=h1.out;have c4:=eT a4 g9.out;have c5:=eT a4 h0.out;have Z:=d9.out;have k3:=aR c1;have h6:=aI c1;have h7:=aI c4;have h8:=aI c5;have h9:=aI c3;have i0:Hid (∀k p,y[k]?=some p→qb<w.heap.size∧wc.cell? ⟨qb,k*5,none⟩=some (.int .i64 p.next)∧wc.cell? ⟨qb,k*5+1,none⟩=some (.int .i64 p.acc)∧wc.cell? ⟨qb,k*5+4,none⟩=some (.bool p.stopped)):=fun k p a5=>by
   obtain⟨a6,c6,c7⟩:=e0.out k p a5;have e4:=aN a6;have c8:=c3.block qb e4;exact⟨e4,(rQ c8 _).trans a6,(rQ c8 _).trans c6,(rQ c8 _).trans c7⟩
  have i1:Hid (j<wc.heap.size∧w.heap.size<wc.heap.size∧w.heap.size≤j∧w.heap.size<f∧j<f∧s.heap.size≤wc.heap.size):=⟨aR c4,aR c5,by omega,by omega,by omega,a4.size⟩;clear c1 c2 c3 a4 c4 c5 Z a2 h2 h3 h4 e0;go_wp2_with fail
  go_loopw [8] (fun t wr=>∃ (k:Nat) (v:Value),k≤np∧t=.int .i64 k∧wr.heap[f]?=some (.cells #[.int .i64 mo,.int .i64 rs,.slice u nw x,v] 43 (0,0))∧wr.ownsRow wc.heap.size 47 3 v k ((y.take k).flatMap lQ)∧aH (fun b=>b=f∨wc.heap.size≤b) wc wr) (fun t _=>np-(intOf t).toNat)
  case atStart=>exact⟨0,_,by omega,rfl,h6.out,World.ownsRow_nil _ _ _ _,aH.refl _ _⟩
  case round=>
   obtain⟨k,v,a5,rfl,H,D,I⟩:=hrel;obtain⟨ad,c,rfl⟩:=bL D;have c9:=I.size;obtain⟨e5,i2,k4,k5,k6,k7⟩:=i1.out;have d0:=(I.block j e5 (by omega)).trans h7.out;have e6:wr.cell? ⟨j,2,none⟩=some (.slice (some ⟨qb,0,none⟩) np C):=aD d0
   by_cases i3:k<np
   ·obtain⟨p,d1⟩:∃p,y[k]?=some p:=⟨y[k]'(by rw[e1.out];exact i3),List.getElem?_eq_getElem _⟩;obtain⟨k8,p0,p1,e7⟩:=i0.out k p d1;have a7:=I.block qb (by omega) (by omega);have e8:=(rQ a7 _).trans p0;have e9:=(rQ a7 _).trans p1;have f0:=(rQ a7 _).trans e7;have i4:wr.cell? ⟨f,3,none⟩=some (.slice ad k c):=aD H;have i5:Hid ((y.take (k+1)).flatMap lQ=(y.take k).flatMap lQ++[.int .i64 p.next,.int .i64 p.acc,.bool p.stopped]):=by show _=_;rw[List.take_add_one,d1,List.flatMap_append];rfl
    generalize p.next=E at *;generalize p.acc=F at *;generalize p.stopped=G at *;have f1:wr.drew.ownsRow wc.heap.size 47 3 (.slice ad k c) k ((y.take k).flatMap lQ):=D;obtain⟨k9,J,f2,a0,U,_⟩:=run_append_own (P:=Tryz.prog) (wr.drew.alloc (.cells #[.int .i64 E,.int .i64 F,.bool G] 47)) wc.heap.size 41 41 47 f9 _ 3 24 Tryz.underlying41 g0 g1 g2 g3 rfl (by decide) (.slice ad k c) k _ (f1.alloc _) ⟨wr.heap.size,0,none⟩ 1 1 [.int .i64 E,.int .i64 F,.bool G] rfl (by have:=dA wr.drew #[.int .i64 E,.int .i64 F,.bool G] 47;simpa using this) (by intro e3 f3;simp at f3;rcases f3 with rfl| rfl| rfl<;>rfl) (by unfold maxLen;omega) (by omega) (Nat.le_trans c9 (by simp));obtain⟨V,X,rfl⟩:=ownsRow_succ a0;have l0:(Builtin.append_ #[41,41] 41 #[.slice ad k c,.slice (some ⟨wr.heap.size,0,none⟩) 1 1]).run Tryz.prog (wr.alloc (.cells #[.int .i64 E,.int .i64 F,.bool G] 47)).drew=_:=f2;have a8:wr.grownBy J (Value.slice ad k c).ownBlock:=aZ (o:=.cells #[.int .i64 E,.int .i64 F,.bool G] 47) ⟨U.os,U.tape,U.output,U.size,U.block⟩;have i6:=a8.size;have d2:∀b,(Value.slice ad k c).ownBlock=some b→wc.heap.size≤b:=fun b e=>(World.ownsRow.lt D b e).1
    have same:∀b,b<wc.heap.size→J.heap[b]?=wr.heap[b]?:=fun b z=>a8.block b (by omega) (fun e=>by have:=d2 b e.symm;omega)
    have a9:=(same f (by omega)).trans H;have l1:J.cell? ⟨f,3,none⟩=some (.slice ad k c):=aD a9;have f4:=aJ a9 3;have l2:=(rQ (same qb (by omega)) _).trans e8;have l3:=(rQ (same qb (by omega)) _).trans e9;have l4:=(rQ (same qb (by omega)) _).trans f0;have l5:=(rQ (same j e5) _).trans e6;have L:Hid ((J.setCell ⟨f,3,none⟩ (.slice (some ⟨V,0,none⟩) (k+1) X)).heap[f]?=some (.cells #[.int .i64 mo,.int .i64 rs,.slice u nw x,.slice (some ⟨V,0,none⟩) (k+1) X] 43 (0,0))∧(J.setCell ⟨f,3,none⟩ (.slice (some ⟨V,0,none⟩) (k+1) X)).ownsRow wc.heap.size 47 3 (.slice (some ⟨V,0,none⟩) (k+1) X) (k+1) ((y.take (k+1)).flatMap lQ)∧aH (fun b=>b=f∨wc.heap.size≤b) wc (J.setCell ⟨f,3,none⟩ (.slice (some ⟨V,0,none⟩) (k+1) X))):=by
     have f5:aH (·=f) J (J.setCell ⟨f,3,none⟩ (.slice (some ⟨V,0,none⟩) (k+1) X)):=aH.ofSet _ _ _ _ rfl;refine⟨aK a9 3 _,?_,aH.trans (T:=(·=f)) (aH.trans I (aH.ofGrown (S:=fun b=>wc.heap.size≤b) a8 (fun b e=>.inl (d2 b e))) (fun i Q=>.inl (.inr Q))) f5 (fun i Q=>.inl (.inl Q))⟩;rw[i5.out];exact aO a0 (fun b e=>f5.block b (World.ownsRow.lt a0 b e).2 (by have:=(World.ownsRow.lt a0 b e).1;omega))
    have l6:Hid (∀W:World,(W.cell? ⟨j,2,none⟩=wr.cell? ⟨j,2,none⟩∧W.cell? ⟨qb,k*5,none⟩=wr.cell? ⟨qb,k*5,none⟩∧W.cell? ⟨qb,k*5+1,none⟩=wr.cell? ⟨qb,k*5+1,none⟩∧W.cell? ⟨qb,k*5+4,none⟩=wr.cell? ⟨qb,k*5+4,none⟩)→W.cell? ⟨j,2,none⟩=some (.slice (some ⟨qb,0,none⟩) np C)∧W.cell? ⟨qb,k*5,none⟩=some (.int .i64 E)∧W.cell? ⟨qb,k*5+1,none⟩=some (.int .i64 F)∧W.cell? ⟨qb,k*5+4,none⟩=some (.bool G)):=fun W ⟨a6,c6,c7,i7⟩=>⟨a6.trans e6,c6.trans e8,c7.trans e9,i7.trans f0⟩
    have l7:¬j=f:=by omega
    have l8:¬qb=f:=by omega
    have l9:j<wr.heap.size:=by omega
    have m0:qb<wr.heap.size:=by omega
    have m1:f<wr.heap.size:=by omega
    clear D f1 f2 a0 U a8 d2 same a9 H d0 p0 p1 e7 a7 I d1 c9 i6;go_wp2_with fail
    refine wp_region_held_drew (S:=(fun w':World=>w'.cell? ⟨j,2,none⟩=some (.slice (some ⟨qb,0,none⟩) np C)∧w'.cell? ⟨qb,k*5,none⟩=some (.int .i64 E)∧w'.cell? ⟨qb,k*5+1,none⟩=some (.int .i64 F)∧w'.cell? ⟨qb,k*5+4,none⟩=some (.bool G))) (by kernel_rfl) (by go_simp) (fun A=>?_);refine wpAnyH_take (i:=0) (v:=.pointer (some ⟨f,3,none⟩)) rfl (by kernel_rfl) (by kernel_rfl) (by kernel_rfl) (fun _ _ _ h=>h) (Or.inl ⟨by rfl,fun w d=>by obtain⟨l,m,n,q⟩:=d;go_simp⟩) (by assumption) ?_
    go_simp
    refine wpAnyH_take (i:=2) (v:=.pointer (some ⟨j,2,none⟩)) rfl (by kernel_rfl) (by kernel_rfl) (by kernel_rfl) (fun _ _ _ h=>h) (Or.inl ⟨by rfl,fun w d=>by obtain⟨l,m,n,q⟩:=d;go_simp⟩) (by assumption) ?_
    go_simp
    refine wpAnyH_take (i:=3) (v:=.slice (some ⟨qb,0,none⟩) np C) rfl (by kernel_rfl) (by kernel_rfl) (by kernel_rfl) (fun _ _ _ h=>h) (Or.inl ⟨by rfl,fun w d=>by obtain⟨l,m,n,q⟩:=d;go_simp⟩) (by assumption) ?_
    go_simp
    refine wpAnyH_take (i:=4) (v:=.int .i64 k) rfl (by kernel_rfl) (by kernel_rfl) (by kernel_rfl) (fun _ _ _ h=>h) (Or.inl ⟨by rfl,fun w d=>by obtain⟨l,m,n,q⟩:=d;go_simp⟩) (by assumption) ?_
    go_simp
    refine wpAnyH_take (i:=5) (v:=.pointer (some ⟨qb,k*5,none⟩)) rfl (by kernel_rfl) (by kernel_rfl) (by kernel_rfl) (fun _ _ _ h=>h) (Or.inl ⟨by rfl,fun w d=>by obtain⟨l,m,n,q⟩:=d;go_simp⟩) (by assumption) ?_
    go_simp
    refine wpAnyH_take (i:=6) (v:=.pointer (some ⟨qb,k*5,none⟩)) rfl (by kernel_rfl) (by kernel_rfl) (by kernel_rfl) (fun _ _ _ h=>h) (Or.inl ⟨by rfl,fun w d=>by obtain⟨l,m,n,q⟩:=d;go_simp⟩) (by assumption) ?_
    go_simp
    refine wpAnyH_take (i:=7) (v:=.int .i64 E) rfl (by kernel_rfl) (by kernel_rfl) (by kernel_rfl) (fun _ _ _ h=>h) (Or.inl ⟨by rfl,fun w d=>by obtain⟨l,m,n,q⟩:=d;go_simp⟩) (by assumption) ?_
    go_simp
    refine wpAnyH_take (i:=8) (v:=.pointer (some ⟨j,2,none⟩)) rfl (by kernel_rfl) (by kernel_rfl) (by kernel_rfl) (fun _ _ _ h=>h) (Or.inl ⟨by rfl,fun w d=>by obtain⟨l,m,n,q⟩:=d;go_simp⟩) (by assumption) ?_
    go_simp
    refine wpAnyH_take (i:=9) (v:=.slice (some ⟨qb,0,none⟩) np C) rfl (by kernel_rfl) (by kernel_rfl) (by kernel_rfl) (fun _ _ _ h=>h) (Or.inl ⟨by rfl,fun w d=>by obtain⟨l,m,n,q⟩:=d;go_simp⟩) (by assumption) ?_
    go_simp
    refine wpAnyH_take (i:=10) (v:=.int .i64 k) rfl (by kernel_rfl) (by kernel_rfl) (by kernel_rfl) (fun _ _ _ h=>h) (Or.inl ⟨by rfl,fun w d=>by obtain⟨l,m,n,q⟩:=d;go_simp⟩) (by assumption) ?_
    go_simp
    refine wpAnyH_take (i:=11) (v:=.pointer (some ⟨qb,k*5,none⟩)) rfl (by kernel_rfl) (by kernel_rfl) (by kernel_rfl) (fun _ _ _ h=>h) (Or.inl ⟨by rfl,fun w d=>by obtain⟨l,m,n,q⟩:=d;go_simp⟩) (by assumption) ?_
    go_simp
    refine wpAnyH_take (i:=12) (v:=.pointer (some ⟨qb,k*5+1,none⟩)) rfl (by kernel_rfl) (by kernel_rfl) (by kernel_rfl) (fun _ _ _ h=>h) (Or.inl ⟨by rfl,fun w d=>by obtain⟨l,m,n,q⟩:=d;go_simp⟩) (by assumption) ?_
    go_simp
    refine wpAnyH_take (i:=13) (v:=.int .i64 F) rfl (by kernel_rfl) (by kernel_rfl) (by kernel_rfl) (fun _ _ _ h=>h) (Or.inl ⟨by rfl,fun w d=>by obtain⟨l,m,n,q⟩:=d;go_simp⟩) (by assumption) ?_
    go_simp
    refine wpAnyH_take (i:=14) (v:=.pointer (some ⟨j,2,none⟩)) rfl (by kernel_rfl) (by kernel_rfl) (by kernel_rfl) (fun _ _ _ h=>h) (Or.inl ⟨by rfl,fun w d=>by obtain⟨l,m,n,q⟩:=d;go_simp⟩) (by assumption) ?_
    go_simp
    refine wpAnyH_take (i:=15) (v:=.slice (some ⟨qb,0,none⟩) np C) rfl (by kernel_rfl) (by kernel_rfl) (by kernel_rfl) (fun _ _ _ h=>h) (Or.inl ⟨by rfl,fun w d=>by obtain⟨l,m,n,q⟩:=d;go_simp⟩) (by assumption) ?_
    go_simp
    refine wpAnyH_take (i:=16) (v:=.int .i64 k) rfl (by kernel_rfl) (by kernel_rfl) (by kernel_rfl) (fun _ _ _ h=>h) (Or.inl ⟨by rfl,fun w d=>by obtain⟨l,m,n,q⟩:=d;go_simp⟩) (by assumption) ?_
    go_simp
    refine wpAnyH_take (i:=17) (v:=.pointer (some ⟨qb,k*5,none⟩)) rfl (by kernel_rfl) (by kernel_rfl) (by kernel_rfl) (fun _ _ _ h=>h) (Or.inl ⟨by rfl,fun w d=>by obtain⟨l,m,n,q⟩:=d;go_simp⟩) (by assumption) ?_
    go_simp
    refine wpAnyH_take (i:=18) (v:=.pointer (some ⟨qb,k*5+4,none⟩)) rfl (by kernel_rfl) (by kernel_rfl) (by kernel_rfl) (fun _ _ _ h=>h) (Or.inl ⟨by rfl,fun w d=>by obtain⟨l,m,n,q⟩:=d;go_simp⟩) (by assumption) ?_
    go_simp
    refine wpAnyH_take (i:=19) (v:=.bool G) rfl (by kernel_rfl) (by kernel_rfl) (by kernel_rfl) (fun _ _ _ h=>h) (Or.inl ⟨by rfl,fun w d=>by obtain⟨l,m,n,q⟩:=d;go_simp⟩) (by assumption) ?_
    go_simp
    refine wpAnyH_take (i:=20) (v:=.agg #[.int .i64 E,.int .i64 F,.bool G]) rfl (by kernel_rfl) (by kernel_rfl) (by kernel_rfl) (fun _ _ _ h=>h) (Or.inl ⟨by rfl,fun w d=>by obtain⟨l,m,n,q⟩:=d;go_simp⟩) (by assumption) ?_
    go_simp
    refine wpAnyH_ready (rs:=[1,21]) (by kernel_rfl) (by simp) ?_;refine AllReadyH.cons rfl (fun K r=>?_) (AllReadyH.cons rfl (fun K r=>?_) AllReadyH.nil)
    ·go_simp
     refine r.out _ _ (by go_simp) (fun A=>?_);refine wpAnyH_ready (rs:=[21]) (by kernel_rfl) (by simp) ?_;refine AllReadyH.cons rfl (fun K r=>?_) AllReadyH.nil
     go_simp
     refine r.out _ _ (by go_simp) (fun A=>?_);refine wpAnyH_ready (rs:=[22]) (by kernel_rfl) (by simp) ?_;refine AllReadyH.cons rfl (fun K r=>?_) AllReadyH.nil
     go_simp
     refine r.out _ _ (by go_simp) (fun A=>?_);refine wpAnyH_ready (rs:=[23]) (by kernel_rfl) (by simp) ?_;refine AllReadyH.cons rfl (fun K r=>?_) AllReadyH.nil
     go_simp
     refine r.out _ _ (by go_simp) (fun A=>?_);refine wpAnyH_ready (rs:=[24]) (by kernel_rfl) (by simp) ?_;refine AllReadyH.cons rfl (fun K r=>?_) AllReadyH.nil
     go_simp
     refine r.out _ _ (by go_simp) (fun A=>?_);refine wpAnyH_done (by kernel_rfl) ?_ _;go_wp2
     exact⟨⟨k+1,_,by omega,by go_num,L.out.1,L.out.2.1,L.out.2.2⟩,by simp[intOf];omega⟩
    ·go_simp
     refine r.out _ _ (by go_simp) (fun A=>?_);refine wpAnyH_ready (rs:=[1]) (by kernel_rfl) (by simp) ?_;refine AllReadyH.cons rfl (fun K r=>?_) AllReadyH.nil
     go_simp
     refine r.out _ _ (by go_simp) (fun A=>?_);refine wpAnyH_ready (rs:=[22]) (by kernel_rfl) (by simp) ?_;refine AllReadyH.cons rfl (fun K r=>?_) AllReadyH.nil
     go_simp
     refine r.out _ _ (by go_simp) (fun A=>?_);refine wpAnyH_ready (rs:=[23]) (by kernel_rfl) (by simp) ?_;refine AllReadyH.cons rfl (fun K r=>?_) AllReadyH.nil
     go_simp
     refine r.out _ _ (by go_simp) (fun A=>?_);refine wpAnyH_ready (rs:=[24]) (by kernel_rfl) (by simp) ?_;refine AllReadyH.cons rfl (fun K r=>?_) AllReadyH.nil
     go_simp
     refine r.out _ _ (by go_simp) (fun A=>?_);refine wpAnyH_done (by kernel_rfl) ?_ _;go_wp2
     exact⟨⟨k+1,_,by omega,by go_num,L.out.1,L.out.2.1,L.out.2.2⟩,by simp[intOf];omega⟩
   ·obtain rfl:k=np:=by omega
    have B:=(I.block w.heap.size i2 (by omega)).trans h8.out;have m2:wr.cell? ⟨f,0,none⟩=some (.int .i64 mo):=aD H;have m3:wr.cell? ⟨f,1,none⟩=some (.int .i64 rs):=aD H;have m4:wr.cell? ⟨f,2,none⟩=some (.slice u nw x):=aD H;have i4:wr.cell? ⟨f,3,none⟩=some (.slice ad k c):=aD H;have z0:wr.cell? ⟨w.heap.size,0,none⟩=some (.int .i64 0):=aD B;have z1:wr.cell? ⟨w.heap.size,1,none⟩=some (.int .i64 0):=aD B;have z2:wr.cell? ⟨w.heap.size,2,none⟩=some (.slice none 0 0):=aD B;have z3:wr.cell? ⟨w.heap.size,3,none⟩=some (.slice none 0 0):=aD B;have m5:=aJ B 0;have m6:=aJ B 1;have m7:=aJ B 2;have m8:=aJ B 3;obtain⟨O,b0⟩:∃O,O=(((wr.setCell ⟨w.heap.size,0,none⟩ (.int .i64 mo)).setCell ⟨w.heap.size,1,none⟩ (.int .i64 rs)).setCell ⟨w.heap.size,2,none⟩ (.slice u nw x)).setCell ⟨w.heap.size,3,none⟩ (.slice ad k c):=⟨_,rfl⟩;have i8:Hid (O.heap[w.heap.size]?=some (.cells #[.int .i64 mo,.int .i64 rs,.slice u nw x,.slice ad k c] 43 (0,0))):=by show _=_;rw[b0];exact wV B
    have L:Hid (O.ownsRow w.heap.size 47 3 (.slice ad k c) k (y.flatMap lQ)∧Below w.heap.size w O):=by
     have t:aH (·=w.heap.size) wr O:=by
      rw[b0]
      iterate 4 refine aH.thenSet ?_ _ _ rfl
      exact aH.refl _ _
     rw[List.take_of_length_le (by rw[e1.out];omega)]at D;refine⟨bI (aO D (fun b e=>t.block b (World.ownsRow.lt D b e).2 (by have:=(World.ownsRow.lt D b e).1;omega))) (by omega),?_⟩;have i9:aH (fun b=>w.heap.size≤b) w O:=aH.trans (aH.trans (aH.ofBelow (S:=fun b=>w.heap.size≤b) h9.out) I (fun i Q=>.inl (by omega))) t (fun i Q=>.inl (by omega));exact i9.below (Nat.le_refl _) (fun k a5=>a5)
    have j0:=aI b0;clear H D I d0 B b0 c9;go_wp2
    rw[←j0.out];refine bodyPost_ret (v:=.tuple #[.agg #[.int .i64 mo,.int .i64 rs,.slice u nw x,.slice ad k c],.int .i64 0]) (kL Tryz.results99 _ _ _ (by rfl) i8.out Tryz.underlying43 (by rw[Tryz.size43r];rfl)) rfl ?_;exact⟨_,rfl,L.out⟩
end
theorem Tu:lQ=cU:=rfl
theorem Hs(c:eZ)(Q:Nat→Value)(g:Nat)(st:aQ)(F:Fl)(i:Nat)(w:World)(h:Ro w c Q g st F)(a:i<st.parts.length):
 Calls Tryz.prog 99 #[.pointer (some ⟨c.kb,0,none⟩),.int .i64 i] w fun e w'=>∃f j v,e=.returned (.tuple #[.agg #[.int .i64 (st.parts.getD i default).mode,.int .i64 (aX F.bs i),.slice f (st.parts.getD i default).words.length j,v],.int .i64 0])∧Fp 0 (.slice f (st.parts.getD i default).words.length j) (st.parts.getD i default).words w'∧w'.ownsRow w.heap.size 47 3 v (st.parts.getD i default).procs.length ((st.parts.getD i default).procs.flatMap cU)∧Below w.heap.size w w':=by
 have l:=h.ref.kAt 5;have m:=h.ref.kAt 6;simp only[cE,List.getElem?_toArray,List.getElem?_cons_succ,List.getElem?_cons_zero]at l m;have n:=h.ref.rAt i 0 a (by omega);have r1:=h.ref.rAt i 1 a (by omega);have o:=h.ref.rAt i 2 a (by omega);have q:=h.ref.rAt i 3 a (by omega);simp only[kK,List.getElem?_cons_succ,List.getElem?_cons_zero,Nat.add_zero]at n r1 o q;have x:=h.ok.procsLen i a;have z:=h.capR;refine(Kf c.kb g c.rp c.rc i st.parts.length _ _ _ _ (c.wc i) (c.pr i) _ (c.pc i) (st.part i).procs F.bs F.left F.res F.dead F.done w a (by omega) x.2 rfl h.fl l m n r1 o q (fun k p r=>?_)).mono ?_
 ·have d:k<(st.part i).procs.length:=(List.getElem?_eq_some_iff.1 r).1;have e:st.proc i k=p:=by
   unfold aQ.proc;rw[List.getD_eq_getElem?_getD,r];rfl
  have p0:=h.ref.pAt i k 0 a d (by omega);have p1:=h.ref.pAt i k 1 a d (by omega);have s:=h.ref.pAt i k 4 a d (by omega);rw[e]at p0 p1 s;exact⟨p0,p1,s⟩
 ·rintro e w' ⟨v,rfl,y,u⟩;refine⟨_,_,v,rfl,?_,by rw[←Tu];exact y,u⟩;have:=h.ref.words i a;exact aO this (fun b e=>u.block b (World.ownsRow.lt this b e).2)
theorem Me(a:eZ)(Q:Nat→Value)(g:Nat)(st:aQ)(F:Fl)(i:Int)(w:World)(h:Ro w a Q g st F)(b:¬ (0≤i∧i<st.parts.length)):
 Calls Tryz.prog 99 #[.pointer (some ⟨a.kb,0,none⟩),.int .i64 i] w fun e w'=>e=.returned (.tuple #[.agg #[.int .i64 0,.int .i64 0,.slice none 0 0,.slice none 0 0],.int .i64 1])∧Below w.heap.size w w':=by
 have c:=h.ref.kAt 6;simp only[cE,List.getElem?_toArray,List.getElem?_cons_succ,List.getElem?_cons_zero]at c;have f:=aN c;have d:Hid (Below w.heap.size w (w.alloc (.cells #[.int .i64 0,.int .i64 0,.slice none 0 0,.slice none 0 0] 43))):=aG _ _;clear h
 by_cases j:i<0
 ·clear b
  go_enter Tryz.func99,Tryz.ntmps99
  go_wp2
  exact bodyPost_ret (v:=.tuple #[.agg #[.int .i64 0,.int .i64 0,.slice none 0 0,.slice none 0 0],.int .i64 1]) (by simp[results,Tryz.results99,go_sem]) rfl ⟨rfl,d.out⟩
 ·have k:(st.parts.length:Int)≤i:=by omega
  clear b;generalize st.parts.length=np at *
  go_enter Tryz.func99,Tryz.ntmps99
  go_wp2
  exact bodyPost_ret (v:=.tuple #[.agg #[.int .i64 0,.int .i64 0,.slice none 0 0,.slice none 0 0],.int .i64 1]) (by simp[results,Tryz.results99,go_sem]) rfl ⟨rfl,d.out⟩
end Go.Proofs.YtnjlbgolnbdkaaaGreat
