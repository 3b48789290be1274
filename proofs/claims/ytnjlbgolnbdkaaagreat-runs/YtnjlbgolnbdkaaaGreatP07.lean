/- All, with short names -/
import Derived.Test.YtnjlbgolnbdkaaaGreatP06
import Derived.DeepKeys
import Derived.Test.YtnjlbgolnbdkaaaGreatP04
set_option maxRecDepth 100000
set_option maxHeartbeats 16000000
namespace Go.Proofs.YtnjlbgolnbdkaaaGreat
open Go Go.RowKit
section
open Go.RowKit
def jK(zs:List Int)(s:Rs):Cf×Rs:=
 let a:=(cN zs 72 72 [] s).2
 let N:=cN zs 1 4 [] a
 let f:=cN zs 1 64 [] N.2
 let b:=cN zs 0 200 [] f.2
 let c:=gD (lE zs) N.1.toNat b.2
 let d:=oV zs N.1 f.1 c.2
 let k:=cN zs 0 4 [] d.2
 let g:=gD (jT zs N.1) k.1.toNat k.2
 (⟨f.1,b.1,c.1,d.1,g.1⟩,g.2)
structure Rn(rb:Nat)(ao:Option Addr)(n cap:Nat)(zs:List Int)(w:World)(p:Nat)(N:Int)(cells:Array Value)(s:Rs)(wr:World):Prop where
 box:wr.heap[w.heap.size]?=some (.cells #[.pointer (some ⟨rb,0,none⟩)] 102 (0,0))
 zero:wr.heap[w.heap.size+1]?=some (.cells (bJ 0 0 (.slice none 0 0) (.slice none 0 0) (.slice none 0 0)) 71 (0,0))
 many:wr.heap[p]?=some (.cells #[.int .i64 N] 3 (0,0))
 cur:wr.heap[p+1]?=some (.cells cells 71 (0,0))
 rd:eE rb ao n cap zs s wr
 t:aH (·=rb) w wr
section
variable {rb:Nat} {ao:Option Addr} {n cap:Nat} {zs:List Int} {w:World} {p:Nat} {N:Int} {cells:Array Value} {s s':Rs} {wr w':World}
theorem Rn.byte(h:Rn rb ao n cap zs w p N cells s wr)(c:rb<w.heap.size)(d:w.heap.size+2≤p)(b:eE rb ao n cap zs s' w')(a:aH (·=rb) wr w'):Rn rb ao n cap zs w p N cells s' w':=
 ⟨(a.block _ (lt_of_block h.box) (by omega)).trans h.box,(a.block _ (lt_of_block h.zero) (by omega)).trans h.zero,(a.block _ (lt_of_block h.many) (by omega)).trans h.many,(a.block _ (lt_of_block h.cur) (by omega)).trans h.cur,b,h.t.andThen a⟩
theorem Rn.set(h:Rn rb ao n cap zs w p N cells s wr)(a:rb<w.heap.size)(d:w.heap.size+2≤p)(b:∀ad,ao=some ad→0<n→ad.block<w.heap.size)(o:Nat)(v:Value):Rn rb ao n cap zs w p N (cells.setIfInBounds o v) s (wr.setCell ⟨p+1,o,none⟩ v):=by
 have t:aH (·=p+1) wr (wr.setCell ⟨p+1,o,none⟩ v):=aH.ofSet wr _ o v rfl;exact⟨(t.block _ (lt_of_block h.box) (by omega)).trans h.box,(t.block _ (lt_of_block h.zero) (by omega)).trans h.zero,(t.block _ (lt_of_block h.many) (by omega)).trans h.many,aK h.cur o v,h.rd.new a b (t.mono (fun k c=>by omega)),h.t.andNew (t.mono (fun k c=>by omega))⟩
end
theorem kA.low{base:Nat}{a vW vC:Value}{cf:Cf}{w w':World}(h:kA base a vW vC cf w){S:Nat→Prop}(t:aH S w w')(c:∀b,S b→b<base):kA base a vW vC cf w':=h.keep (fun b g d=>t.block b d (fun f=>by have:=c b f;omega))
theorem Ce(rb:Nat)(ao:Option Addr)(n cap:Nat)(zs:List Int)(s:Rs)(w:World)(h:eE rb ao n cap zs s w):
 Calls Tryz.prog 44 #[.pointer (some ⟨rb,0,none⟩)] w fun e w'=>∃o u q y z A T a2 U,e=.returned (.agg (bJ (jK zs s).1.frame (jK zs s).1.watch (.slice o u q) (.slice y z A) (.slice T a2 U)))∧kT w.heap.size (.slice o u q) (.slice y z A) (.slice T a2 U) (jK zs s).1 w'∧eE rb ao n cap zs (jK zs s).2 w'∧aH (·=rb) w w':=by
 have E:=lt_of_block h.obj;have V:Hid (∀ad,ao=some ad→0<n→ad.block<w.heap.size):=h.held.lt;have c4:=aI h.held.bytes;have j3:Hid (∃j4,j4=bJ 0 0 (.slice none 0 0) (.slice none 0 0) (.slice none 0 0)):=⟨_,rfl⟩;obtain⟨M,W⟩:∃M,M=((w.alloc (.cells #[.pointer (some ⟨rb,0,none⟩)] 102)).alloc (.cells #[.int .i64 0,.int .i64 0,.slice none 0 0,.slice none 0 0,.slice none 0 0] 71)):=⟨_,rfl⟩;have o3:M.heap.size=w.heap.size+2:=by rw[W];simp
 have d5:M.heap[w.heap.size]?=some (.cells #[.pointer (some ⟨rb,0,none⟩)] 102 (0,0)):=by rw[W];exact(Below.heap_alloc _ _ _ (by simp)).trans (heap_alloc_new w _)
 have g6:M.heap[w.heap.size+1]?=some (.cells (bJ 0 0 (.slice none 0 0) (.slice none 0 0) (.slice none 0 0)) 71 (0,0)):=by rw[W];exact qX w _ _
 have g7:aH (·=rb) w M:=by rw[W];exact(bY _ _).andThen (bY _ _)
 have g8:eE rb ao n cap zs s M:=by rw[W];exact(h.alloc _).alloc _
 have j5:M.cell? ⟨w.heap.size,0,none⟩=some (.pointer (some ⟨rb,0,none⟩)):=aD d5;have d6:=aI (gW rb ao n cap zs s 72 72 _ g8);obtain⟨r1,d7⟩:∃r1,(cN zs 72 72 [] s).2=r1:=⟨_,rfl⟩;rw[d7]at d6;have g9:=aI W;have c5:=aI (And.intro d5 (And.intro g6 g7));clear h d5 g6 g7 g8 W j3
 go_enter Tryz.func44,Tryz.ntmps44
 go_wp2_with fail
 rw[←g9.out];refine d6.out.mono ?_;rintro e j6 ⟨rfl,h0,a8⟩;have o4:=a8.size;have d8:=(a8.block _ (by omega) (by omega)).trans c5.out.1;have h1:=(a8.block _ (by omega) (by omega)).trans c5.out.2.1;have h2:=c5.out.2.2.andThen a8;have j7:j6.cell? ⟨w.heap.size,0,none⟩=some (.pointer (some ⟨rb,0,none⟩)):=aD d8;have d9:=aI (gW rb ao n cap zs r1 1 4 _ h0);have j8:=eU zs 1 4 [] r1 c4.out;have j9:=uJ zs 1 4 [] r1 (by omega);obtain⟨N,c6⟩:∃N,(cN zs 1 4 [] r1).1=N:=⟨_,rfl⟩;obtain⟨O,e0⟩:∃O,(cN zs 1 4 [] r1).2=O:=⟨_,rfl⟩;rw[c6,e0]at d9;rw[c6]at j8 j9;have h3:=aI (And.intro d7 (And.intro c6 e0));have a9:=aI (And.intro d8 (And.intro h1 h2));clear h0 a8 d8 h1 h2 j5 d6 c5 g9 d7 c6 e0;go_wp2_with fail
 refine d9.out.mono ?_;rintro e a ⟨rfl,h4,c7⟩;have o5:=c7.size;obtain⟨b0,a3⟩:∃b0,b0=(a.alloc (.cells #[.int .i64 N] 3)).alloc (.cells #[.int .i64 0,.int .i64 0,.slice none 0 0,.slice none 0 0,.slice none 0 0] 71):=⟨_,rfl⟩;have h5:aH (·=rb) a b0:=by rw[a3];exact(bY _ _).andThen (bY _ _)
 have c8:Hid (Rn rb ao n cap zs w a.heap.size N (bJ 0 0 (.slice none 0 0) (.slice none 0 0) (.slice none 0 0)) O b0):=by
  have t:=c7.andThen h5;refine⟨(t.block _ (by omega) (by omega)).trans a9.out.1,(t.block _ (by omega) (by omega)).trans a9.out.2.1,?_,?_,?_,a9.out.2.2.andThen t⟩
  ·rw[a3];exact(Below.heap_alloc _ _ _ (by simp)).trans (heap_alloc_new a _)
  ·rw[a3];exact qX a _ _
  ·rw[a3];exact(h4.alloc _).alloc _
 have k0:b0.cell? ⟨w.heap.size,0,none⟩=some (.pointer (some ⟨rb,0,none⟩)):=aD c8.out.box;have k1:a.cell? ⟨w.heap.size,0,none⟩=some (.pointer (some ⟨rb,0,none⟩)):=by rw[cell_of_row _ _ _ _ _ _ ((c7.block _ (by omega) (by omega)).trans a9.out.1)];rfl
 have o6:w.heap.size<a.heap.size:=by omega
 have e1:=aI (gW rb ao n cap zs O 1 64 _ c8.out.rd);have k2:=eU zs 1 64 [] O c4.out;have k3:=uJ zs 1 64 [] O (by omega);obtain⟨j,c9⟩:∃j,(cN zs 1 64 [] O).1=j:=⟨_,rfl⟩;obtain⟨X,e2⟩:∃X,(cN zs 1 64 [] O).2=X:=⟨_,rfl⟩;rw[c9,e2]at e1;rw[c9]at k2 k3;have h6:=aI (And.intro c9 e2);have h7:=aI a3;clear h4 c7 h5 a3 d9 a9 j7 c9 e2;go_wp2_with fail
 rw[←h7.out];refine e1.out.mono ?_;clear k1 k0;rintro e e3 ⟨rfl,h8,h9⟩;have b1:=aI (c8.out.byte E (by omega) h8 h9);have z0:e3.cell? ⟨a.heap.size+1,0,none⟩=some (.int .i64 0):=aD b1.out.cur;have k4:=aJ b1.out.cur 0;have k5:e3.cell? ⟨w.heap.size,0,none⟩=some (.pointer (some ⟨rb,0,none⟩)):=aD b1.out.box;have o7:¬w.heap.size=a.heap.size+1:=by omega
 have o8:¬a.heap.size+1=w.heap.size:=by omega
 have o9:¬w.heap.size+1=a.heap.size+1:=by omega
 have p1:¬a.heap.size+1=w.heap.size+1:=by omega
 have e4:Hid (Rn rb ao n cap zs w a.heap.size N (bJ j 0 (.slice none 0 0) (.slice none 0 0) (.slice none 0 0)) X (e3.setCell ⟨a.heap.size+1,0,none⟩ (.int .i64 j))):=b1.out.set E (by omega) V.out 0 (.int .i64 j);have e5:=aI (gW rb ao n cap zs X 0 200 _ e4.out.rd);have k6:=eU zs 0 200 [] X c4.out;obtain⟨C,d0⟩:∃C,(cN zs 0 200 [] X).1=C:=⟨_,rfl⟩;obtain⟨a4,e6⟩:∃a4,(cN zs 0 200 [] X).2=a4:=⟨_,rfl⟩;rw[d0,e6]at e5;rw[d0]at k6;have i0:=aI (And.intro d0 e6);clear h8 h9 e1 c8 h7 d0 e6;go_wp2_with fail
 refine e5.out.mono ?_;rintro e d1 ⟨rfl,i1,i2⟩;have a5:=aI (e4.out.byte E (by omega) i1 i2);clear i1 i2 e5 e4 b1 z0 k4 k5;obtain⟨r,e7⟩:∃r,r=d1.setCell ⟨a.heap.size+1,1,none⟩ (.int .i64 C):=⟨_,rfl⟩;have d2:Hid (Rn rb ao n cap zs w a.heap.size N (bJ j C (.slice none 0 0) (.slice none 0 0) (.slice none 0 0)) a4 r):=by rw[e7];exact a5.out.set E (by omega) V.out 1 (.int .i64 C)
 have z1:d1.cell? ⟨a.heap.size+1,1,none⟩=some (.int .i64 0):=aD a5.out.cur;have k7:=aJ a5.out.cur 1;have k8:d1.cell? ⟨w.heap.size,0,none⟩=some (.pointer (some ⟨rb,0,none⟩)):=aD a5.out.box;have k9:d1.cell? ⟨a.heap.size,0,none⟩=some (.int .i64 N):=aD a5.out.many;have p2:=lt_of_block d2.out.cur;have Y:=No rb N.toNat (by omega) (·=rb) r (fun b b2=>by omega) (fun I l wr=>l.map Prod.fst=(gD (lE zs) I a4).1∧eE rb ao n cap zs (gD (lE zs) I a4).2 wr∧aH (·=rb) r wr∧lI r.heap.size l wr)
  (fun I l wr w' f t=>⟨f.1,f.2.1.new (B:=r.heap.size) (by omega) (fun ad e e8=>by have:=V.out ad e e8;omega) (t.mono (fun k J=>J.1)),f.2.2.1.andNew (t.mono (fun k J=>J.1)),f.2.2.2.touch t (fun b b2=>.inr b2.2)⟩)
  (fun I l wr l0 f=>(vV rb ao n cap zs _ wr f.2.1).mono (fun e w' ⟨ad,l1,c,e9,l2,x,d⟩=>⟨_,ad,l1,c,e9,⟨by rw[List.map_append,f.1];rfl,x,f.2.2.1.andThen d,f.2.2.2.snoc f.2.2.1.size d (fun b b2=>by omega) l2⟩,d⟩))
  ⟨rfl,d2.out.rd,aH.refl _ _,lI.nil _⟩
 rw[show((N.toNat:Nat):Int)=N from by omega]at Y;have b3:=aI Y;have i3:=aI e7;clear Y e7;go_wp2_with fail
 rw[←i3.out];refine b3.out.mono ?_;rintro e P ⟨p3,F,rfl,⟨b4,x,d,i4⟩,f0,H⟩;obtain⟨o,q,rfl⟩:=bL H;have p4:=d.size;have Q:=aI (d2.out.byte E (by omega) x d);have f1:Hid (kG r.heap.size (.slice o F.length q) (F.map Prod.fst) P):=by
  obtain⟨c,L,m,_,l3⟩:=i4.ex;exact⟨F,c,rfl,H,L,m,l3⟩
 obtain⟨a6,f2⟩:∃a6,(gD (lE zs) N.toNat a4).2=a6:=⟨_,rfl⟩;rw[f2]at Q;have i5:=aI (And.intro b4.symm f2);generalize F.length=u at f1;clear b4 x d i4 f0 H b3 f2 d2 a5 i3 z1 k7 k8 k9;obtain⟨a7,b5⟩:∃a7,a7=P.setCell ⟨a.heap.size+1,2,none⟩ (.slice o u q):=⟨_,rfl⟩;have i6:aH (·=a.heap.size+1) P a7:=by rw[b5];exact aH.ofSet _ _ _ _ rfl
 have p5:a7.heap.size=P.heap.size:=by rw[b5];simp
 have f3:Hid (Rn rb ao n cap zs w a.heap.size N (bJ j C (.slice o u q) (.slice none 0 0) (.slice none 0 0)) a6 a7):=by rw[b5];exact Q.out.set E (by omega) V.out 2 _
 have i7:Hid (kG r.heap.size (.slice o u q) (F.map Prod.fst) a7):=f1.out.keep (fun b L m _=>i6.block b m (by omega));have z2:P.cell? ⟨a.heap.size+1,2,none⟩=some (.slice none 0 0):=aD Q.out.cur;have l4:=aJ Q.out.cur 2;have l5:P.cell? ⟨w.heap.size,0,none⟩=some (.pointer (some ⟨rb,0,none⟩)):=aD Q.out.box;have l6:P.cell? ⟨a.heap.size,0,none⟩=some (.int .i64 N):=aD Q.out.many;have l7:P.cell? ⟨a.heap.size+1,0,none⟩=some (.int .i64 j):=aD Q.out.cur;have f5:=aI (zX rb ao n cap zs a6 N j _ f3.out.rd (by omega) (by omega));obtain⟨R,f6⟩:∃R,(oV zs N j a6).1=R:=⟨_,rfl⟩;obtain⟨S,f7⟩:∃S,(oV zs N j a6).2=S:=⟨_,rfl⟩;rw[f6,f7]at f5;have i8:=aI (And.intro f6 f7);have i9:=aI b5;clear f6 f7 b5 i6;go_wp2_with fail
 rw[←i9.out];refine f5.out.mono ?_;rintro e Z ⟨y,z,A,rfl,H,x,d⟩;have p6:=d.size;have b6:=aI (f3.out.byte E (by omega) x d);have f8:Hid (kG r.heap.size (.slice o u q) (F.map Prod.fst) Z∧kF r.heap.size (.slice y z A) R Z):=⟨i7.out.keep (fun b L m _=>d.block b m (by omega)),bI H (by omega)⟩;clear H x d f5 f3 Q i9 i7 f1 z2 l4 l5 l6 l7;have l8:Z.cell? ⟨a.heap.size+1,3,none⟩=some (.slice none 0 0):=aD b6.out.cur;have l9:=aJ b6.out.cur 3;have m0:Z.cell? ⟨w.heap.size,0,none⟩=some (.pointer (some ⟨rb,0,none⟩)):=aD b6.out.box;obtain⟨a0,b7⟩:∃a0,a0=Z.setCell ⟨a.heap.size+1,3,none⟩ (.slice y z A):=⟨_,rfl⟩;have f9:aH (·=a.heap.size+1) Z a0:=by rw[b7];exact aH.ofSet _ _ _ _ rfl
 have p7:a0.heap.size=Z.heap.size:=by rw[b7];simp
 have g0:Hid (Rn rb ao n cap zs w a.heap.size N (bJ j C (.slice o u q) (.slice y z A) (.slice none 0 0)) S a0):=by rw[b7];exact b6.out.set E (by omega) V.out 3 _
 have g1:Hid (kG r.heap.size (.slice o u q) (F.map Prod.fst) a0∧kF r.heap.size (.slice y z A) R a0):=⟨f8.out.1.keep (fun b L m _=>f9.block b m (by omega)),eO f8.out.2 (fun b L m _=>f9.block b m (by omega))⟩;have g2:=aI (gW rb ao n cap zs S 0 4 _ g0.out.rd);have m1:=eU zs 0 4 [] S c4.out;have m2:=uJ zs 0 4 [] S (by omega);obtain⟨K,d3⟩:∃K,(cN zs 0 4 [] S).1=K:=⟨_,rfl⟩;obtain⟨b8,g3⟩:∃b8,(cN zs 0 4 [] S).2=b8:=⟨_,rfl⟩;rw[d3,g3]at g2;rw[d3]at m1 m2;have j0:=aI (And.intro d3 g3);have j1:=aI b7;clear d3 g3 b7 f9 b6 f8;go_wp2_with fail
 rw[←j1.out];refine g2.out.mono ?_;rintro e b9 ⟨rfl,x,d⟩;have p8:=d.size;have c0:=aI (g0.out.byte E (by omega) x d);have g4:Hid (kG r.heap.size (.slice o u q) (F.map Prod.fst) b9∧kF r.heap.size (.slice y z A) R b9):=⟨g1.out.1.keep (fun b L m _=>d.block b m (by omega)),eO g1.out.2 (fun b L m _=>d.block b m (by omega))⟩;clear x d g2 g0 g1 j1 l8 l9 m0;have Y:=Mm w.heap.size a.heap.size K.toNat (by omega) (·=rb) b9 (fun b b2=>by omega) (fun I l wr=>l=(gD (jT zs N) I b8).1∧eE rb ao n cap zs (gD (jT zs N) I b8).2 wr∧aH (·=rb) b9 wr)
  (fun I l wr w' f t=>⟨f.1,f.2.1.new (B:=b9.heap.size) (by omega) (fun ad e e8=>by have:=V.out ad e e8;omega) (t.mono (fun k J=>J.1)),f.2.2.andNew (t.mono (fun k J=>J.1))⟩)
  (fun I l wr l0 f=>(Ii w.heap.size a.heap.size rb ao n cap zs _ N wr f.2.1 (by omega) ((f.2.2.block _ (by omega) (by omega)).trans c0.out.box) ((f.2.2.block _ (by omega) (by omega)).trans c0.out.many)).mono (fun e w' ⟨e9,x,d⟩=>⟨_,e9,⟨by rw[f.1];rfl,x,f.2.2.andThen d⟩,d⟩))
  ⟨rfl,c0.out.rd,aH.refl _ _⟩
 rw[show((K.toNat:Nat):Int)=K from by omega]at Y;have b3:=aI Y;clear Y;go_wp2_with fail
 refine b3.out.mono ?_;rintro e D ⟨v,c1,rfl,⟨b4,x,d⟩,f0,H⟩;obtain⟨T,U,rfl⟩:=bL H;have p9:=d.size;have c2:=aI (c0.out.byte E (by omega) x d);have j2:Hid (kT r.heap.size (.slice o u q) (.slice y z A) (.slice T c1.length U) ⟨j,C,F.map Prod.fst,R,c1⟩ D):=⟨g4.out.1.keep (fun b L m _=>d.block b m (by omega)),eO g4.out.2 (fun b L m _=>d.block b m (by omega)),bI H (by omega)⟩;obtain⟨d4,g5⟩:∃d4,(gD (jT zs N) K.toNat b8).2=d4:=⟨_,rfl⟩;rw[g5]at c2;have m3:Hid (jK zs s=(⟨j,C,F.map Prod.fst,R,c1⟩,d4)):=by
  show _=_
  obtain⟨m4,m5,m6⟩:=h3.out;obtain⟨m7,m8⟩:=h6.out;obtain⟨m9,n0⟩:=i0.out;obtain⟨n1,n2⟩:=i5.out;obtain⟨n3,n4⟩:=i8.out;obtain⟨n5,n6⟩:=j0.out;unfold jK;simp only[m4,m5,m6,m7,m8,m9,n0,n1,n2,n3,n4,n5,n6,g5,←b4]
 generalize c1.length=a2 at j2;clear b4 x d f0 H g5 b3 c0 g4 h3 h6 i0 i5 i8 j0;have a1:=c2.out.cur;have G:=c2.out.zero;have q0:D.cell? ⟨a.heap.size+1,0,none⟩=some (.int .i64 j):=aD a1;have q1:D.cell? ⟨a.heap.size+1,1,none⟩=some (.int .i64 C):=aD a1;have q2:D.cell? ⟨a.heap.size+1,2,none⟩=some (.slice o u q):=aD a1;have q3:D.cell? ⟨a.heap.size+1,3,none⟩=some (.slice y z A):=aD a1;have q4:D.cell? ⟨a.heap.size+1,4,none⟩=some (.slice none 0 0):=aD a1;have f4:=aJ a1 4;have n7:D.cell? ⟨w.heap.size+1,0,none⟩=some (.int .i64 0):=aD G;have n8:D.cell? ⟨w.heap.size+1,1,none⟩=some (.int .i64 0):=aD G;have n9:D.cell? ⟨w.heap.size+1,2,none⟩=some (.slice none 0 0):=aD G;have o0:D.cell? ⟨w.heap.size+1,3,none⟩=some (.slice none 0 0):=aD G;have o1:D.cell? ⟨w.heap.size+1,4,none⟩=some (.slice none 0 0):=aD G;have q5:=aJ G 0;have q6:=aJ G 1;have q7:=aJ G 2;have q8:=aJ G 3;have q9:=aJ G 4;clear a1 G;have o2:Hid (∀c3,aH (fun i=>i=w.heap.size+1∨i=a.heap.size+1) D c3→kT w.heap.size (.slice o u q) (.slice y z A) (.slice T a2 U) ⟨j,C,F.map Prod.fst,R,c1⟩ c3∧eE rb ao n cap zs d4 c3∧aH (·=rb) w c3):=fun c3 t=>⟨(j2.out.low t (fun b b2=>by omega)).base (by omega),c2.out.rd.new E V.out (t.mono (fun k J=>by omega)),c2.out.t.andNew (t.mono (fun k J=>by omega))⟩
 go_wp2
 refine bodyPost_ret (v:=.agg (bJ j C (.slice o u q) (.slice y z A) (.slice T a2 U))) (by simp[results,Tryz.results44,go_sem,bJ,n7,n8,n9,o0,o1]) rfl ?_;rw[m3.out];refine⟨o,u,q,y,z,A,T,a2,U,rfl,o2.out _ ?_⟩
 iterate 5 refine aH.thenSet (g:=w.heap.size+1) ?_ _ _ (.inl rfl)
 refine aH.thenSet (g:=a.heap.size+1) ?_ _ _ (.inr rfl);exact aH.refl _ _
end
section
open Go.RowKit
def gH(zs:List Int)(s:Rs):Rs:=
 if s.err≠0 then s
 else if zs.length<s.pos+4 then⟨zs.length,2⟩
 else if bF 0 ((zs.drop s.pos).take 4)≠eN (zs.take s.pos)then⟨s.pos,5⟩
 else⟨s.pos+4,s.err⟩
def kU(zs:List Int)(s:Rs):Rs:=if s.err=0∧s.pos<zs.length then⟨s.pos,4⟩else s
theorem Ej(rb:Nat)(ao:Option Addr)(n cap:Nat)(zs:List Int)(s:Rs)(w:World)(h:eE rb ao n cap zs s w):
 Calls Tryz.prog 45 #[.pointer (some ⟨rb,0,none⟩)] w fun e w'=>e=.returned (.tuple #[])∧eE rb ao n cap zs (gH zs s) w'∧aH (·=rb) w w':=by
 have f:=h.obj;have M:w.cell? ⟨rb,0,none⟩=some (.slice ao n cap):=aD f;have c1:w.cell? ⟨rb,1,none⟩=some (.int .i64 s.pos):=aD f;have c2:w.cell? ⟨rb,2,none⟩=some (.int .i64 s.err):=aD f;have O:=aJ f 1;have P:=aJ f 2;have l:=h.held.len;have z:=h.pos;have Q:=h.small;have R:(0:Int)≤(n:Int):=by omega
 have d:=aI h;have v:Hid (∀ (s':Rs) (w':World),w'.heap[rb]?=some (Kk (.slice ao n cap) s')→aH (·=rb) w w'→s'.pos≤n→eE rb ao n cap zs s' w'):=fun T w' A B C=>⟨A,d.out.held.touch B (fun ad e D E=>d.out.apart ad e D E),d.out.apart,d.out.small,C⟩
 have x:=aI f;clear h f
 by_cases a:s.err=0
 ·have F:(s.err != 0)=false:=by simp[a]
  by_cases i:zs.length<s.pos+4
  ·have g:Hid (gH zs s=⟨n,2⟩):=by show _=_;unfold gH;rw[if_neg (by simpa using a),if_pos i,l]
   have G:(n:Int)<(s.pos:Int)+4:=by omega
   clear a i l
   go_enter Tryz.func45,Tryz.ntmps45
   go_wp2
   refine bodyPost_ret (results_none rfl _ _ _) rfl ?_;rw[g.out];have t:aH (·=rb) w ((w.setCell ⟨rb,1,none⟩ (.int .i64 n)).setCell ⟨rb,2,none⟩ (.int .i64 2)):=aH.thenSet (S:=(·=rb)) (aH.thenSet (S:=(·=rb)) (aH.refl _ _) _ _ rfl) _ _ rfl;refine⟨rfl,v.out _ _ ?_ t (Nat.le_refl n),t⟩;rw[aK (aK x.out 1 _) 2 _];rfl
  ·have G:¬ (n:Int)<(s.pos:Int)+4:=by omega
   obtain⟨b,m,H,o⟩:=pY d.out.held (by omega);have U:=d.out.held.cap1;have V:=d.out.held.cap2;have W:(s.pos:Int)+4≤(cap:Int):=by omega
   have X:¬cap=s.pos:=by omega
   have Y:(0:Int)≤(s.pos:Int):=by omega
   have Z:(s.pos:Int)≤(s.pos:Int)+4:=by omega
   have a0:(s.pos:Int)≤(cap:Int):=by omega
   have y:=aI d.out.held.bytes;have r:Hid (∀q c,Calls Tryz.prog 87 #[.slice (some ⟨b,m+s.pos,none⟩) 4 c] (w.drewN q) fun e w'=>e=.returned (.int .u32 (bF 0 ((zs.drop s.pos).take 4):Nat))∧w'=w.drewN q):=fun q c=>tX b (m+s.pos) 4 c ((zs.drop s.pos).take 4) (w.drewN q) (by simp;omega) ((y.out.drop _).take _) ((o.drewN q).piece s.pos 4) (by omega)
   have u:Hid (∀q c,Calls Tryz.prog 88 #[.slice (some ⟨b,m,none⟩) s.pos c] (w.drewN q) fun e w'=>e=.returned (.int .u32 (eN (zs.take s.pos):Nat))∧w'=w.drewN q):=fun q c=>xX b m s.pos c (zs.take s.pos) (w.drewN q) (by simp;omega) (y.out.take _) (by have:=(o.drewN q).piece 0 s.pos;simpa using this) (by omega)
   subst H
   by_cases j:bF 0 ((zs.drop s.pos).take 4)=eN (zs.take s.pos)
   ·have g:Hid (gH zs s=⟨s.pos+4,s.err⟩):=by show _=_;unfold gH;rw[if_neg (by simpa using a),if_neg i,if_neg (by simpa using j)]
    have k:(((bF 0 ((zs.drop s.pos).take 4):Nat):Int) != ((eN (zs.take s.pos):Nat):Int))=false:=by simp[j]
    have I:Hid (s.pos+4≤n):=(by omega:s.pos+4≤n);generalize bF 0 ((zs.drop s.pos).take 4)=J at r k;generalize eN (zs.take s.pos)=L at u k;clear a i j l o
    go_enter Tryz.func45,Tryz.ntmps45
    go_wp2
    go_quiet ((first| (go_at_call 87;exact Calls.quiet_of_same (r.out _ _))| (go_at_call 88;exact Calls.quiet_of_same (u.out _ _))))
    go_wp2
    go_end0
    rw[g.out];have t:aH (·=rb) w ((w.drewN nq).setCell ⟨rb,1,none⟩ (.int .i64 ((s.pos:Int)+4))):=(aH.ofDrewN w nq).thenSet _ _ rfl;refine⟨rfl,v.out _ _ ?_ t I.out,t⟩;rw[aK (w:=w.drewN nq) x.out 1 _];rfl
   ·have g:Hid (gH zs s=⟨s.pos,5⟩):=by show _=_;unfold gH;rw[if_neg (by simpa using a),if_neg i,if_pos j]
    have k:(((bF 0 ((zs.drop s.pos).take 4):Nat):Int) != ((eN (zs.take s.pos):Nat):Int))=true:=by rw[bne_iff_ne];omega
    generalize bF 0 ((zs.drop s.pos).take 4)=J at r k;generalize eN (zs.take s.pos)=L at u k;clear a i j l o
    go_enter Tryz.func45,Tryz.ntmps45
    go_wp2
    go_quiet ((first| (go_at_call 87;exact Calls.quiet_of_same (r.out _ _))| (go_at_call 88;exact Calls.quiet_of_same (u.out _ _))))
    go_wp2
    refine bodyPost_ret (results_none rfl _ _ _) rfl ?_;rw[g.out];have t:aH (·=rb) w ((w.drewN nq).setCell ⟨rb,2,none⟩ (.int .i64 5)):=(aH.ofDrewN w nq).thenSet _ _ rfl;refine⟨rfl,v.out _ _ ?_ t z,t⟩;rw[aK (w:=w.drewN nq) x.out 2 _];rfl
 ·have F:(s.err != 0)=true:=by simpa using a
  have g:Hid (gH zs s=s):=by show _=_;unfold gH;rw[if_pos a]
  clear a
  go_enter Tryz.func45,Tryz.ntmps45
  go_wp2
  refine bodyPost_ret (results_none rfl _ _ _) rfl ?_;rw[g.out];exact⟨rfl,d.out,aH.refl _ _⟩
theorem Nm(rb:Nat)(ao:Option Addr)(n cap:Nat)(zs:List Int)(s:Rs)(w:World)(h:eE rb ao n cap zs s w):
 Calls Tryz.prog 46 #[.pointer (some ⟨rb,0,none⟩)] w fun e w'=>e=.returned (.tuple #[])∧eE rb ao n cap zs (kU zs s) w'∧aH (·=rb) w w':=by
 have c:=h.obj;have y:w.cell? ⟨rb,0,none⟩=some (.slice ao n cap):=aD c;have c1:w.cell? ⟨rb,1,none⟩=some (.int .i64 s.pos):=aD c;have c2:w.cell? ⟨rb,2,none⟩=some (.int .i64 s.err):=aD c;have z:=aJ c 2;have g:=h.held.len;have j:=h.pos;have A:=h.small;have B:(0:Int)≤(n:Int):=by omega
 have a:=aI h;have k:Hid (∀ (s':Rs) (w':World),w'.heap[rb]?=some (Kk (.slice ao n cap) s')→aH (·=rb) w w'→s'.pos≤n→eE rb ao n cap zs s' w'):=fun C w' l m o=>⟨l,a.out.held.touch m (fun ad e q r=>a.out.apart ad e q r),a.out.apart,a.out.small,o⟩
 have i:Hid (∀nq,eE rb ao n cap zs s (w.drewN nq)∧aH (·=rb) w (w.drewN nq)):=fun nq=>⟨⟨a.out.obj,a.out.held.touch (S:=fun _=>False) (aH.ofDrewN w nq) (fun _ _ _ h=>h),a.out.apart,a.out.small,a.out.pos⟩,aH.ofDrewN w nq⟩
 have u:=aI c;clear h c
 by_cases b:s.err=0
 ·have v:(s.err == 0)=true:=by simp[b]
  by_cases f:s.pos<zs.length
  ·have d:Hid (kU zs s=⟨s.pos,4⟩):=by show _=_;unfold kU;rw[if_pos ⟨b,f⟩]
   have x:s.pos<n:=by omega
   clear b f g
   go_enter Tryz.func46,Tryz.ntmps46
   go_wp2
   go_quiet (fail)
   go_wp2
   go_end0
   rw[d.out];have t:aH (·=rb) w ((w.drewN nq).setCell ⟨rb,2,none⟩ (.int .i64 4)):=(aH.ofDrewN w nq).thenSet _ _ rfl;refine⟨rfl,k.out _ _ ?_ t j,t⟩;rw[aK (w:=w.drewN nq) u.out 2 _];rfl
  ·have d:Hid (kU zs s=s):=by show _=_;unfold kU;rw[if_neg (fun h=>f h.2)]
   have x:¬s.pos<n:=by omega
   clear b f g
   go_enter Tryz.func46,Tryz.ntmps46
   go_wp2
   go_quiet (fail)
   go_wp2
   go_end0
   rw[d.out];exact⟨rfl,i.out _⟩
 ·have v:(s.err == 0)=false:=by simpa using b
  have d:Hid (kU zs s=s):=by show _=_;unfold kU;rw[if_neg (fun h=>b h.1)]
  clear b
  go_enter Tryz.func46,Tryz.ntmps46
  go_wp2
  go_quiet (fail)
  go_wp2
  go_end0
  rw[d.out];exact⟨rfl,i.out _⟩
end
section
open Go.RowKit
def Ci(zs:List Int):Rs:=kU zs (gH zs (jK zs ⟨0,0⟩).2)
def lH(zs:List Int):Cf×Int×Int:=if(Ci zs).err≠0 then(nE,(Ci zs).pos,(Ci zs).err)else((jK zs ⟨0,0⟩).1,0,0)
theorem Fv(ao:Option Addr)(n cap:Nat)(zs:List Int)(w:World)(S:gV w ao n cap zs)(d3:n≤140737488351232):
 Calls Tryz.prog 29 #[.slice ao n cap] w fun e w'=>∃j l m o q r u x y,e=.returned (.tuple #[.agg (bJ (lH zs).1.frame (lH zs).1.watch (.slice j l m) (.slice o q r) (.slice u x y)),.int .i64 (lH zs).2.1,.int .i64 (lH zs).2.2])∧kT w.heap.size (.slice j l m) (.slice o q r) (.slice u x y) (lH zs).1 w'∧Below w.heap.size w w':=by
 have a4:Hid (∀ad,ao=some ad→0<n→ad.block<w.heap.size):=S.lt;obtain⟨D,E⟩:∃D,D=((w.alloc (.cells #[.int .i64 0,.int .i64 0,.slice none 0 0,.slice none 0 0,.slice none 0 0] 71)).alloc (.cells #[.slice ao n cap,.int .i64 0,.int .i64 0] 104)):=⟨_,rfl⟩;have e3:D.heap.size=w.heap.size+2:=by rw[E];simp
 have T:aH (fun i=>w.heap.size≤i) w D:=by rw[E];exact(bY _ _).andThen (bY _ _)
 have a5:D.heap[w.heap.size]?=some (.cells (bJ 0 0 (.slice none 0 0) (.slice none 0 0) (.slice none 0 0)) 71 (0,0)):=by rw[E];exact(Below.heap_alloc _ _ _ (by simp)).trans (heap_alloc_new w _)
 have a6:eE (w.heap.size+1) ao n cap zs ⟨0,0⟩ D:=⟨by rw[E];exact qX w _ _,S.touch T (fun ad e h e4=>by have:=a4.out ad e h;omega),fun ad e h=>by have:=a4.out ad e h;omega,d3,Nat.zero_le _⟩;have F:=aI (Ce (w.heap.size+1) ao n cap zs ⟨0,0⟩ _ a6);have a7:=aI E;have U:=aI (And.intro T a5);have A:Hid (lH zs=if(kU zs (gH zs (jK zs ⟨0,0⟩).2)).err≠0 then(nE,((kU zs (gH zs (jK zs ⟨0,0⟩).2)).pos:Int),(kU zs (gH zs (jK zs ⟨0,0⟩).2)).err)else((jK zs ⟨0,0⟩).1,0,0)):=rfl;clear T a5 a6 E S;generalize (jK zs ⟨0,0⟩).1=cf at F A;generalize (jK zs ⟨0,0⟩).2=V at F A;obtain⟨G,W⟩:∃G,G=cf.frame:=⟨_,rfl⟩;obtain⟨H,X⟩:∃H,H=cf.watch:=⟨_,rfl⟩;rw[←W,←X]at F;simp only[bJ]at F;have a8:=aI (And.intro W X);clear W X
 go_enter Tryz.func29,Tryz.ntmps29
 go_wp2_with fail
 rw[←a7.out];refine F.out.mono ?_;rintro e c ⟨j,l,m,o,q,r,u,x,y,rfl,a9,b0,Q⟩;have e5:=Q.size;have b1:=(Q.block _ (by omega) (by omega)).trans U.out.2;have b2:aH (fun i=>w.heap.size≤i) w c:=U.out.1.andThen (Q.mono (fun k M=>by omega));obtain⟨B,I⟩:∃B,B=c.alloc (.cells #[.int .i64 G,.int .i64 H,.slice j l m,.slice o q r,.slice u x y] 71):=⟨_,rfl⟩;have R:aH (·=w.heap.size+1) c B:=by rw[I];exact bY _ _
 have e6:B.heap.size=c.heap.size+1:=by rw[I];simp
 have b3:B.heap[c.heap.size]?=some (.cells (bJ G H (.slice j l m) (.slice o q r) (.slice u x y)) 71 (0,0)):=aF I;have b4:=(R.block _ (by omega) (by omega)).trans b1;have b5:aH (fun i=>w.heap.size≤i) w B:=b2.andThen (R.mono (fun k M=>by omega));have b6:=a9.low R (fun b b7=>by omega);have b8:eE (w.heap.size+1) ao n cap zs V B:=by rw[I];exact b0.alloc _
 have Y:=aI (Ej (w.heap.size+1) ao n cap zs V _ b8);generalize gH zs V=b9 at Y A;have c0:=aI I;have O:=aI (And.intro b4 (And.intro b3 (And.intro b5 b6)));clear a9 b0 Q b1 b2 R b3 b4 b5 b6 b8 I F a7 U;go_wp2_with fail
 rw[←c0.out];refine Y.out.mono ?_;rintro e e7 ⟨rfl,c3,Z⟩;have e8:=Z.size;have a0:=aI (Nm (w.heap.size+1) ao n cap zs b9 _ c3);generalize kU zs b9=z at a0 A;have c4:=aI Z;clear c3 Z Y;go_wp2_with fail
 refine a0.out.mono ?_;rintro e a ⟨rfl,c5,a1⟩;have e9:=a1.size;have P:=c4.out.andThen a1;have d:=(P.block _ (by omega) (by omega)).trans O.out.1;have J:=(P.block _ (by omega) (by omega)).trans O.out.2.1;have d4:Hid (aH (fun i=>w.heap.size≤i) w a):=O.out.2.2.1.andThen (P.mono (fun k M=>by omega));have d5:=aI (O.out.2.2.2.low P (fun b b7=>by omega));have a2:=c5.obj;have c1:a.cell? ⟨w.heap.size+1,1,none⟩=some (.int .i64 z.pos):=aD a2;have c2:a.cell? ⟨w.heap.size+1,2,none⟩=some (.int .i64 z.err):=aD a2;have d6:a.cell? ⟨c.heap.size,0,none⟩=some (.int .i64 G):=aD J;have d7:a.cell? ⟨c.heap.size,1,none⟩=some (.int .i64 H):=aD J;have d8:a.cell? ⟨c.heap.size,2,none⟩=some (.slice j l m):=aD J;have d9:a.cell? ⟨c.heap.size,3,none⟩=some (.slice o q r):=aD J;have e0:a.cell? ⟨c.heap.size,4,none⟩=some (.slice u x y):=aD J;have c6:a.cell? ⟨w.heap.size,0,none⟩=some (.int .i64 0):=aD d;have c7:a.cell? ⟨w.heap.size,1,none⟩=some (.int .i64 0):=aD d;have c8:a.cell? ⟨w.heap.size,2,none⟩=some (.slice none 0 0):=aD d;have c9:a.cell? ⟨w.heap.size,3,none⟩=some (.slice none 0 0):=aD d;have d0:a.cell? ⟨w.heap.size,4,none⟩=some (.slice none 0 0):=aD d;have f0:=aJ d 0;have f1:=aJ d 1;have f2:=aJ d 2;have f3:=aJ d 3;have f4:=aJ d 4;have f5:¬c.heap.size=w.heap.size:=by omega
 have f6:¬w.heap.size=c.heap.size:=by omega
 clear c5 a1 P d J a2 a0 c4 O c0;have d1:Hid (∀f C,aH (fun i=>i=w.heap.size) (a.drewN C) f→kT w.heap.size (.slice j l m) (.slice o q r) (.slice u x y) cf f∧Below w.heap.size w f):=fun f C t=>by
  have d2:aH (fun i=>i=w.heap.size) a f:=(aH.ofDrewN a C).andThen t;exact⟨(d5.out.low d2 (fun b b7=>by omega)).base (by omega),(d4.out.andThen (d2.mono (fun k M=>by omega))).below (Nat.le_refl _) (fun k M=>M)⟩
 have e1:Hid (∀f C,aH (fun i=>i=w.heap.size) (a.drewN C) f→Below w.heap.size w f):=fun f C t=>(d1.out f C t).2
 by_cases L:z.err=0
 ·have e2:(z.err != 0)=false:=by simp[L]
  have a3:Hid (lH zs=(cf,0,0)):=by show _=_;rw[A.out,if_neg (by simpa using L)]
  clear L A;go_wp2
  refine bodyPost_ret (v:=.tuple #[.agg (bJ G H (.slice j l m) (.slice o q r) (.slice u x y)),.int .i64 0,.int .i64 0]) (by simp[results,Tryz.results29,go_sem,bJ,c6,c7,c8,c9,d0]) rfl ?_;rw[a3.out];refine⟨j,l,m,o,q,r,u,x,y,by rw[a8.out.1,a8.out.2],d1.out _ 0 ?_⟩
  iterate 5 refine aH.thenSet (g:=w.heap.size) ?_ _ _ rfl
  exact aH.refl _ _
 ·have e2:(z.err != 0)=true:=by simpa using L
  have a3:Hid (lH zs=(nE,(z.pos:Int),z.err)):=by show _=_;rw[A.out,if_pos L]
  clear L A d6 d7 d8 d9 e0;go_wp2
  go_region
  all_goals
   go_wp2
   refine bodyPost_ret (v:=.tuple #[.agg (bJ 0 0 (.slice none 0 0) (.slice none 0 0) (.slice none 0 0)),.int .i64 (z.pos:Int),.int .i64 z.err]) (by simp[results,Tryz.results29,go_sem,bJ,c6,c7,c8,c9,d0]) rfl ?_;rw[a3.out];refine⟨none,0,0,none,0,0,none,0,0,rfl,Ld _ _,(e1.out _ 0 ?_).drew⟩
   iterate 5 refine aH.thenSet (g:=w.heap.size) ?_ _ _ rfl
   exact aH.refl _ _
end
section
open Go.RowKit
structure Rt(zs:List Int)(r:Rd)(s:Rs):Prop where
 err:s.err=r.err
 pos:r.err=0→s.pos=r.pos
 pl:r.err≠0→(s.pos:Int)=r.pl
 le:r.pos≤zs.length
structure xZ(r r':Rd):Prop where
 err:r'.err=r.err
 pos:r'.pos=r.pos
 pl:r'.pl=r.pl
theorem Rt.same{zs:List Int}{r a:Rd}{s:Rs}(h:Rt zs r s)(k:xZ r a):Rt zs a s:=⟨by rw[k.err];exact h.err,by rw[k.err,k.pos];exact h.pos,by rw[k.err,k.pl];exact h.pl,by rw[k.pos];exact h.le⟩
structure iF{α:Type}(zs:List Int)(f:Rd→α×Rd)(g:Rs→α×Rs):Prop where
 step:∀r s,Rt zs r s→Rt zs (f r).2 (g s).2∧((f r).2.err=0→(g s).1=(f r).1)
 still:∀r,r.err≠0→xZ r (f r).2
 stuck:∀s,s.err≠0→(g s).2=s
theorem xZ.refl(r:Rd):xZ r r:=⟨rfl,rfl,rfl⟩
theorem xZ.trans{a b c:Rd}(h:xZ a b)(k:xZ b c):xZ a c:=⟨k.err.trans h.err,k.pos.trans h.pos,k.pl.trans h.pl⟩
section
variable {zs:List Int} {lo hi:Int} {es:List Int} {r:Rd} {s:Rs}
theorem Kp(h:r.err≠0):bS zs lo hi r=(lo,r):=by unfold bS;rw[if_pos h]
theorem Nz(h:r.err=0)(a:zs.length≤r.pos):bS zs lo hi r=(lo,{ r with err:=2,pl:=zs.length }):=by unfold bS;rw[if_neg (by simpa using h),if_pos a]
theorem Rx(h:r.err=0)(a:¬zs.length≤r.pos)(b:zs.getD r.pos 0<lo∨hi<zs.getD r.pos 0):bS zs lo hi r=(lo,{ r with err:=3,pl:=r.pos }):=by unfold bS;rw[if_neg (by simpa using h),if_neg a,if_pos b]
theorem Gp(h:r.err=0)(a:¬zs.length≤r.pos)(b:¬ (zs.getD r.pos 0<lo∨hi<zs.getD r.pos 0)):bS zs lo hi r=(zs.getD r.pos 0,{ r with pos:=r.pos+1 }):=by unfold bS;rw[if_neg (by simpa using h),if_neg a,if_neg b]
theorem vZ(h:s.err≠0):cN zs lo hi es s=(0,s):=by unfold cN;rw[if_pos h]
theorem uM(h:s.err=0)(a:zs.length≤s.pos):cN zs lo hi es s=(0,{ s with err:=2 }):=by unfold cN;rw[if_neg (by simpa using h),if_pos a]
theorem wQ(h:s.err=0)(a:¬zs.length≤s.pos)(b:zs.getD s.pos 0<lo∨hi<zs.getD s.pos 0∨zs.getD s.pos 0∈es):cN zs lo hi es s=(0,{ s with err:=3 }):=by unfold cN;rw[if_neg (by simpa using h),if_neg a,if_pos b]
theorem xN(h:s.err=0)(a:¬zs.length≤s.pos)(b:¬ (zs.getD s.pos 0<lo∨hi<zs.getD s.pos 0∨zs.getD s.pos 0∈es)):cN zs lo hi es s=(zs.getD s.pos 0,{ s with pos:=s.pos+1 }):=by unfold cN;rw[if_neg (by simpa using h),if_neg a,if_neg b]
end
theorem gT(zs:List Int)(lo hi:Int):iF zs (bS zs lo hi) (cN zs lo hi []):=by
 refine⟨fun r s h=>?_,fun r h=>by rw[Kp h];exact xZ.refl r,fun s h=>by rw[vZ h]⟩
 by_cases d:r.err=0
 ·have f:s.err=0:=h.err.trans d;have g:=h.pos d
  by_cases j:zs.length≤r.pos
  ·rw[Nz d j,uM f (by omega)];refine⟨⟨rfl,fun h=>by simp at h,fun _=>?_,h.le⟩,fun h=>by simp at h⟩;have:=h.le;show(s.pos:Int)=(zs.length:Int)
   omega
  ·by_cases i:zs.getD r.pos 0<lo∨hi<zs.getD r.pos 0
   ·rw[Rx d j i,wQ f (by omega) (by rw[g];exact i.elim .inl (fun h=>.inr (.inl h)))];refine⟨⟨rfl,fun h=>by simp at h,fun _=>?_,h.le⟩,fun h=>by simp at h⟩;show(s.pos:Int)=(r.pos:Int)
    rw[g]
   ·rw[Gp d j i,xN f (by omega) (by rw[g];exact fun h=>h.elim (fun a=>i (.inl a)) (fun b=>b.elim (fun a=>i (.inr a)) (fun c=>by simp at c)))];refine⟨⟨h.err,fun _=>?_,fun k=>absurd d k,by simp only;omega⟩,fun _=>?_⟩
    ·show s.pos+1=r.pos+1
     rw[g]
    ·show zs.getD s.pos 0=zs.getD r.pos 0
     rw[g]
 ·have f:s.err≠0:=by rw[h.err];exact d
  rw[Kp d,vZ f];exact⟨h,fun h=>absurd h d⟩
theorem Fm(zs:List Int)(lo hi:Int)(es:List Int)(F:Int→Rd→Rd)(hF:∀v r,F v r=if r.err=0∧v∈es then{ r with err:=3,pl:=(r.pos:Int)-1 }else r):iF zs (fun r=>((bS zs lo hi r).1,F (bS zs lo hi r).1 (bS zs lo hi r).2)) (cN zs lo hi es):=by
 have n:=gT zs lo hi;refine⟨fun r s h=>?_,fun r h=>?_,fun s h=>?_⟩
 ·have i:=n.step r s h;simp only[hF]
  by_cases j:(bS zs lo hi r).2.err=0
  ·obtain⟨f,p,k,x,y,z⟩:=Bt zs lo hi r j;have d:s.err=0:=h.err.trans f;have l:=h.pos f;have u:¬ (zs.getD s.pos 0<lo∨hi<zs.getD s.pos 0∨zs.getD s.pos 0∈([]:List Int)):=by rw[l];exact fun h=>h.elim (fun a=>by omega) (fun b=>b.elim (fun a=>by omega) (fun c=>by simp at c))
   by_cases m:zs.getD r.pos 0∈es
   ·rw[if_pos ⟨j,by rw[k];exact m⟩,wQ d (by omega) (by rw[l];exact .inr (.inr m))];refine⟨⟨rfl,fun h=>by simp at h,fun _=>?_,Tp zs lo hi r h.le⟩,fun h=>by simp at h⟩;show(s.pos:Int)=((bS zs lo hi r).2.pos:Int)-1
    omega
   ·rw[if_neg (fun g=>m (by rw[←k];exact g.2))];have o:cN zs lo hi es s=cN zs lo hi [] s:=by
     rw[xN d (by omega) u,xN d (by omega) (by rw[l];exact fun h=>h.elim (fun a=>by omega) (fun b=>b.elim (fun a=>by omega) (fun c=>m c)))]
    rw[o];exact i
  ·rw[if_neg (fun g=>j g.1)];refine⟨?_,fun g=>absurd g j⟩
   by_cases f:r.err=0
   ·have d:s.err=0:=h.err.trans f;have l:=h.pos f;have o:(cN zs lo hi es s).2=(cN zs lo hi [] s).2:=by
     by_cases p:zs.length≤r.pos
     ·rw[uM d (by omega),uM d (by omega)]
     ·by_cases k:zs.getD r.pos 0<lo∨hi<zs.getD r.pos 0
      ·rw[wQ d (by omega) (by rw[l];exact k.elim .inl (fun h=>.inr (.inl h))),wQ d (by omega) (by rw[l];exact k.elim .inl (fun h=>.inr (.inl h)))]
      ·rw[Gp f p k]at j;exact absurd f j
    rw[o];exact i.1
   ·have d:s.err≠0:=by rw[h.err];exact f
    have q:=i.1;rw[n.stuck s d]at q;rw[vZ d];exact q
 ·have i:=n.still r h;simp only[hF];rw[if_neg (fun g=>h (i.err▸g.1))];exact i
 ·rw[vZ h]
theorem iF.bind{α β γ:Type}{zs:List Int}{f:Rd→α×Rd}{g:Rs→α×Rs}{j:α→Rd→β×Rd}{k:α→Rs→β×Rs}(h:α→β→γ)(l:iF zs f g)(c:∀a,iF zs (j a) (k a)):
 iF zs (fun r=>(h (f r).1 (j (f r).1 (f r).2).1,(j (f r).1 (f r).2).2)) (fun s=>(h (g s).1 (k (g s).1 (g s).2).1,(k (g s).1 (g s).2).2)):=by
 refine⟨fun r s d=>?_,fun r m=>?_,fun s d=>?_⟩
 ·obtain⟨b,o⟩:=l.step r s d
  by_cases i:(f r).2.err=0
  ·have p:=o i;simp only[p];obtain⟨q,u⟩:=(c (f r).1).step _ _ b;exact⟨q,fun e=>by rw[u e]⟩
  ·have v:(g s).2.err≠0:=by rw[b.err];exact i
   have n:=(c (f r).1).still _ i;refine⟨?_,fun e=>absurd (n.err.symm.trans e) i⟩;simp only[(c (g s).1).stuck _ v];exact b.same n
 ·have b:=l.still r m;exact b.trans ((c _).still _ (by rw[b.err];exact m))
 ·simp only[l.stuck s d,(c _).stuck s d]
theorem wG{α:Type}{zs:List Int}{f:Rd→α×Rd}{g:Rs→α×Rs}(b:iF zs f g)(k:Nat):iF zs (bH f k) (gD g k):=by
 have c:∀k s,s.err≠0→(gD g k s).2=s:=by
  intro k s d
  induction k with
  | zero=>rfl
  | succ k ih=>show(g (gD g k s).2).2=s;rw[ih];exact b.stuck s d
 refine⟨fun r s h=>?_,fun r h=>?_,c k⟩
 ·induction k with
  | zero=>exact⟨h,fun _=>rfl⟩
  | succ k ih=>
   by_cases a:(bH f k r).2.err=0
   ·rw[jP f k r a];obtain⟨i,j⟩:=b.step _ _ ih.1;exact⟨i,fun e=>by show(gD g k s).1++[_]=_;rw[ih.2 a,j e]⟩
   ·rw[fT f k r a (k+1) (by omega)];refine⟨?_,fun e=>absurd e a⟩;show Rt zs _ (g (gD g k s).2).2
    rw[b.stuck _ (by rw[ih.1.err];exact a)];exact ih.1
 ·have:=fT f 0 r h k (by omega);rw[this];exact xZ.refl r
theorem Pb(zs:List Int)(n:Int):iF zs (iY zs n) (mA zs n):=iF.bind (fun a b=>(a,b)) (gT zs 0 13) (fun a=>gT zs 0 (if a=4 then n-1 else 255))
theorem Mt(zs:List Int):iF zs (eS zs) (lG zs):=iF.bind (fun p c=>Pr.mk p c) (gT zs 0 9) (fun _=>iF.bind (fun _ c=>c) (gT zs 1 20) (fun a=>wG (Pb zs a) a.toNat))
theorem Pq(zs:List Int)(c:Nat):iF zs (tH zs c) (nJ zs c):=by
 by_cases h:c=5
 ·subst h;refine Fm zs 1 7 [2,3] (fun v r=>gN v 3 (gN v 2 r)) ?_;intro v r;have j:∀v f (r:Rd),r.err=0→v=f→gN v f r={ r with err:=3,pl:=(r.pos:Int)-1 }:=fun v f r b d=>by unfold gN;rw[if_pos ⟨b,d⟩]
  have g:∀v f (r:Rd),¬ (r.err=0∧v=f)→gN v f r=r:=fun v f r h=>by unfold gN;rw[if_neg h]
  show gN v 3 (gN v 2 r)=_
  by_cases b:r.err=0
  ·by_cases d:v=2
   ·rw[j v 2 r b d,g _ _ _ (fun a=>by simp at a),if_pos ⟨b,by simp[d]⟩]
   ·rw[g v 2 r (fun a=>d a.2)]
    by_cases i:v=3
    ·rw[j v 3 r b i,if_pos ⟨b,by simp[i]⟩]
    ·rw[g v 3 r (fun a=>i a.2),if_neg (fun a=>by simpa[d,i]using a.2)]
  ·rw[g v 2 r (fun a=>b a.1),g v 3 r (fun a=>b a.1),if_neg (fun a=>b a.1)]
 ·have b:tH zs c=bS zs 1 7:=by funext r;unfold tH;rw[if_neg h]
  have d:nJ zs c=cN zs 1 7 []:=by funext s;unfold nJ;rw[if_neg h]
  rw[b,d];exact gT zs 1 7
theorem Ms(zs:List Int)(k:Nat):iF zs (cO zs k) (fL zs k):=by
 induction k with
 | zero=>exact⟨fun r s h=>⟨h,fun _=>rfl⟩,fun r _=>xZ.refl r,fun _ _=>rfl⟩
 | succ k ih=>exact iF.bind (fun l a=>l++[a]) ih (fun _=>Pq zs k)
theorem Mh(zs:List Int):iF zs (dP zs) (lE zs):=
 iF.bind (fun(a:Int) (x:Int×Int×List Int×List Pr)=>Pt.mk (a == 1) x.1 x.2.1 x.2.2.1 x.2.2.2) (gT zs 0 1) (fun _=>iF.bind (fun b x=>(b,x)) (gT zs 1 16) (fun _=>iF.bind (fun c x=>(c,x)) (gT zs 0 9) (fun _=>iF.bind (fun d q=>(d,q)) (Ms zs 6) (fun _=>iF.bind (fun _ q=>q) (gT zs 1 2) (fun f=>wG (Mt zs) f.toNat)))))
theorem Nt(zs:List Int)(n:Int):iF zs (fN zs n) (jT zs n):=
 iF.bind (fun(a:Int) (x:Int×Int)=>Ch.mk a x.1 x.2) (gT zs 0 (n-1)) (fun a=>iF.bind (fun b c=>(b,c)) (Fm zs 0 (n-1) [a] (fun v r=>gN v a r) (by intro v r;simp[gN])) (fun _=>gT zs 1 4))
def Ju(zs:List Int)(n frame fin:Int)(r:Rd):(Int×Int×Int)×Rd:=
 (((bS zs 0 (n-1) r).1,(bS zs fin (frame-1) (bS zs 0 (n-1) r).2).1,(bS zs 1 (frame-(bS zs fin (frame-1) (bS zs 0 (n-1) r).2).1) (bS zs fin (frame-1) (bS zs 0 (n-1) r).2).2).1),(bS zs 1 (frame-(bS zs fin (frame-1) (bS zs 0 (n-1) r).2).1) (bS zs fin (frame-1) (bS zs 0 (n-1) r).2).2).2)
def Hw(zs:List Int)(n frame fin:Int)(s:Rs):(Int×Int×Int)×Rs:=
 (((cN zs 0 (n-1) [] s).1,(cN zs fin (frame-1) [] (cN zs 0 (n-1) [] s).2).1,(cN zs 1 (frame-(cN zs fin (frame-1) [] (cN zs 0 (n-1) [] s).2).1) [] (cN zs fin (frame-1) [] (cN zs 0 (n-1) [] s).2).2).1),(cN zs 1 (frame-(cN zs fin (frame-1) [] (cN zs 0 (n-1) [] s).2).1) [] (cN zs fin (frame-1) [] (cN zs 0 (n-1) [] s).2).2).2)
theorem Kw(zs:List Int)(n frame fin:Int):iF zs (Ju zs n frame fin) (Hw zs n frame fin):=
 iF.bind (fun a x=>(a,x.1,x.2)) (gT zs 0 (n-1)) (fun _=>iF.bind (fun b c=>(b,c)) (gT zs fin (frame-1)) (fun b=>gT zs 1 (frame-b)))
theorem Qx(zs:List Int)(n frame:Int)(r:Rd):cX zs n frame r=(⟨(Ju zs n frame r.fin r).1.1,(Ju zs n frame r.fin r).1.2.1,(Ju zs n frame r.fin r).1.2.2⟩,{ (Ju zs n frame r.fin r).2 with fin:=(Ju zs n frame r.fin r).1.2.1+(Ju zs n frame r.fin r).1.2.2 }):=rfl
theorem Ev(zs:List Int)(n frame:Int)(s:Rs)(fin:Int):gE zs n frame (s,fin)=(⟨(Hw zs n frame fin s).1.1,(Hw zs n frame fin s).1.2.1,(Hw zs n frame fin s).1.2.2⟩,((Hw zs n frame fin s).2,(Hw zs n frame fin s).1.2.1+(Hw zs n frame fin s).1.2.2)):=rfl
def Sa(zs:List Int)(n frame:Int)(k:Nat)(r:Rd):List Wn×Rd:=bH (cX zs n frame) k { r with fin:=0 }
def pgWs(zs:List Int)(n frame:Int)(k:Nat)(s:Rs):List Wn×Rs:=((gD (gE zs n frame) k (s,0)).1,(gD (gE zs n frame) k (s,0)).2.1)
theorem Se(zs:List Int)(n frame:Int)(k:Nat):iF zs (Sa zs n frame k) (pgWs zs n frame k):=by
 have c:∀p:Rs×Int,p.1.err≠0→(gE zs n frame p).2.1=p.1:=fun p j=>by
  obtain⟨s,fin⟩:=p;rw[Ev];exact(Kw zs n frame fin).stuck s j
 refine⟨fun r s h=>?_,fun r h=>?_,fun s h=>?_⟩
 ·have m:Rt zs { r with fin:=0 } s:=⟨h.err,h.pos,h.pl,h.le⟩;have d:Rt zs (bH (cX zs n frame) k { r with fin:=0 }).2 (gD (gE zs n frame) k (s,0)).2.1∧((bH (cX zs n frame) k { r with fin:=0 }).2.err=0→(gD (gE zs n frame) k (s,0)).1=(bH (cX zs n frame) k { r with fin:=0 }).1∧(gD (gE zs n frame) k (s,0)).2.2=(bH (cX zs n frame) k { r with fin:=0 }).2.fin):=by
   induction k with
   | zero=>exact⟨m,fun _=>⟨rfl,rfl⟩⟩
   | succ k ih=>
    by_cases a:(bH (cX zs n frame) k { r with fin:=0 }).2.err=0
    ·rw[jP _ k _ a];obtain⟨f,o⟩:=ih;obtain⟨g,i⟩:=o a;generalize bH (cX zs n frame) k { r with fin:=0 }=q at *;have u:gD (gE zs n frame) (k+1) (s,0)=((gD (gE zs n frame) k (s,0)).1++[(gE zs n frame (gD (gE zs n frame) k (s,0)).2).1],(gE zs n frame (gD (gE zs n frame) k (s,0)).2).2):=rfl;rw[u];generalize gD (gE zs n frame) k (s,0)=P at *;obtain⟨l,x,fin⟩:=P;simp only at f g i;subst i;rw[Qx,Ev];obtain⟨b,v⟩:=(Kw zs n frame q.2.fin).step _ _ f;refine⟨⟨b.err,b.pos,b.pl,b.le⟩,fun e=>?_⟩;have:=v e;rw[g,this];exact⟨rfl,rfl⟩
    ·rw[fT _ k _ a (k+1) (by omega)];refine⟨?_,fun e=>absurd e a⟩;show Rt zs _ (gE zs n frame (gD (gE zs n frame) k (s,0)).2).2.1
     rw[c _ (by rw[ih.1.err];exact a)];exact ih.1
  exact⟨d.1,fun e=>(d.2 e).1⟩
 ·have:=fT (cX zs n frame) 0 { r with fin:=0 } h k (by omega);unfold Sa;rw[this];exact⟨rfl,rfl,rfl⟩
 ·show(gD (gE zs n frame) k (s,0)).2.1=s
  induction k with
  | zero=>rfl
  | succ k ih=>
   show(gE zs n frame (gD (gE zs n frame) k (s,0)).2).2.1=s
   rw[c _ (by rw[ih];exact h),ih]
theorem Mq(zs:List Int)(n frame:Int):iF zs (fun r=>Sa zs n frame (bS zs 1 8 r).1.toNat (bS zs 1 8 r).2) (oV zs n frame):=iF.bind (fun _ q=>q) (gT zs 1 8) (fun a=>Se zs n frame a.toNat)
def Tg(zs:List Int)(g:Rd):Cf×Rd:=
 let r1:=(bS zs 72 72 g).2
 let n:=bS zs 1 4 r1
 let f:=bS zs 1 64 n.2
 let b:=bS zs 0 200 f.2
 let a:=bH (dP zs) n.1.toNat b.2
 let c:=Sa zs n.1 f.1 (bS zs 1 8 a.2).1.toNat (bS zs 1 8 a.2).2
 let k:=bS zs 0 4 c.2
 let d:=bH (fN zs n.1) k.1.toNat k.2
 (⟨f.1,b.1,a.1,c.1,d.1⟩,d.2)
theorem Qc(zs:List Int):Tg zs ⟨0,0,0,0⟩=pG zs:=rfl
theorem Nd(zs:List Int):iF zs (Tg zs) (jK zs):=
 iF.bind (fun _ x=>x) (gT zs 72 72) (fun _=>iF.bind (fun _ x=>x) (gT zs 1 4) (fun n=>iF.bind (fun(f:Int) (x:Int×List Pt×List Wn×List Ch)=>Cf.mk f x.1 x.2.1 x.2.2.1 x.2.2.2) (gT zs 1 64) (fun f=>iF.bind (fun a x=>(a,x)) (gT zs 0 200) (fun _=>iF.bind (fun b x=>(b,x)) (wG (Mh zs) n.toNat) (fun _=>iF.bind (fun c x=>(c,x)) (Mq zs n f) (fun _=>iF.bind (fun _ x=>x) (gT zs 0 4) (fun k=>wG (Nt zs n) k.toNat)))))))
theorem Jl(zs:List Int):lH zs=bQ zs:=by
 have m:Rt zs ⟨0,0,0,0⟩ ⟨0,0⟩:=⟨rfl,fun _=>rfl,fun h=>absurd rfl h,Nat.zero_le _⟩;have k:=(Nd zs).step _ _ m;rw[Qc]at k;obtain⟨f,n⟩:=k;unfold lH bQ Ci;generalize pG zs=C at *;generalize jK zs ⟨0,0⟩=b at *
 by_cases c:C.2.err=0
 ·have d:b.2.err=0:=f.err.trans c;have j:=f.pos c;have o:=n c;have a:gH zs b.2=if zs.length<C.2.pos+4 then⟨zs.length,2⟩else if bF 0 ((zs.drop C.2.pos).take 4)≠eN (zs.take C.2.pos)then⟨C.2.pos,5⟩else⟨C.2.pos+4,0⟩:=by
   unfold gH;rw[if_neg (show ¬b.2.err≠0 by simpa using d),j,d]
  simp only;rw[if_neg (show ¬C.2.err≠0 by simpa using c)]
  by_cases g:zs.length<C.2.pos+4
  ·rw[if_pos g]at a;rw[a,if_pos g];simp[kU]
  ·rw[if_neg g]at a;rw[if_neg g]
   by_cases i:bF 0 ((zs.drop C.2.pos).take 4)≠eN (zs.take C.2.pos)
   ·rw[if_pos i]at a;rw[a,if_pos i];simp[kU]
   ·rw[if_neg i]at a;rw[a,if_neg i]
    by_cases l:C.2.pos+4<zs.length
    ·simp[kU,l]
    ·simp[kU,l,o]
 ·have d:b.2.err≠0:=by rw[f.err];exact c
  have j:=f.pl c;have a:gH zs b.2=b.2:=by unfold gH;rw[if_pos d]
  have p:kU zs b.2=b.2:=by unfold kU;rw[if_neg (fun q=>d q.1)]
  rw[a,p,if_pos d];simp only;rw[if_pos c,j,f.err]
end
section
open Go.RowKit
theorem wU{α:Type}(F:α→List Value)(b:Nat)(hF:∀a,(F a).length=b)(l:List α)(i:Nat)(a:α)(hi:l[i]?=some a)(f:Nat)(d:f<b):(l.flatMap F)[i*b+f]?=(F a)[f]?:=by
 induction l generalizing i with
 | nil=>simp at hi
 | cons x l ih=>
  rw[List.flatMap_cons];cases i with
  | zero=>
   simp at hi;subst hi;rw[Nat.zero_mul,Nat.zero_add,List.getElem?_append_left (by rw[hF];exact d)]
  | succ i=>
   have c:=hF x;rw[List.getElem?_append_right (by rw[c,Nat.add_mul];omega),c,show(i+1)*b+f-b=i*b+f from by rw[Nat.add_mul];omega];exact ih i (by simpa using hi)
theorem iI{w:World}{base:Nat}{e:TypeId}{b:Nat}{v:Value}{n:Nat}{α:Type}(F:α→List Value)(hF:∀a,(F a).length=b)(l:List α)(j:l.length=n)(h:w.ownsRow base e b v n (l.flatMap F)):n≤9223372036854775807∧∃ad c,v=.slice ad n c∧∀i a,l[i]?=some a→∃g,ad=some ⟨g,0,none⟩∧∀f,f<b→w.cell? ⟨g,i*b+f,none⟩=(F a)[f]?:=by
 rcases h.2 with⟨k,m⟩| ⟨g,cap,cur,d,q,u,x,o,_⟩
 ·subst m;refine⟨by omega,none,0,k,fun i a hi=>?_⟩;rw[List.length_eq_zero_iff.1 j]at hi;simp at hi
 ·refine⟨by unfold maxLen at o;omega,some ⟨g,0,none⟩,cap,d,fun i a hi=>⟨g,rfl,fun f p=>?_⟩⟩;subst d;have y:i<l.length:=(List.getElem?_eq_some_iff.1 hi).1;rw[World.ownsRow.cellAt h (i*b+f) (by
   have:(i+1)*b≤n*b:=Nat.mul_le_mul_right b (by omega);rw[Nat.add_mul]at this;omega)]
  exact wU F b hF l i a hi f p
end
section
open Go.RowKit
def cA(x:Nat)(bs:List Int)(s:Nat)(w:World):Prop:=w.ownsRow 0 259 6 (.slice (some ⟨x,0,none⟩) 8 8) 8 (mN (uO bs s 8))
theorem cA.below{x:Nat}{bs:List Int}{s:Nat}{w w':World}(h:cA x bs s w)(a:Below w.heap.size w w'):cA x bs s w':=aO h (fun b e=>a.block b (World.ownsRow.lt h b e).2)
theorem cA.lt{x:Nat}{bs:List Int}{s:Nat}{w:World}(h:cA x bs s w):x<w.heap.size:=(World.ownsRow.lt h x rfl).2
theorem cA.cell{x:Nat}{bs:List Int}{s:Nat}{w:World}(h:cA x bs s w)(i o:Nat)(hi:i<8)(d:o<6):w.cell? ⟨x,i*6+o,none⟩=some (.int .i64 (cD bs s i o)):=by
 obtain⟨_,ad,c,b,f⟩:=iI xB (fun _=>rfl) (uO bs s 8) rfl h;simp at b;obtain⟨g,a,j⟩:=f i (cD bs s i) (by rcases(show i=0∨i=1∨i=2∨i=3∨i=4∨i=5∨i=6∨i=7 from by omega)with rfl| rfl| rfl| rfl| rfl| rfl| rfl| rfl<;>rfl);rw[←b.1]at a;simp at a;subst a;rw[j o d];rcases(show o=0∨o=1∨o=2∨o=3∨o=4∨o=5 from by omega)with rfl| rfl| rfl| rfl| rfl| rfl<;>rfl
theorem Bf(x i:Nat)(w:World)(hi:i<8):
 Calls Tryz.prog 170 #[.agg #[.slice (some ⟨x,0,none⟩) 8 8],.int .i64 i] w fun e w'=>e=.returned (.pointer (some ⟨x,i*6,none⟩))∧Below w.heap.size w w':=by
 have a:Hid (Below w.heap.size w (w.alloc (.cells #[.slice (some ⟨x,0,none⟩) 8 8] 181))):=aG _ _
 go_enter Tryz.func170,Tryz.ntmps170
 go_wp2
 go_ret
 exact⟨by simp,a.out⟩
theorem Au(a b d f g i j:Int)(w:World):
 Calls Tryz.prog 171 #[.agg #[.int .i64 a,.int .i64 b,.int .i64 d,.int .i64 f,.int .i64 g,.int .i64 i],.int .i64 j] w fun e w'=>e=.returned (.bool (a == 3&&b == j))∧Below w.heap.size w w':=by
 have k:Hid (Below w.heap.size w (w.alloc (.cells #[.int .i64 a,.int .i64 b,.int .i64 d,.int .i64 f,.int .i64 g,.int .i64 i] 259))):=aG _ _
 by_cases h:a=3
 ·have c:(a == 3)=true:=by simp[h]
  clear h
  go_enter Tryz.func171,Tryz.ntmps171
  go_wp2
  go_ret
  exact⟨by simp[c],k.out⟩
 ·have c:(a == 3)=false:=by simp[h]
  clear h
  go_enter Tryz.func171,Tryz.ntmps171
  go_wp2
  go_ret
  exact⟨by simp[c],k.out⟩
theorem kZ(x:Nat)(bs:List Int)(s:Nat)(w:World)(h:cA x bs s w):
 Calls Tryz.prog 125 #[.agg #[.int .i64 s,.slice (some ⟨x,0,none⟩) 8 8]] w fun e w'=>e=.returned (.bool (cH bs s))∧Below w.heap.size w w':=by
 have j:=aI h;have k:Hid (cH bs s=(cD bs s 0 0 == 3&&cD bs s 0 1 == 2)):=rfl;have d:Below w.heap.size w (w.alloc (.cells #[.int .i64 s,.slice (some ⟨x,0,none⟩) 8 8] 183)):=aG _ _;have l:=aI d;have f:=aI (Bf x 0 (w.alloc (.cells #[.int .i64 s,.slice (some ⟨x,0,none⟩) 8 8] 183)) (by omega));clear h d
 go_enter Tryz.func125,Tryz.ntmps125
 go_wp2_with fail
 refine f.out.mono ?_;rintro e a ⟨rfl,g⟩;have c:Hid (Below w.heap.size w a):=l.out.trans (g.mono (by simp));have b:=j.out.below c.out;have u:a.cell? ⟨x,0,none⟩=some (.int .i64 (cD bs s 0 0)):=by simpa using b.cell 0 0 (by omega) (by omega)
 have c1:a.cell? ⟨x,1,none⟩=some (.int .i64 (cD bs s 0 1)):=by simpa using b.cell 0 1 (by omega) (by omega)
 have c2:a.cell? ⟨x,2,none⟩=some (.int .i64 (cD bs s 0 2)):=by simpa using b.cell 0 2 (by omega) (by omega)
 have v:a.cell? ⟨x,3,none⟩=some (.int .i64 (cD bs s 0 3)):=by simpa using b.cell 0 3 (by omega) (by omega)
 have y:a.cell? ⟨x,4,none⟩=some (.int .i64 (cD bs s 0 4)):=by simpa using b.cell 0 4 (by omega) (by omega)
 have z:a.cell? ⟨x,5,none⟩=some (.int .i64 (cD bs s 0 5)):=by simpa using b.cell 0 5 (by omega) (by omega)
 have m:=aI (fun n W=>Au (cD bs s 0 0) (cD bs s 0 1) (cD bs s 0 2) (cD bs s 0 3) (cD bs s 0 4) (cD bs s 0 5) n W);have o:=c.out.size;clear g b f;generalize cD bs s 0 0=A at *;generalize cD bs s 0 1=B at *;generalize cD bs s 0 2=C at *;generalize cD bs s 0 3=D at *;generalize cD bs s 0 4=E at *;generalize cD bs s 0 5=F at *;go_wp2_with fail
 refine(m.out 2 a).mono ?_;rintro e p ⟨rfl,i⟩;have q:Hid (Below w.heap.size w p):=c.out.trans (i.mono o);clear i;go_wp2
 go_ret
 exact⟨by rw[k.out];rfl,q.out⟩
def fG(bs:List Int)(s:Nat)(k:Nat):Int:=if cH bs s=true then cY bs s 0 k else 0
theorem yM(x:Nat)(bs:List Int)(s:Nat)(w:World)(h:cA x bs s w):
 Calls Tryz.prog 153 #[.agg #[.int .i64 s,.slice (some ⟨x,0,none⟩) 8 8]] w fun e w'=>e=.returned (.agg #[.int .i64 (fG bs s 0),.int .i64 (fG bs s 1),.int .i64 (fG bs s 2),.int .i64 (fG bs s 3),.int .i64 (fG bs s 4)])∧Below w.heap.size w w':=by
 have H:=aI h;obtain⟨f,g⟩:∃f,f=(w.alloc (.cells #[.int .i64 s,.slice (some ⟨x,0,none⟩) 8 8] 183)).alloc (.cells #[.int .i64 0,.int .i64 0,.int .i64 0,.int .i64 0,.int .i64 0] 52):=⟨_,rfl⟩;have m:Below w.heap.size w f:=by rw[g];exact(aG _ _).alloc (by simp) _
 have O:f.heap.size=w.heap.size+2:=by rw[g];simp
 have p:f.heap[w.heap.size]?=some (.cells #[.int .i64 s,.slice (some ⟨x,0,none⟩) 8 8] 183 (0,0)):=by rw[g,Below.heap_alloc _ _ _ (by simp)];exact heap_alloc_new w _
 have q:f.heap[w.heap.size+1]?=some (.cells #[.int .i64 0,.int .i64 0,.int .i64 0,.int .i64 0,.int .i64 0] 52 (0,0)):=by
  rw[g];have:=heap_alloc_new (w.alloc (.cells #[.int .i64 s,.slice (some ⟨x,0,none⟩) 8 8] 183)) (.cells #[.int .i64 0,.int .i64 0,.int .i64 0,.int .i64 0,.int .i64 0] 52)
  rwa [show(w.alloc (.cells #[.int .i64 s,.slice (some ⟨x,0,none⟩) 8 8] 183)).heap.size=w.heap.size+1 from by simp]at this
 have u:=aI (kZ x bs s f (h.below m));have y:=aI m;have z:=aI p;have A:=aI q;have I:=aI g;have B:Hid (∀k,fG bs s k=if cH bs s=true then cY bs s 0 k else 0):=fun k=>rfl
 clear h m p q g
 go_enter Tryz.func153,Tryz.ntmps153
 go_wp2_with fail
 rw[←I.out];refine u.out.mono ?_;rintro e d ⟨rfl,j⟩;have P:=j.size;have C:Hid (Below w.heap.size w d):=y.out.trans (j.mono (by omega));have D:=(j.block _ (by omega)).trans z.out;have E:=(j.block _ (by omega)).trans A.out;have Q:d.cell? ⟨w.heap.size,1,none⟩=some (.slice (some ⟨x,0,none⟩) 8 8):=aD D;have a:=aI E;clear j u D E z A y;cases hd:cH bs s with
 | false=>
  have z0:d.cell? ⟨w.heap.size+1,0,none⟩=some (.int .i64 0):=aD a.out;have z1:d.cell? ⟨w.heap.size+1,1,none⟩=some (.int .i64 0):=aD a.out;have z2:d.cell? ⟨w.heap.size+1,2,none⟩=some (.int .i64 0):=aD a.out;have z3:d.cell? ⟨w.heap.size+1,3,none⟩=some (.int .i64 0):=aD a.out;have n:d.cell? ⟨w.heap.size+1,4,none⟩=some (.int .i64 0):=aD a.out;have J:=aJ a.out 0;have L:=aJ a.out 1;have M:=aJ a.out 2;have N:=aJ a.out 3;have f4:=aJ a.out 4;have o:=aI hd;clear hd;go_wp2
  refine bodyPost_ret (v:=.agg #[.int .i64 0,.int .i64 0,.int .i64 0,.int .i64 0,.int .i64 0]) (by simp[results,Tryz.results153,go_sem,z0,z1,z2,z3,n]) rfl ?_;refine⟨by simp[B.out,o.out],?_⟩
  iterate 5 refine Below.thenSet ?_ (by omega) _ _
  exact C.out
 | true=>
  have F:=aI (Bf x 0 d (by omega));have o:=aI hd;clear hd;go_wp2_with fail
  refine F.out.mono ?_;rintro e b ⟨rfl,l⟩;have R:=l.size;have G:Hid (Below w.heap.size w b):=C.out.trans (l.mono (by omega));have c:=(l.block _ (by omega)).trans a.out;have i:=H.out.below G.out;have c1:b.cell? ⟨x,1,none⟩=some (.int .i64 (cY bs s 0 0)):=by simpa[cD]using i.cell 0 1 (by omega) (by omega)
  have c2:b.cell? ⟨x,2,none⟩=some (.int .i64 (cY bs s 0 1)):=by simpa[cD]using i.cell 0 2 (by omega) (by omega)
  have S:b.cell? ⟨x,3,none⟩=some (.int .i64 (cY bs s 0 2)):=by simpa[cD]using i.cell 0 3 (by omega) (by omega)
  have T:b.cell? ⟨x,4,none⟩=some (.int .i64 (cY bs s 0 3)):=by simpa[cD]using i.cell 0 4 (by omega) (by omega)
  have U:b.cell? ⟨x,5,none⟩=some (.int .i64 (cY bs s 0 4)):=by simpa[cD]using i.cell 0 5 (by omega) (by omega)
  have z0:b.cell? ⟨w.heap.size+1,0,none⟩=some (.int .i64 0):=aD c;have z1:b.cell? ⟨w.heap.size+1,1,none⟩=some (.int .i64 0):=aD c;have z2:b.cell? ⟨w.heap.size+1,2,none⟩=some (.int .i64 0):=aD c;have z3:b.cell? ⟨w.heap.size+1,3,none⟩=some (.int .i64 0):=aD c;have n:b.cell? ⟨w.heap.size+1,4,none⟩=some (.int .i64 0):=aD c;have J:=aJ c 0;have L:=aJ c 1;have M:=aJ c 2;have N:=aJ c 3;have f4:=aJ c 4;clear l c i F a;go_wp2
  refine bodyPost_ret (v:=.agg #[.int .i64 (cY bs s 0 0),.int .i64 (cY bs s 0 1),.int .i64 (cY bs s 0 2),.int .i64 (cY bs s 0 3),.int .i64 (cY bs s 0 4)]) (by simp[results,Tryz.results153,go_sem,z0,z1,z2,z3,n]) rfl ?_;refine⟨by simp[B.out,o.out],?_⟩
  iterate 5 refine Below.thenSet ?_ (by omega) _ _
  exact G.out
def eC(bs:List Int)(s:Nat):Int:=fG bs s 3
theorem kH(x:Nat)(bs:List Int)(s:Nat)(w:World)(h:cA x bs s w):
 Calls Tryz.prog 126 #[.agg #[.int .i64 s,.slice (some ⟨x,0,none⟩) 8 8]] w fun e w'=>e=.returned (.int .i64 (eC bs s))∧Below w.heap.size w w':=by
 have a:Below w.heap.size w (w.alloc (.cells #[.int .i64 s,.slice (some ⟨x,0,none⟩) 8 8] 183)):=aG _ _;have b:=aI (yM x bs s _ (h.below a));have f:=aI a;have g:Hid (eC bs s=fG bs s 3):=rfl;clear h a;generalize fG bs s 0=i at *;generalize fG bs s 1=r1 at *;generalize fG bs s 2=j at *;generalize fG bs s 3=c at *;generalize fG bs s 4=k at *;have n:∀W:World,(Instr.field 52 (.agg #[.int .i64 i,.int .i64 r1,.int .i64 j,.int .i64 c,.int .i64 k]) 3).run Tryz.prog W=.ok (.int .i64 c) W:=fun W=>by kernel_rfl
 go_enter Tryz.func126,Tryz.ntmps126
 go_wp2_with fail
 refine b.out.mono ?_;rintro e l ⟨rfl,d⟩;have m:Hid (Below w.heap.size w l):=f.out.trans (d.mono (by simp));clear d b;go_wp2
 go_ret
 exact⟨by rw[g.out];rfl,m.out⟩
end
end Go.Proofs.YtnjlbgolnbdkaaaGreat
