/- All, with short names -/
import Derived.Test.YtnjlbgolnbdkaaaGreatP40
import Derived.Deep.RegionHeld
set_option maxRecDepth 100000
set_option maxHeartbeats 16000000
namespace Go.Proofs.YtnjlbgolnbdkaaaGreat
open Go Go.RowKit
def kY(base:Nat)(p:Nat→Value)(g:Nat)(n:Int)(h:Nat→List eI)(kx i j:Nat)(k:bN)(l:eZ)(st:aQ)(w w':World):Prop:=
 ∃L' a m c o d q,We base p L' g a m c kx i j k l o d q w'∧(0≤a∧a≤n+2)∧(∀f,(c f).length≤(h f).length+8)∧d.now≤st.now+1000∧aH (fun b=>base≤b) w w'
theorem Ex(base:Nat)(p:Nat→Value)(b0:Nat→Nat)(j:Nat)(n:Int)(Y:Nat→Value)(D:Nat→List eI)(kx l s:Nat)(m:bN)(o:eZ)(Q:Nat→Value)(st:aQ)(F:Fl)(a b c:Int)(w:World)
 (h:We base p b0 j n Y D kx l s m o Q st F w) (Z:base≤w.heap.size) (b1:0≤n):
 Calls Tryz.prog 33 #[.pointer (some ⟨j,0,none⟩),.agg #[.int .i64 2,.int .i64 a,.int .i64 b,.int .i64 c]] w fun e w'=>e=.returned (.bool true)∧kY base p j n D kx l s m o st w w':=by
 obtain⟨g,G⟩:∃g,g=w.alloc (.cells #[.int .i64 2,.int .i64 a,.int .i64 b,.int .i64 c] 96):=⟨_,rfl⟩;have T:Below w.heap.size w g:=aE G;have A:g.heap[w.heap.size]?=some (.cells #[.int .i64 2,.int .i64 a,.int .i64 b,.int .i64 c] 96 (0,0)):=aF G;have x:=h.below Z T;have b2:base≤g.heap.size:=Nat.le_trans Z T.size;have b3:g.cell? ⟨w.heap.size,0,none⟩=some (.int .i64 2):=aD A;have H:g.cell? ⟨w.heap.size,1,none⟩=some (.int .i64 a):=aD A;have I:g.cell? ⟨w.heap.size,2,none⟩=some (.int .i64 b):=aD A;have J:g.cell? ⟨w.heap.size,3,none⟩=some (.int .i64 c):=aD A;have L:=x.1.cells.2.2.2;have a0:=x.1.cells.2.1;have a1:=lt_of_block A;have b4:=aN L;obtain⟨r,M⟩:∃r,r=dD a b c (st,F):=⟨_,rfl⟩;have B:=zH a b c (st,F) ⟨h.run,h.ro.ok⟩;rw[←M]at B;have b5:¬Dm m l st w.heap.size:=fun e=>by have:=h.kn.mo.lt _ e;omega
 have b6:¬Rm o Q s st w.heap.size:=fun e=>by have:=h.ro.lt _ e;omega
 have a2:Hid (Calls Tryz.prog 26 #[.pointer (some ⟨kx,0,none⟩),.int .i64 a,.int .i64 b,.int .i64 c] g.drew fun e w'=>e=.returned (.int .i64 r.1)∧Kn w' kx m l r.2.1 r.2.2∧aH (Dm m l st) g w'):=by
  rw[M];refine(Gl kx m l st F a b c g.drew (x.1.kn.keep2 (fun _ _=>rfl) rfl)).mono ?_;rintro e w' ⟨U,z,V⟩;exact⟨U,z,(aH.ofDrew g).andThen V⟩
 have C:Hid (∀d,aH (Dm m l st) g d→Ro d o Q s st F∧d.heap[j]?=g.heap[j]?∧d.heap[w.heap.size]?=g.heap[w.heap.size]?):=fun d y=>⟨(x.1.mid y).1,(x.1.mid y).2,y.block _ a1 b5⟩
 have a3:Hid (∀d,aH (Dm m l st) g d→Calls Tryz.prog 67 #[.pointer (some ⟨o.kb,0,none⟩),.int .i64 a,.int .i64 b,.int .i64 c] d.drew fun e w'=>e=.returned (.int .i64 r.1)∧Jq o Q s st d r.2.1 r.2.2 w'):=fun d y=>by
  rw[M];refine(Es o Q s st F a b c d.drew ((x.1.mid y).1.keep (fun _ _=>rfl))).mono ?_;rintro e w' ⟨U,N,z,V,b7⟩;exact⟨U,N,z,(aH.ofDrew d).andThen V,b7⟩
 have a4:Hid (∀d i,Kn d kx m l r.2.1 r.2.2→aH (Dm m l st) g d→Jq o Q s st d r.2.1 r.2.2 i→kY base p j n D kx l s m o st w i):=fun d i b8 b9 ⟨N,a5,O,a6⟩=>by
  have:=x.1.step b2 b8 b9 a5 O a6 B.len B.cf B.run.1;exact⟨_,n,Y,D,N,_,_,this.1,⟨b1,by omega⟩,fun f=>by omega,B.now.2,x.2.andThen this.2⟩
 have a7:Hid (∀d i,aH (Dm m l st) g d→Jq o Q s st d r.2.1 r.2.2 i→i.heap[j]?=d.heap[j]?∧i.heap[w.heap.size]?=d.heap[w.heap.size]?):=fun d i y ⟨N,a5,O,a6⟩=>by
  refine⟨O.block j (Nat.lt_of_lt_of_le b4 y.size) (fun e=>?_),O.block _ (Nat.lt_of_lt_of_le a1 y.size) b6⟩;rcases Rm.blk e with z| z
  ·have:=(h.rl j z).1;rw[h.hnd.lab]at this;omega
  ·have:=h.gl.1;rw[←z,h.hnd.lab]at this;omega
 have c6:(r.1 == r.1)=true:=by simp
 have c0:=aI qY;have c1:=aI G;clear G x T A B M h;generalize r.1=rc at *
 go_enter Tryz.func33,Tryz.ntmps33
 go_wp2_with fail
 rw[←c1.out];generalize w.heap.size=q at *
 go_cut [5]from 24 to 34 (fun v a8=>v=.int .i64 rc∧Kn a8 kx m l r.2.1 r.2.2∧aH (Dm m l st) g a8)
 case first=>
  go_region_held (fun W:World=>W.cell? ⟨j,0,none⟩=some (.pointer (some ⟨kx,0,none⟩))∧W.cell? ⟨q,1,none⟩=some (.int .i64 a)∧W.cell? ⟨q,2,none⟩=some (.int .i64 b)∧W.cell? ⟨q,3,none⟩=some (.int .i64 c))
   ((first| (with_reducible assumption)| exact⟨L,H,I,J⟩))
   (first| (go_at_call 26;refine a2.out.mono ?_;rintro e k ⟨rfl,P,u⟩;have c2:k.cell? ⟨j,0,none⟩=some (.pointer (some ⟨kx,0,none⟩))∧k.cell? ⟨q,1,none⟩=some (.int .i64 a)∧k.cell? ⟨q,2,none⟩=some (.int .i64 b)∧k.cell? ⟨q,3,none⟩=some (.int .i64 c):=⟨(World.cell?_of_block (C.out k u).2.1).trans L,(World.cell?_of_block (C.out k u).2.2).trans H,(World.cell?_of_block (C.out k u).2.2).trans I,(World.cell?_of_block (C.out k u).2.2).trans J⟩))
  all_goals (go_wp2_with fail;go_meet;exact⟨by first| rfl| simp,P,u⟩)
 case rest=>
  obtain⟨rfl,P,u⟩:=hcut;have E:=C.out wc u;have z2:=(World.cell?_of_block E.2.1).trans a0;have z1:=(World.cell?_of_block E.2.2).trans H;have a9:=(World.cell?_of_block E.2.2).trans I;have z3:=(World.cell?_of_block E.2.2).trans J;have c3:=aI (a3.out wc u);have c4:Hid (∀i,Jq o Q s st wc r.2.1 r.2.2 i→kY base p j n D kx l s m o st w i):=fun i X=>a4.out wc i P u X
  have R:Hid (∀i,Jq o Q s st wc r.2.1 r.2.2 i→i.heap[j]?=wc.heap[j]?∧i.heap[q]?=wc.heap[q]?):=fun i X=>a7.out wc i u X
  clear P u E a4 a7 a3 C a2 b3 H I J L a0;generalize r.2.1=c7 at *;generalize r.2.2=c8 at *;go_wp2_with fail
  go_region_held (fun W:World=>W.cell? ⟨j,2,none⟩=some (.pointer (some ⟨o.kb,0,none⟩))∧W.cell? ⟨q,1,none⟩=some (.int .i64 a)∧W.cell? ⟨q,2,none⟩=some (.int .i64 b)∧W.cell? ⟨q,3,none⟩=some (.int .i64 c))
   ((first| (with_reducible assumption)| exact⟨z2,z1,a9,z3⟩))
   (first
    | (go_at_call 61;refine(c0.out _ _).mono ?_;rintro e c9 ⟨rfl,c5⟩;obtain rfl:=c5.symm)
    | (go_at_call 67;refine c3.out.mono ?_;rintro e k ⟨rfl,S⟩;have c2:k.cell? ⟨j,2,none⟩=some (.pointer (some ⟨o.kb,0,none⟩))∧k.cell? ⟨q,1,none⟩=some (.int .i64 a)∧k.cell? ⟨q,2,none⟩=some (.int .i64 b)∧k.cell? ⟨q,3,none⟩=some (.int .i64 c):=⟨(World.cell?_of_block (R.out k S).1).trans z2,(World.cell?_of_block (R.out k S).2).trans z1,(World.cell?_of_block (R.out k S).2).trans a9,(World.cell?_of_block (R.out k S).2).trans z3⟩))
  all_goals (go_wp2;go_ret;exact⟨by first| rfl| simp,c4.out _ (by assumption)⟩)
theorem Ee(base:Nat)(p:Nat→Value)(U:Nat→Nat)(i:Nat)(n:Int)(u:Nat→Value)(j:Nat→List eI)(kx o q:Nat)(r:bN)(s:eZ)(Q:Nat→Value)(st:aQ)(F:Fl)(g a b c:Int)(w:World)
 (h:We base p U i n u j kx o q r s Q st F w) (A:base≤w.heap.size) (x:0≤n) (X:n+1≤100000000000) (B:∀f,(j f).length+4≤100000000000) (C:st.now+1000≤1000000000000) (Y:g≤5) (Z:-9223372036854775808≤a∧a≤9223372036854775807):
 Calls Tryz.prog 33 #[.pointer (some ⟨i,0,none⟩),.agg #[.int .i64 g,.int .i64 a,.int .i64 b,.int .i64 c]] w fun e w'=>e=.returned (.bool true)∧kY base p i n j kx o q r s st w w':=by
 by_cases D:g=2
 ·subst D;exact Ex base p U i n u j kx o q r s Q st F a b c w h A x
 obtain⟨l,E⟩:∃l,l=w.alloc (.cells #[.int .i64 g,.int .i64 a,.int .i64 b,.int .i64 c] 96):=⟨_,rfl⟩;have G:Below w.heap.size w l:=aE E;have d:=h.below A G;have H:base≤l.heap.size:=Nat.le_trans A G.size;have a0:Hid (kY base p i n j kx o q r s st w l):=⟨_,n,u,j,Q,st,F,d.1,⟨x,by omega⟩,fun f=>by omega,by omega,d.2⟩;have V:Hid (∀k,Calls Tryz.prog 65 #[.pointer (some ⟨i,0,none⟩),.int .i64 k] l fun e w'=>e=.returned (.bool true)∧kY base p i n j kx o q r s st w w'):=fun k=>by
  refine(On base p _ i n u j kx o q r s Q st F k l d.1 H C).mono ?_;rintro e w' ⟨rfl,L',a1,a2,a3⟩;have a4:=nK k (st,F) ⟨h.run,h.ro.ok⟩ C;exact⟨rfl,L',n,u,j,a1,_,_,a2,⟨x,by omega⟩,fun f=>by omega,a4.now.2,d.2.andThen a3⟩
 have a5:Hid (Calls Tryz.prog 63 #[.pointer (some ⟨i,0,none⟩),.int .i64 a] l fun e w'=>e=.returned (.bool true)∧kY base p i n j kx o q r s st w w'):=by
  refine(xA p _ i n u j kx o q r s Q st F a l d.1.hnd x X B d.1.p0 d.1.p2 d.1.kn.kern d.1.ro d.1.kn.mo.fl).mono ?_;rintro e w' ⟨L',I,J,rfl,L,M,N,O⟩;have:=d.1.next H L N O;exact⟨rfl,L',n+2,I,J,Q,st,F,this.1,⟨by omega,by omega⟩,M,by omega,d.2.andThen this.2⟩
 have a6:Hid (Calls Tryz.prog 62 #[.pointer (some ⟨i,0,none⟩)] l fun e w'=>e=.returned (.bool true)∧kY base p i n j kx o q r s st w w'):=by
  refine(Dz p _ i n u j kx o q r st F.bs F.left F.res F.dead F.done F.left F.res F.dead F.done l d.1.hnd x (by omega) (fun f=>by have:=B f;omega) d.1.p0 d.1.p3 d.1.kn.kern d.1.kn.mo.fl d.1.ro.fl).mono ?_;rintro e w' ⟨L',I,J,rfl,L,M,N,O⟩;have:=d.1.next H (by simpa using L) N O;exact⟨rfl,L',n+1,I,J,Q,st,F,this.1,⟨by omega,by omega⟩,fun f=>by have:=M f;omega,by omega,d.2.andThen this.2⟩
 have a7:=aI (fun W=>Aw a 41 W Z (by omega));have y:=aI E;have a9:(g == 2)=false:=by simp[D]
 clear E d G h C B
 by_cases P:g=1
 ·subst P
  go_enter Tryz.func33,Tryz.ntmps33
  go_wp2_with fail
  rw[←y.out];refine(V.out _).mono ?_;rintro e z ⟨rfl,m⟩;have v:=aI m;clear m;go_wp2
  go_ret
  exact⟨rfl,v.out⟩
 have b0:(g == 1)=false:=by simp[P]
 by_cases R:g=5
 ·subst R
  go_enter Tryz.func33,Tryz.ntmps33
  go_wp2_with fail
  rw[←y.out];refine(a7.out _).mono ?_;rintro e z ⟨k,b1,rfl,a8⟩;obtain rfl:=a8.symm;go_wp2_with fail
  refine(V.out _).mono ?_;rintro e z ⟨rfl,m⟩;have v:=aI m;clear m;go_wp2
  go_ret
  exact⟨rfl,v.out⟩
 have b2:(g == 5)=false:=by simp[R]
 by_cases S:g=3
 ·subst S
  go_enter Tryz.func33,Tryz.ntmps33
  go_wp2_with fail
  rw[←y.out];refine a5.out.mono ?_;rintro e z ⟨rfl,m⟩;have v:=aI m;clear m;go_wp2
  go_ret
  exact⟨rfl,v.out⟩
 have b3:(g == 3)=false:=by simp[S]
 by_cases T:g=4
 ·subst T
  go_enter Tryz.func33,Tryz.ntmps33
  go_wp2_with fail
  rw[←y.out];refine a6.out.mono ?_;rintro e z ⟨rfl,m⟩;have v:=aI m;clear m;go_wp2
  go_ret
  exact⟨rfl,v.out⟩
 have b4:(g == 4)=false:=by simp[T]
 have b5:(g == 6)=false:=by simp;omega
 have b6:(g == 7)=false:=by simp;omega
 have b7:(g == 8)=false:=by simp;omega
 clear P D S T R Y
 go_enter Tryz.func33,Tryz.ntmps33
 go_wp2
 rw[←y.out]
 go_ret
 exact⟨rfl,a0.out⟩
end Go.Proofs.YtnjlbgolnbdkaaaGreat
