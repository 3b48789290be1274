/- All, with short names -/
import Derived.Test.YtnjlbgolnbdkaaaGreatP05
import Derived.Test.YtnjlbgolnbdkaaaGreatP03
set_option maxRecDepth 100000
set_option maxHeartbeats 16000000
namespace Go.Proofs.YtnjlbgolnbdkaaaGreat
open Go Go.RowKit
section
open Go.RowKit
def gD{α σ:Type}(f:σ→α×σ):Nat→σ→List α×σ
 | 0,s=>([],s)
 | k+1,s=>((gD f k s).1++[(f (gD f k s).2).1],(f (gD f k s).2).2)
def mA(zs:List Int)(n:Int)(s:Rs):(Int×Int)×Rs:=
 let a:=cN zs 0 13 [] s
 let b:=cN zs 0 (if a.1=4 then n-1 else 255) [] a.2
 ((a.1,b.1),b.2)
def lG(zs:List Int)(s:Rs):Pr×Rs:=
 let a:=cN zs 0 9 [] s
 let b:=cN zs 1 20 [] a.2
 let c:=gD (mA zs b.1) b.1.toNat b.2
 (⟨a.1,c.1⟩,c.2)
def nJ(zs:List Int)(c:Nat)(s:Rs):Int×Rs:=if c=5 then cN zs 1 7 [2,3] s else cN zs 1 7 [] s
theorem bY{S:Nat→Prop}(w:World)(o:Obj):aH S w (w.alloc o):=aH.ofBelow (aG _ _)
theorem aH.andThen{S:Nat→Prop}{a b c:World}(h:aH S a b)(k:aH S b c):aH S a c:=aH.trans (T:=S) h k (fun _ h=>.inl h)
theorem aH.andNew{S:Nat→Prop}{a b c:World}(h:aH S a b)(k:aH (fun i=>a.heap.size≤i) b c):aH S a c:=aH.trans (T:=fun i=>a.heap.size≤i) h k (fun _ h=>.inr h)
section
variable {rb:Nat} {ao:Option Addr} {n cap:Nat} {zs:List Int} {s:Rs} {w w':World}
theorem eE.alloc(h:eE rb ao n cap zs s w)(o:Obj):eE rb ao n cap zs s (w.alloc o):=h.keep (S:=fun _=>False) (bY w o) (fun h=>h) (fun _ _ _ h=>h)
theorem eE.new(h:eE rb ao n cap zs s w){B:Nat}(c:rb<B)(a:∀ad,ao=some ad→0<n→ad.block<B)(t:aH (fun i=>B≤i) w w'):eE rb ao n cap zs s w':=h.keep t (by omega) (fun ad e b d=>by have:=a ad e b;omega)
end
theorem gW(rb:Nat)(ao:Option Addr)(n cap:Nat)(zs:List Int)(s:Rs)(lo hi:Int)(w:World)(h:eE rb ao n cap zs s w):
 Calls Tryz.prog 80 #[.pointer (some ⟨rb,0,none⟩),.int .i64 lo,.int .i64 hi,.slice none 0 0] w fun e w'=>e=.returned (.int .i64 (cN zs lo hi [] s).1)∧eE rb ao n cap zs (cN zs lo hi [] s).2 w'∧aH (·=rb) w w':=
 pD rb ao n cap zs s lo hi none 0 [] w h (Nk w) (by simp)
theorem Cv(rb:Nat)(ao:Option Addr)(n cap:Nat)(zs:List Int)(s:Rs)(c:Nat)(w:World)(h:eE rb ao n cap zs s w)(k:c<6):
 Calls Tryz.prog 118 #[.pointer (some ⟨rb,0,none⟩),.int .i64 c] w fun e w'=>e=.returned (.int .i64 (nJ zs c s).1)∧eE rb ao n cap zs (nJ zs c s).2 w'∧aH (·=rb) w w':=by
 by_cases f:c=5
 ·subst f;have g:=aI (pD rb ao n cap zs s 1 7 (some ⟨w.heap.size,0,none⟩) 2 [2,3] _ (h.alloc (.cells #[.int .i64 2,.int .i64 3] 3)) (fun i hi=>⟨w.heap.size,0,rfl,by
   rcases(show i=0∨i=1 from by simp at hi;omega)with rfl| rfl<;>simp⟩) (by simp))
  have j:Hid (nJ zs 5 s=cN zs 1 7 [2,3] s):=rfl;clear h k
  go_enter Tryz.func118,Tryz.ntmps118
  go_wp2_with fail
  refine g.out.mono ?_;rintro e l ⟨rfl,a,b⟩;have d:=aI (And.intro a b);clear a b;go_wp2
  go_ret
  rw[j.out];exact⟨rfl,d.out.1,(bY w _).andThen d.out.2⟩
 ·have m:((c:Int) == 5)=false:=by simp;omega
  have g:=aI (gW rb ao n cap zs s 1 7 w h);have j:Hid (nJ zs c s=cN zs 1 7 [] s):=by show _=_;unfold nJ;rw[if_neg f]
  clear h k f
  go_enter Tryz.func118,Tryz.ntmps118
  go_wp2_with fail
  refine g.out.mono ?_;rintro e l ⟨rfl,a,b⟩;have d:=aI (And.intro a b);clear a b;go_wp2
  go_ret
  rw[j.out];exact⟨rfl,d.out⟩
theorem Fe(rb:Nat)(ao:Option Addr)(n cap:Nat)(zs:List Int)(s:Rs)(a:Int)(w:World)(h:eE rb ao n cap zs s w)(P:0≤a∧a≤255):
 Calls Tryz.prog 165 #[.pointer (some ⟨rb,0,none⟩),.int .i64 a] w fun e w'=>e=.returned (.agg #[.int .i64 (mA zs a s).1.1,.int .i64 (mA zs a s).1.2])∧eE rb ao n cap zs (mA zs a s).2 w'∧aH (·=rb) w w':=by
 have C:=lt_of_block h.obj;have D:=aI h.held.lt;have c:Hid (mA zs a s=(((cN zs 0 13 [] s).1,(cN zs 0 (if(cN zs 0 13 [] s).1=4 then a-1 else 255) [] (cN zs 0 13 [] s).2).1),(cN zs 0 (if(cN zs 0 13 [] s).1=4 then a-1 else 255) [] (cN zs 0 13 [] s).2).2)):=rfl;have j:=aI (gW rb ao n cap zs s 0 13 _ (h.alloc (.cells #[.int .i64 0,.int .i64 0] 210)));have E:=eU zs 0 13 [] s h.held.bytes;have F:=aI h.held.bytes;clear h;generalize (cN zs 0 13 [] s).1=op at c j E;generalize (cN zs 0 13 [] s).2=k at c j
 go_enter Tryz.func165,Tryz.ntmps165
 go_wp2_with fail
 refine j.out.mono ?_;rintro e q ⟨rfl,u,l⟩;have G:=l.size;simp at G;have x:q.heap[w.heap.size]?=some (.cells #[.int .i64 0,.int .i64 0] 210 (0,0)):=(l.block _ (by simp) (by omega)).trans (heap_alloc_new w _);have H:Hid (aH (·=rb) w q):=(bY w _).andThen l;obtain⟨b,m⟩:∃b,b=(if op=4 then a-1 else 255):=⟨_,rfl⟩;rw[←m]at c;have f:=aI (gW rb ao n cap zs k 0 b q u);have I:=eU zs 0 b [] k F.out;generalize (cN zs 0 b [] k).1=y at c f I;generalize (cN zs 0 b [] k).2=Q at c f;have J:=aI x;have L:((op == 4)=true∧b=a-1)∨((op == 4)=false∧b=255):=by
  by_cases o:op=4
  ·exact .inl ⟨by simp[o],by rw[m,if_pos o]⟩
  ·exact .inr ⟨by simpa using o,by rw[m,if_neg o]⟩
 clear m u l x j;rcases L with⟨M,r⟩| ⟨M,r⟩
 all_goals
  rw[r]at f;clear r;go_wp2_with fail
  refine f.out.mono ?_;rintro e d ⟨rfl,z,p⟩;have R:=p.size;have g:d.heap[w.heap.size]?=some (.cells #[.int .i64 0,.int .i64 0] 210 (0,0)):=(p.block _ (by omega) (by omega)).trans J.out;have N:d.cell? ⟨w.heap.size,0,none⟩=some (.int .i64 0):=aD g;have O:d.cell? ⟨w.heap.size,1,none⟩=some (.int .i64 0):=aD g;have S:=aJ g 0;have T:=aJ g 1;have A:=aI (And.intro z (H.out.andThen p));clear z p g f;go_wp2
  refine bodyPost_ret (v:=.agg #[.int .i64 op,.int .i64 y]) (by simp[results,Tryz.results165,go_sem,N,O]) rfl ?_;have B:aH (fun i=>w.heap.size≤i) d ((d.setCell ⟨w.heap.size,0,none⟩ (.int .i64 op)).setCell ⟨w.heap.size,1,none⟩ (.int .i64 y)):=aH.andThen (aH.ofSet d _ 0 _ (Nat.le_refl _)) (aH.ofSet _ _ 1 _ (Nat.le_refl _));rw[c.out];exact⟨rfl,A.out.1.new C D.out B,A.out.2.andNew B⟩
theorem Em(p1 p2:Nat)(rb:Nat)(ao:Option Addr)(n cap:Nat)(zs:List Int)(s:Rs)(a:Int)(w:World)(h:eE rb ao n cap zs s w)(k:0≤a∧a≤255)(f:w.heap[p1]?=some (.cells #[.pointer (some ⟨rb,0,none⟩)] 102 (0,0)))(g:w.heap[p2]?=some (.cells #[.int .i64 a] 3 (0,0))):
 Calls Tryz.prog 164 #[.pointer (some ⟨p1,0,none⟩),.pointer (some ⟨p2,0,none⟩)] w fun e w'=>e=.returned (.agg #[.int .i64 (mA zs a s).1.1,.int .i64 (mA zs a s).1.2])∧eE rb ao n cap zs (mA zs a s).2 w'∧aH (·=rb) w w':=by
 have p:=lt_of_block h.obj;have r:=aI h.held.lt;have z:=lt_of_block f;have A:=lt_of_block g;have c1:w.cell? ⟨p1,0,none⟩=some (.pointer (some ⟨rb,0,none⟩)):=aD f;have c2:w.cell? ⟨p2,0,none⟩=some (.int .i64 a):=aD g;have j:=aI (Fe rb ao n cap zs s a _ (h.alloc (.cells #[.int .i64 0,.int .i64 0] 210)) k);clear h f g k;generalize mA zs a s=q at j ⊢
 go_enter Tryz.func164,Tryz.ntmps164
 go_wp2_with fail
 refine j.out.mono ?_;rintro e b ⟨rfl,l,d⟩;have u:=d.size;simp at u;have c:b.heap[w.heap.size]?=some (.cells #[.int .i64 0,.int .i64 0] 210 (0,0)):=(d.block _ (by simp) (by omega)).trans (heap_alloc_new w _);have x:b.cell? ⟨w.heap.size,0,none⟩=some (.int .i64 0):=aD c;have y:b.cell? ⟨w.heap.size,1,none⟩=some (.int .i64 0):=aD c;have B:=aJ c 0;have C:=aJ c 1;have m:=aI (And.intro l ((bY w _).andThen d));clear l d c j;go_wp2
 refine bodyPost_ret (v:=.agg #[.int .i64 q.1.1,.int .i64 q.1.2]) (by simp[results,Tryz.results164,go_sem,x,y]) rfl ?_;have o:aH (fun i=>w.heap.size≤i) b ((b.setCell ⟨w.heap.size,0,none⟩ (.int .i64 q.1.1)).setCell ⟨w.heap.size,1,none⟩ (.int .i64 q.1.2)):=aH.andThen (aH.ofSet b _ 0 _ (Nat.le_refl _)) (aH.ofSet _ _ 1 _ (Nat.le_refl _));exact⟨rfl,m.out.1.new p r.out o,m.out.2.andNew o⟩
end
section
open Go.RowKit
theorem qX(w:World)(a b:Obj):((w.alloc a).alloc b).heap[w.heap.size+1]?=some b:=by
 have h:=heap_alloc_new (w.alloc a) b;rw[show(w.alloc a).heap.size=w.heap.size+1 from by simp]at h;exact h
theorem Be(w:World)(a b c:Obj):(((w.alloc a).alloc b).alloc c).heap[w.heap.size+1+1]?=some c:=by
 have h:=heap_alloc_new ((w.alloc a).alloc b) c;rw[show((w.alloc a).alloc b).heap.size=w.heap.size+1+1 from by simp]at h;exact h
theorem zP(rb:Nat)(ao:Option Addr)(n cap:Nat)(zs:List Int)(s:Rs)(w:World)(h:eE rb ao n cap zs s w):
 Calls Tryz.prog 120 #[.pointer (some ⟨rb,0,none⟩)] w fun e w'=>∃ad a9 c,e=.returned (.agg #[.int .i64 (lG zs s).1.prio,.slice ad a9 c])∧iV w.heap.size (.slice ad a9 c) (lG zs s).1.code w'∧eE rb ao n cap zs (lG zs s).2 w'∧aH (·=rb) w w':=by
 have b0:=lt_of_block h.obj;have a5:Hid (∀ad,ao=some ad→0<n→ad.block<w.heap.size):=h.held.lt;have b1:=aI h.held.bytes;have D:Hid (lG zs s=(⟨(cN zs 0 9 [] s).1,(gD (mA zs (cN zs 1 20 [] (cN zs 0 9 [] s).2).1) (cN zs 1 20 [] (cN zs 0 9 [] s).2).1.toNat (cN zs 1 20 [] (cN zs 0 9 [] s).2).2).1⟩,(gD (mA zs (cN zs 1 20 [] (cN zs 0 9 [] s).2).1) (cN zs 1 20 [] (cN zs 0 9 [] s).2).1.toNat (cN zs 1 20 [] (cN zs 0 9 [] s).2).2).2)):=rfl;obtain⟨g,p⟩:∃g,g=(((w.alloc (.cells #[.pointer (some ⟨rb,0,none⟩)] 102)).alloc (.cells #[.int .i64 0,.slice none 0 0] 190)).alloc (.cells #[.int .i64 0,.slice none 0 0] 190)):=⟨_,rfl⟩;have d9:g.heap.size=w.heap.size+3:=by rw[p];simp
 have E:g.heap[w.heap.size]?=some (.cells #[.pointer (some ⟨rb,0,none⟩)] 102 (0,0)):=by rw[p];exact(Below.heap_alloc _ _ _ (by simp;omega)).trans ((Below.heap_alloc _ _ _ (by simp)).trans (heap_alloc_new w _))
 have F:g.heap[w.heap.size+1]?=some (.cells #[.int .i64 0,.slice none 0 0] 190 (0,0)):=by rw[p];exact(Below.heap_alloc _ _ _ (by simp)).trans (qX w _ _)
 have G:g.heap[w.heap.size+1+1]?=some (.cells #[.int .i64 0,.slice none 0 0] 190 (0,0)):=by rw[p];exact Be w _ _ _
 have H:aH (·=rb) w g:=by rw[p];exact((bY _ _).andThen (bY _ _)).andThen (bY _ _)
 have b2:eE rb ao n cap zs s g:=by rw[p];exact((h.alloc _).alloc _).alloc _
 have V:=aI (gW rb ao n cap zs s 0 9 _ b2);have b3:=aI p;have a6:=aI (And.intro E (And.intro F (And.intro G H)));have c7:=eU zs 0 9 [] s b1.out;generalize (cN zs 0 9 [] s).1=prio at D V c7;generalize (cN zs 0 9 [] s).2=y at D V;clear h E F G H b2 p;have c8:g.cell? ⟨w.heap.size,0,none⟩=some (.pointer (some ⟨rb,0,none⟩)):=aD a6.out.1
 go_enter Tryz.func120,Tryz.ntmps120
 go_wp2_with fail
 rw[←b3.out];refine V.out.mono ?_;rintro e z ⟨rfl,d,a⟩;obtain⟨E,F,G,H⟩:=a6.out;have e0:=a.size;have a7:=(a.block _ (by omega) (by omega)).trans E;have b4:=(a.block _ (by omega) (by omega)).trans F;have W:=(a.block _ (by omega) (by omega)).trans G;have b5:=H.andThen a;obtain⟨q,I⟩:∃q,q=z.setCell ⟨w.heap.size+1+1,0,none⟩ (.int .i64 prio):=⟨_,rfl⟩;have j:aH (fun i=>i=w.heap.size+1+1) z q:=by rw[I];exact aH.ofSet z _ 0 _ rfl
 have e1:q.heap.size=z.heap.size:=by rw[I];simp
 have J:=(j.block _ (by omega) (by omega)).trans a7;have L:=(j.block _ (by omega) (by omega)).trans b4;have M:q.heap[w.heap.size+1+1]?=some (.cells #[.int .i64 prio,.slice none 0 0] 190 (0,0)):=by rw[I];exact aK W 0 _
 have N:aH (·=rb) w q:=b5.andNew (j.mono (fun k r=>by omega));have b6:eE rb ao n cap zs y q:=d.new b0 a5.out (j.mono (fun k r=>by omega));have X:=aI (gW rb ao n cap zs y 1 20 _ b6);have c9:=eU zs 1 20 [] y b1.out;have d0:=uJ zs 1 20 [] y (by omega);generalize (cN zs 1 20 [] y).1=f at D X c9 d0;generalize (cN zs 1 20 [] y).2=O at D X;have d1:=aJ W 0;have z0:z.cell? ⟨w.heap.size+1+1,0,none⟩=some (.int .i64 0):=aD W;have d2:z.cell? ⟨w.heap.size,0,none⟩=some (.pointer (some ⟨rb,0,none⟩)):=aD a7;have b7:=aI I;have b8:=aI (And.intro J (And.intro L (And.intro M N)));clear E F G H a7 b4 W b5 J L M N b6 d a j I a6 V c8 b3;go_wp2_with fail
 rw[←b7.out];refine X.out.mono ?_;rintro e A ⟨rfl,d,a⟩;obtain⟨J,L,M,N⟩:=b8.out;have e2:=a.size;have b9:=(a.block _ (by omega) (by omega)).trans J;have c0:=(a.block _ (by omega) (by omega)).trans L;have c1:=(a.block _ (by omega) (by omega)).trans M;have c2:=N.andThen a;obtain⟨m,C⟩:∃m,m=A.alloc (.cells #[.int .i64 f] 3):=⟨_,rfl⟩;have P:aH (·=rb) A m:=by rw[C];exact bY _ _
 have e3:m.heap.size=A.heap.size+1:=by rw[C];simp
 have Y:=(P.block _ (by omega) (by omega)).trans b9;have Q:=(P.block _ (by omega) (by omega)).trans c0;have R:=(P.block _ (by omega) (by omega)).trans c1;have Z:m.heap[A.heap.size]?=some (.cells #[.int .i64 f] 3 (0,0)):=aF C;have S:=c2.andThen P;have a0:eE rb ao n cap zs O m:=by rw[C];exact d.alloc _
 have c3:=aI C;have T:=aI (And.intro Y (And.intro Q (And.intro R (And.intro S (And.intro Z a0)))));clear J L M N b9 c0 c1 c2 Y Q R S Z a0 d a P C b8 X d1 z0 d2 b7;have a8:=Pv w.heap.size A.heap.size f.toNat (by omega) (·=rb) m (fun b e4=>by omega) (fun a1 l wr=>l=(gD (mA zs f) a1 O).1∧eE rb ao n cap zs (gD (mA zs f) a1 O).2 wr∧aH (·=rb) m wr)
  (fun a1 l wr w' o t=>⟨o.1,o.2.1.new (B:=m.heap.size) (by omega) (fun ad e d3=>by have:=a5.out ad e d3;omega) (t.mono (fun k r=>r.1)),o.2.2.andNew (t.mono (fun k r=>r.1))⟩)
  (fun a1 l wr e5 o=>(Em w.heap.size A.heap.size rb ao n cap zs _ f wr o.2.1 (by omega) ((o.2.2.block _ (by omega) (by omega)).trans T.out.1) ((o.2.2.block _ (by omega) (by omega)).trans T.out.2.2.2.2.1)).mono (fun e w' ⟨d4,d,a⟩=>⟨_,_,d4,⟨by rw[o.1];rfl,d,o.2.2.andThen a⟩,a⟩))
  ⟨rfl,T.out.2.2.2.2.2,aH.refl _ _⟩
 rw[show((f.toNat:Nat):Int)=f from by omega]at a8;have c4:=aI a8;clear a8;go_wp2_with fail
 rw[←c3.out];refine c4.out.mono ?_;rintro e u ⟨v,l,rfl,⟨c5,d,a⟩,d5,x⟩;obtain⟨Y,Q,R,S,Z,a0⟩:=T.out;have e6:=a.size;have U:=(a.block _ (by omega) (by omega)).trans Q;have a2:=(a.block _ (by omega) (by omega)).trans R;have a3:=S.andThen a;obtain⟨ad,a4,rfl⟩:=bL x;have c6:Hid (lG zs s=(⟨prio,l⟩,(gD (mA zs f) f.toNat O).2)):=by show _=_;rw[D.out,c5]
 generalize (gD (mA zs f) f.toNat O).2=e7 at c6 d;have p0:u.cell? ⟨w.heap.size+1+1,0,none⟩=some (.int .i64 prio):=aD a2;have p1:u.cell? ⟨w.heap.size+1+1,1,none⟩=some (.slice none 0 0):=aD a2;have d6:u.cell? ⟨w.heap.size+1,0,none⟩=some (.int .i64 0):=aD U;have d7:u.cell? ⟨w.heap.size+1,1,none⟩=some (.slice none 0 0):=aD U;have e8:=aJ a2 1;have e9:=aJ U 0;have f0:=aJ U 1;have d8:=aI (And.intro d (And.intro a3 x));clear Y Q R S Z a0 U a2 a3 d a c5 d5 x T c4 c3;go_wp2
 refine bodyPost_ret (v:=.agg #[.int .i64 prio,.slice ad l.length a4]) (by simp[results,Tryz.results120,go_sem,d6,d7]) rfl ?_;have j:aH (fun i=>i=w.heap.size+1+1∨i=w.heap.size+1) u (((u.setCell ⟨w.heap.size+1+1,1,none⟩ (.slice ad l.length a4)).setCell ⟨w.heap.size+1,0,none⟩ (.int .i64 prio)).setCell ⟨w.heap.size+1,1,none⟩ (.slice ad l.length a4)):=aH.andThen (aH.andThen (aH.ofSet u _ 1 _ (.inl rfl)) (aH.ofSet _ _ 0 _ (.inr rfl))) (aH.ofSet _ _ 1 _ (.inr rfl));rw[c6.out];obtain⟨d,a3,x⟩:=d8.out;refine⟨ad,l.length,a4,rfl,?_,d.new b0 a5.out (j.mono (fun k r=>by omega)),a3.andNew (j.mono (fun k r=>by omega))⟩;exact bI (aO x (fun b e=>j.block b (World.ownsRow.lt x b e).2 (by have:=(World.ownsRow.lt x b e).1;omega))) (by omega)
end
section
open Go.RowKit
def yY(l:List (Pr×Value)):Prop:=l.Pairwise fun a b=>∀x,a.2.ownBlock=some x→b.2.ownBlock≠some x
def gC(lo hi:Nat)(v:Value)(ps:List Pr)(w:World):Prop:=∃l:List (Pr×Value),l.map Prod.fst=ps∧w.ownsRow lo 190 2 v l.length (eV l)∧(∀b,v.ownBlock=some b→b<hi)∧(∀p∈l,iV lo p.2 p.1.code w∧∀b,p.2.ownBlock=some b→b<hi)∧yY l
section
variable {lo hi lo' hi' bs bs':Nat} {v vP vW vC:Value} {ps:List Pr} {pts:List Pt} {cf:Cf} {w w':World}
theorem gC.procs(h:gC lo hi v ps w):lW lo v ps w:=by
 obtain⟨l,a,b,_,c,_⟩:=h;exact⟨l,a,b,fun p d=>(c p d).1⟩
theorem gC.keep(h:gC lo hi v ps w)(g:∀b,lo≤b→b<hi→b<w.heap.size→iO w b (fun t=>t=210∨t=190)→w'.heap[b]?=w.heap[b]?):gC lo hi v ps w':=by
 obtain⟨l,j,d,i,a,k⟩:=h;refine⟨l,j,aO d (fun b e=>?_),i,fun p c=>⟨aO (a p c).1 (fun b e=>?_),(a p c).2⟩,k⟩
 ·obtain⟨cur,f⟩:=cV d e;exact g b (World.ownsRow.lt d b e).1 (i b e) (World.ownsRow.lt d b e).2 ⟨cur,190,.inr rfl,f⟩
 ·obtain⟨cur,f⟩:=cV (a p c).1 e;exact g b (World.ownsRow.lt (a p c).1 b e).1 ((a p c).2 b e) (World.ownsRow.lt (a p c).1 b e).2 ⟨cur,210,.inl rfl,f⟩
theorem gC.base(h:gC lo hi v ps w)(a:lo'≤lo):gC lo' hi v ps w:=by
 obtain⟨l,d,f,g,b,i⟩:=h;exact⟨l,d,bI f a,g,fun p c=>⟨(b p c).1.base a,(b p c).2⟩,i⟩
theorem gC.top(h:gC lo hi v ps w)(a:hi≤hi'):gC lo hi' v ps w:=by
 obtain⟨l,f,g,i,c,j⟩:=h;exact⟨l,f,g,fun b e=>Nat.lt_of_lt_of_le (i b e) a,fun p d=>⟨(c p d).1,fun b e=>Nat.lt_of_lt_of_le ((c p d).2 b e) a⟩,j⟩
theorem Re{l:List (Pr×Value)}(a:w.ownsRow lo 190 2 v l.length (eV l))(c:∀p∈l,iV lo p.2 p.1.code w)(f:yY l):gC lo w.heap.size v (l.map Prod.fst) w:=
 ⟨l,rfl,a,fun b e=>(World.ownsRow.lt a b e).2,fun p d=>⟨c p d,fun b e=>(World.ownsRow.lt (c p d) b e).2⟩,f⟩
theorem Gk{l:List (Pr×Value)}{p:Pr×Value}(h:yY l)(c:∀q∈l,iV lo q.2 q.1.code w)(d:iV w.heap.size p.2 p.1.code w'):yY (l++[p]):=by
 refine List.pairwise_append.2 ⟨h,List.pairwise_singleton _ _,fun a f b g x i j=>?_⟩;obtain rfl:=List.mem_singleton.1 g;have:=(World.ownsRow.lt (c a f) x i).2;have:=(World.ownsRow.lt d x j).1;omega
def kG(bs:Nat)(v:Value)(ps:List Pt)(w:World):Prop:=∃ (l:List (Pt×Value)) (c:Nat→Nat),l.map Prod.fst=ps∧w.ownsRow bs 124 10 v l.length (gO l)∧(∀i,bs≤c i)∧(∀i,c i≤c (i+1))∧∀i p,l[i]?=some p→gC (c i) (c (i+1)) p.2 p.1.procs w
theorem kG.parts(h:kG bs v pts w):fU bs v pts w:=by
 obtain⟨l,c,a,b,d,_,f⟩:=h;refine⟨l,a,b,fun p g=>?_⟩;obtain⟨i,hi⟩:=List.getElem?_of_mem g;exact(f i p hi).procs.base (d i)
theorem kG.keep(h:kG bs v pts w)(j:∀b,bs≤b→b<w.heap.size→iO w b (fun t=>t=124∨t=210∨t=190)→w'.heap[b]?=w.heap[b]?):kG bs v pts w':=by
 obtain⟨l,c,m,o,k,q,r⟩:=h;exact⟨l,c,m,eO o (fun b a d ⟨cur,t,f,g⟩=>j b a d ⟨cur,t,.inl f,g⟩),k,q,fun i p u=>(r i p u).keep (fun b a _ d ⟨cur,t,f,g⟩=>j b (Nat.le_trans (k i) a) d ⟨cur,t,.inr f,g⟩)⟩
theorem kG.base(h:kG bs v pts w)(a:bs'≤bs):kG bs' v pts w:=by
 obtain⟨l,c,b,d,f,g,j⟩:=h;exact⟨l,c,b,bI d a,fun i=>Nat.le_trans a (f i),g,j⟩
structure kT(bs:Nat)(vP vW vC:Value)(cf:Cf)(w:World):Prop where
 parts:kG bs vP cf.parts w
 wins:kF bs vW cf.wins w
 chans:yW bs vC cf.chans w
theorem kT.conf(h:kT bs vP vW vC cf w):kA bs vP vW vC cf w:=⟨h.parts.parts,h.wins,h.chans⟩
theorem kT.keep(h:kT bs vP vW vC cf w)(d:∀b,bs≤b→b<w.heap.size→w'.heap[b]?=w.heap[b]?):kT bs vP vW vC cf w':=
 ⟨h.parts.keep (fun b a c _=>d b a c),eO h.wins (fun b a c _=>d b a c),eO h.chans (fun b a c _=>d b a c)⟩
theorem kT.base(h:kT bs vP vW vC cf w)(a:bs'≤bs):kT bs' vP vW vC cf w:=⟨h.parts.base a,bI h.wins a,bI h.chans a⟩
theorem kT.low(h:kT bs vP vW vC cf w){S:Nat→Prop}(t:aH S w w')(a:∀b,S b→b<bs):kT bs vP vW vC cf w':=h.keep (fun b f c=>t.block b c (fun d=>by have:=a b d;omega))
theorem Ld(bs:Nat)(w:World):kT bs (.slice none 0 0) (.slice none 0 0) (.slice none 0 0) nE w:=⟨⟨[],fun _=>bs,rfl,World.ownsRow_nil _ _ _ _,fun _=>Nat.le_refl _,fun _=>Nat.le_refl _,fun i p h=>by simp at h⟩,World.ownsRow_nil _ _ _ _,World.ownsRow_nil _ _ _ _⟩
end
structure lI(base:Nat)(l:List (Pt×Value))(w:World):Prop where
 ex:∃c:Nat→Nat,(∀i,base≤c i)∧(∀i,c i≤c (i+1))∧c l.length≤w.heap.size∧∀i p,l[i]?=some p→gC (c i) (c (i+1)) p.2 p.1.procs w
theorem lI.nil(w:World):lI w.heap.size [] w:=⟨fun _=>w.heap.size,fun _=>Nat.le_refl _,fun _=>Nat.le_refl _,Nat.le_refl _,fun i p h=>by simp at h⟩
theorem lI.touch{base:Nat}{l:List (Pt×Value)}{w w':World}{S:Nat→Prop}(h:lI base l w)(t:aH S w w')(f:∀b,S b→b<base∨iO w b (·=124)):lI base l w':=by
 obtain⟨c,a,g,j,k⟩:=h.ex;refine⟨c,a,g,Nat.le_trans j t.size,fun i p m=>(k i p m).keep (fun b z _ o ⟨cur,x,q,r⟩=>t.block b o (fun u=>?_))⟩;rcases f b u with A| ⟨c2,B,y,d⟩
 ·have:=a i;omega
 ·subst y;rw[r]at d;rcases q with rfl| rfl<;>simp at d
theorem lI.snoc{base:Nat}{l:List (Pt×Value)}{p:Pt×Value}{w w':World}{S:Nat→Prop}(h:lI base l w)(g:base≤w.heap.size)(t:aH S w w')(j:∀b,S b→b<base)(m:gC w.heap.size w'.heap.size p.2 p.1.procs w'):lI base (l++[p]) w':=by
 obtain⟨c,z,A,B,C⟩:=(h.touch t (fun b g=>.inl (j b g))).ex;obtain⟨a,k,o,r,u⟩:=h.ex;refine⟨fun i=>if i≤l.length then a i else w'.heap.size,fun i=>?_,fun i=>?_,?_,fun i q d=>?_⟩
 ·show base≤if i≤l.length then a i else w'.heap.size
  split
  ·exact k i
  ·have:=t.size;omega
 ·show(if i≤l.length then a i else w'.heap.size)≤if i+1≤l.length then a (i+1)else w'.heap.size
  by_cases f:i+1≤l.length
  ·rw[if_pos (by omega),if_pos f];exact o i
  ·rw[if_neg f];split
   ·obtain rfl:i=l.length:=by omega
    have:=t.size;omega
   ·exact Nat.le_refl _
 ·show(if(l++[p]).length≤l.length then a _ else w'.heap.size)≤w'.heap.size
  rw[if_neg (by simp)];exact Nat.le_refl _
 ·show gC (if i≤l.length then a i else w'.heap.size) (if i+1≤l.length then a (i+1)else w'.heap.size) q.2 q.1.procs w'
  by_cases f:i<l.length
  ·rw[if_pos (by omega),if_pos (by omega)];rw[List.getElem?_append_left f]at d;exact(u i q d).keep (fun b D _ x _=>t.block b x (fun y=>by have:=j b y;have:=k i;omega))
  ·have hi:i=l.length:=by
    have:=(List.getElem?_eq_some_iff.1 d).1;simp at this;omega
   subst hi;rw[List.getElem?_append_right (Nat.le_refl _)]at d;simp at d;subst d;rw[if_pos (Nat.le_refl _),if_neg (by omega)];exact m.base r
end
section
open Go.RowKit
def fL(zs:List Int):Nat→Rs→List Int×Rs
 | 0,s=>([],s)
 | k+1,s=>((fL zs k s).1++[(nJ zs k (fL zs k s).2).1],(nJ zs k (fL zs k s).2).2)
theorem zG(zs:List Int)(k:Nat)(s:Rs):(fL zs k s).1.length=k:=by
 induction k with
 | zero=>rfl
 | succ k ih=>show((fL zs k s).1++[_]).length=k+1;simp[ih]
def lE(zs:List Int)(s:Rs):Pt×Rs:=
 let a:=cN zs 0 1 [] s
 let b:=cN zs 1 16 [] a.2
 let c:=cN zs 0 9 [] b.2
 let d:=fL zs 6 c.2
 let f:=cN zs 1 2 [] d.2
 let q:=gD (lG zs) f.1.toNat f.2
 (⟨a.1 == 1,b.1,c.1,d.1,q.1⟩,q.2)
structure vX(rb:Nat)(ao:Option Addr)(n cap:Nat)(zs:List Int)(T:TypeId)(zero:Array Value)(w:World)(cells:Array Value)(s:Rs)(wr:World):Prop where
 zero:wr.heap[w.heap.size]?=some (.cells zero T (0,0))
 cur:wr.heap[w.heap.size+1]?=some (.cells cells T (0,0))
 rd:eE rb ao n cap zs s wr
 t:aH (·=rb) w wr
section
variable {rb:Nat} {ao:Option Addr} {n cap:Nat} {zs:List Int} {T:TypeId} {zero:Array Value} {w:World} {cells:Array Value} {s s':Rs} {wr w':World}
theorem vX.byte(h:vX rb ao n cap zs T zero w cells s wr)(c:rb<w.heap.size)(b:eE rb ao n cap zs s' w')(a:aH (·=rb) wr w'):vX rb ao n cap zs T zero w cells s' w':=
 ⟨(a.block _ (lt_of_block h.zero) (by omega)).trans h.zero,(a.block _ (lt_of_block h.cur) (by omega)).trans h.cur,b,h.t.andThen a⟩
theorem vX.new(h:vX rb ao n cap zs T zero w cells s wr)(a:rb<w.heap.size)(b:∀ad,ao=some ad→0<n→ad.block<w.heap.size)(t:aH (fun i=>w.heap.size+2≤i) wr w'):vX rb ao n cap zs T zero w cells s w':=
 ⟨(t.block _ (lt_of_block h.zero) (by omega)).trans h.zero,(t.block _ (lt_of_block h.cur) (by omega)).trans h.cur,h.rd.new a b (t.mono (fun k c=>by omega)),h.t.andNew (t.mono (fun k c=>by omega))⟩
theorem vX.set(h:vX rb ao n cap zs T zero w cells s wr)(a:rb<w.heap.size)(b:∀ad,ao=some ad→0<n→ad.block<w.heap.size)(o:Nat)(v:Value):vX rb ao n cap zs T zero w (cells.setIfInBounds o v) s (wr.setCell ⟨w.heap.size+1,o,none⟩ v):=by
 have t:aH (·=w.heap.size+1) wr (wr.setCell ⟨w.heap.size+1,o,none⟩ v):=aH.ofSet wr _ o v rfl;exact⟨(t.block _ (lt_of_block h.zero) (by omega)).trans h.zero,aK h.cur o v,h.rd.new a b (t.mono (fun k c=>by omega)),h.t.andNew (t.mono (fun k c=>by omega))⟩
theorem vX.start(a:eE rb ao n cap zs s w)(zero cells:Array Value)(T:TypeId):vX rb ao n cap zs T zero w cells s ((w.alloc (.cells zero T)).alloc (.cells cells T)):=
 ⟨(Below.heap_alloc _ _ _ (by simp)).trans (heap_alloc_new w _),qX w _ _,(a.alloc _).alloc _,(bY _ _).andThen (bY _ _)⟩
end
theorem aH.thenSet{S:Nat→Prop}{a b:World}(h:aH S a b){g:Nat}(o:Nat)(v:Value)(c:S g):aH S a (b.setCell ⟨g,o,none⟩ v):=h.andThen (aH.ofSet b g o v c)
theorem xJ{base:Nat}{v:Value}{code:List (Int×Int)}{w w':World}{S:Nat→Prop}(h:iV base v code w)(t:aH S w w')(a:∀b,S b→base≤b→¬iO w b (·=210)):iV base v code w':=
 h.keep (fun b c d ⟨cur,f⟩=>t.block b d (fun g=>a b g c ⟨cur,210,rfl,f⟩))
theorem Li{w:World}{b:Nat}{s t:TypeId}(h:iO w b (·=s))(c:s≠t):¬iO w b (·=t):=by
 rintro⟨c2,i,d,a⟩;obtain⟨c1,j,f,g⟩:=h;subst f d;rw[g]at a;simp at a;exact c a.2
theorem vV(rb:Nat)(ao:Option Addr)(n cap:Nat)(zs:List Int)(s:Rs)(w:World)(h:eE rb ao n cap zs s w):
 Calls Tryz.prog 82 #[.pointer (some ⟨rb,0,none⟩)] w fun e w'=>∃ad M c,e=.returned (.agg (aV (lE zs s).1.sys (lE zs s).1.words (lE zs s).1.limit (fun i=>(lE zs s).1.acts.getD i 0) (.slice ad M c)))∧gC w.heap.size w'.heap.size (.slice ad M c) (lE zs s).1.procs w'∧eE rb ao n cap zs (lE zs s).2 w'∧aH (·=rb) w w':=by
 have u:=lt_of_block h.obj;have F:Hid (∀ad,ao=some ad→0<n→ad.block<w.heap.size):=h.held.lt;have e1:=aI h.held.bytes;have A:=aI (vX.start h (aV false 0 0 (fun _=>0) (.slice none 0 0)) (aV false 0 0 (fun _=>0) (.slice none 0 0)) 124);clear h;have x:Hid (lE zs s=(⟨(cN zs 0 1 [] s).1 == 1,(cN zs 1 16 [] (cN zs 0 1 [] s).2).1,(cN zs 0 9 [] (cN zs 1 16 [] (cN zs 0 1 [] s).2).2).1,(fL zs 6 (cN zs 0 9 [] (cN zs 1 16 [] (cN zs 0 1 [] s).2).2).2).1,(gD (lG zs) (cN zs 1 2 [] (fL zs 6 (cN zs 0 9 [] (cN zs 1 16 [] (cN zs 0 1 [] s).2).2).2).2).1.toNat (cN zs 1 2 [] (fL zs 6 (cN zs 0 9 [] (cN zs 1 16 [] (cN zs 0 1 [] s).2).2).2).2).2).1⟩,(gD (lG zs) (cN zs 1 2 [] (fL zs 6 (cN zs 0 9 [] (cN zs 1 16 [] (cN zs 0 1 [] s).2).2).2).2).1.toNat (cN zs 1 2 [] (fL zs 6 (cN zs 0 9 [] (cN zs 1 16 [] (cN zs 0 1 [] s).2).2).2).2).2).2)):=rfl;have N:=aI (gW rb ao n cap zs s 0 1 _ A.out.rd);generalize (cN zs 0 1 [] s).1=o at x N;generalize (cN zs 0 1 [] s).2=r1 at x N
 go_enter Tryz.func82,Tryz.ntmps82
 go_wp2_with fail
 refine N.out.mono ?_;rintro e a9 ⟨rfl,b0,b1⟩;have O:=aI (A.out.byte u b0 b1);have p0:a9.cell? ⟨w.heap.size+1,0,none⟩=some (.bool false):=aD O.out.cur;have e2:=aJ O.out.cur 0;clear b0 b1 A N;have a1:Hid (vX rb ao n cap zs 124 (aV false 0 0 (fun _=>0) (.slice none 0 0)) w (aV (o == 1) 0 0 (fun _=>0) (.slice none 0 0)) r1 (a9.setCell ⟨w.heap.size+1,0,none⟩ (.bool (o == 1)))):=O.out.set u F.out 0 (.bool (o == 1));have P:=aI (gW rb ao n cap zs r1 1 16 _ a1.out.rd);generalize (cN zs 1 16 [] r1).1=wd at x P;generalize (cN zs 1 16 [] r1).2=Q at x P;go_wp2_with fail
 refine P.out.mono ?_;rintro e b2 ⟨rfl,b3,b4⟩;have R:=aI (a1.out.byte u b3 b4);have p1:b2.cell? ⟨w.heap.size+1,1,none⟩=some (.int .i64 0):=aD R.out.cur;have e3:=aJ R.out.cur 1;clear b3 b4 a1 P O p0 e2;have a2:Hid (vX rb ao n cap zs 124 (aV false 0 0 (fun _=>0) (.slice none 0 0)) w (aV (o == 1) wd 0 (fun _=>0) (.slice none 0 0)) Q (b2.setCell ⟨w.heap.size+1,1,none⟩ (.int .i64 wd))):=R.out.set u F.out 1 (.int .i64 wd);have U:=aI (gW rb ao n cap zs Q 0 9 _ a2.out.rd);generalize (cN zs 0 9 [] Q).1=y at x U;generalize (cN zs 0 9 [] Q).2=j at x U;go_wp2_with fail
 refine U.out.mono ?_;rintro e b5 ⟨rfl,b6,b7⟩;have C:=aI (a2.out.byte u b6 b7);have p2:b5.cell? ⟨w.heap.size+1,2,none⟩=some (.int .i64 0):=aD C.out.cur;have e4:=aJ C.out.cur 2;clear b6 b7 a2 U R p1 e3;have b8:Hid (vX rb ao n cap zs 124 (aV false 0 0 (fun _=>0) (.slice none 0 0)) w (aV (o == 1) wd y (fun _=>0) (.slice none 0 0)) j (b5.setCell ⟨w.heap.size+1,2,none⟩ (.int .i64 y))):=C.out.set u F.out 2 (.int .i64 y);go_wp2
 go_loopw [16] (fun i wr=>∃k:Nat,k≤6∧i=.int .i64 k∧vX rb ao n cap zs 124 (aV false 0 0 (fun _=>0) (.slice none 0 0)) w (aV (o == 1) wd y (fun i=>(fL zs k j).1.getD i 0) (.slice none 0 0)) (fL zs k j).2 wr) (fun i _=>6-(intOf i).toNat)
 case atStart=>exact⟨0,by omega,rfl,b8.out⟩
 case round=>
  obtain⟨k,G,rfl,I⟩:=hrel
  by_cases b9:k<6
  ·have c0:=zG zs k j;have V:Hid (fL zs (k+1) j=((fL zs k j).1++[(nJ zs k (fL zs k j).2).1],(nJ zs k (fL zs k j).2).2)):=rfl;have z:=aI (Cv rb ao n cap zs (fL zs k j).2 k wr I.rd b9);have A:=aI I;clear I;generalize fL zs k j=S at V z A c0;generalize (nJ zs k S.2).1=a at V z;generalize (nJ zs k S.2).2=e5 at V z;go_wp2_with fail
   refine z.out.mono ?_;rintro e c1 ⟨rfl,c2,c3⟩;have c4:=aI (A.out.byte u c2 c3);have a3:=c4.out.cur;have e6:∃c5,c1.cell? ⟨w.heap.size+1,3+k,none⟩=some c5:=by
    rw[cell_of_row _ _ _ _ _ _ a3];exact⟨_,Array.getElem?_eq_getElem (show 3+k<(aV (o == 1) wd y (fun i=>S.1.getD i 0) (.slice none 0 0)).size from by show 3+k<10;omega)⟩
   obtain⟨c5,g5⟩:=e6;have g6:=aJ a3 (3+k);have e7:Hid (vX rb ao n cap zs 124 (aV false 0 0 (fun _=>0) (.slice none 0 0)) w (aV (o == 1) wd y (fun i=>(S.1++[a]).getD i 0) (.slice none 0 0)) e5 (c1.setCell ⟨w.heap.size+1,3+k,none⟩ (.int .i64 a))):=by
    have:=c4.out.set u F.out (3+k) (.int .i64 a);obtain⟨c6,c7⟩:=Ae S.1 a k c0;rw[Ou (o == 1) wd y (fun i=>S.1.getD i 0) (fun i=>(S.1++[a]).getD i 0) (.slice none 0 0) k a b9 c6 c7]at this;exact this
   clear c2 c3 z A a3;go_wp2
   go_roundw
   case rel=>exact⟨k+1,by omega,by go_num,by rw[V.out];exact e7.out⟩
   case measure=>simp[intOf];omega
  ·obtain c8:Hid (k=6):=(by omega:k=6);have A:=aI I;clear I C b8 p2 e4;have a4:vX rb ao n cap zs 124 (aV false 0 0 (fun _=>0) (.slice none 0 0)) w (aV (o == 1) wd y (fun i=>(fL zs 6 j).1.getD i 0) (.slice none 0 0)) (fL zs 6 j).2 wr:=by
    have c9:=A.out;rw[c8.out]at c9;exact c9
   have z:=aI (gW rb ao n cap zs (fL zs 6 j).2 1 2 wr a4.rd);have W:=aI a4;have d0:=eU zs 1 2 [] (fL zs 6 j).2 e1.out;have d1:=uJ zs 1 2 [] (fL zs 6 j).2 (by omega);generalize fL zs 6 j=S at x z W d0 d1;generalize (cN zs 1 2 [] S.2).1=J at x z d0 d1;generalize (cN zs 1 2 [] S.2).2=X at x z;clear A c8 a4;obtain⟨D,a5⟩:∃D:Nat→Int,D=fun i=>S.1.getD i 0:=⟨_,rfl⟩
   rw[←a5]at W;have e8:=aI a5;clear a5;go_wp2_with fail
   refine z.out.mono ?_;rintro e L ⟨rfl,d2,d3⟩;have Y:=aI (W.out.byte u d2 d3);have g7:=lt_of_block Y.out.cur;clear d2 d3 z W;have a6:=Oc rb J.toNat (by omega) (·=rb) L (fun b a7=>by omega) (fun Z l wr=>l.map Prod.fst=(gD (lG zs) Z X).1∧eE rb ao n cap zs (gD (lG zs) Z X).2 wr∧aH (·=rb) L wr∧(∀p∈l,iV L.heap.size p.2 p.1.code wr)∧yY l)
    (fun Z l wr w' q t=>⟨q.1,q.2.1.new (B:=L.heap.size) (by omega) (fun ad e e9=>by have:=F.out ad e e9;omega) (t.mono (fun k G=>G.1)),q.2.2.1.andNew (t.mono (fun k G=>G.1)),fun p m=>xJ (q.2.2.2.1 p m) t (fun b a7 _=>Li a7.2 (by decide)),q.2.2.2.2⟩)
    (fun Z l wr g8 q=>(zP rb ao n cap zs _ wr q.2.1).mono (fun e w' ⟨ad,M,c,f0,d4,m,E⟩=>⟨_,ad,M,c,f0,⟨by rw[List.map_append,q.1];rfl,m,q.2.2.1.andThen E,fun p m=>by
     rcases List.mem_append.1 m with m| m
     ·exact xJ (q.2.2.2.1 p m) E (fun b a7 d5=>by omega)
     ·obtain rfl:=List.mem_singleton.1 m;exact d4.base q.2.2.1.size,Gk q.2.2.2.2 q.2.2.2.1 d4⟩,E⟩))
    ⟨rfl,Y.out.rd,aH.refl _ _,fun p m=>by simp at m,List.Pairwise.nil⟩
   rw[show((J.toNat:Nat):Int)=J from by omega]at a6;have d6:=aI a6;clear a6;go_wp2_with fail
   refine d6.out.mono ?_;rintro e d ⟨v,l,rfl,⟨d7,m,E,d8,d9⟩,f1,a8⟩;have g9:=E.size;have C:=aI (Y.out.byte u m E);obtain⟨ad,a0,rfl⟩:=bL a8;have e0:Hid (lE zs s=(⟨o == 1,wd,y,S.1,l.map Prod.fst⟩,(gD (lG zs) J.toNat X).2)):=by show _=_;rw[x.out,d7]
   generalize (gD (lG zs) J.toNat X).2=f2 at e0 C;have f3:Hid (gC L.heap.size d.heap.size (.slice ad l.length a0) (l.map Prod.fst) d):=Re a8 d8 d9;clear d7 m E d8 d9 f1 a8 d6 Y x;have r:=C.out.cur;have f:=C.out.zero;have p0:d.cell? ⟨w.heap.size+1,0,none⟩=some (.bool (o == 1)):=aD r;have p1:d.cell? ⟨w.heap.size+1,1,none⟩=some (.int .i64 wd):=aD r;have p2:d.cell? ⟨w.heap.size+1,2,none⟩=some (.int .i64 y):=aD r;have p3:d.cell? ⟨w.heap.size+1,3,none⟩=some (.int .i64 (D 0)):=aD r;have h0:d.cell? ⟨w.heap.size+1,4,none⟩=some (.int .i64 (D 1)):=aD r;have h1:d.cell? ⟨w.heap.size+1,5,none⟩=some (.int .i64 (D 2)):=aD r;have h2:d.cell? ⟨w.heap.size+1,6,none⟩=some (.int .i64 (D 3)):=aD r;have h3:d.cell? ⟨w.heap.size+1,7,none⟩=some (.int .i64 (D 4)):=aD r;have h4:d.cell? ⟨w.heap.size+1,8,none⟩=some (.int .i64 (D 5)):=aD r;have h5:d.cell? ⟨w.heap.size+1,9,none⟩=some (.slice none 0 0):=aD r;have h6:=aJ r 9;have f4:d.cell? ⟨w.heap.size,0,none⟩=some (.bool false):=aD f;have f5:d.cell? ⟨w.heap.size,1,none⟩=some (.int .i64 0):=aD f;have f6:d.cell? ⟨w.heap.size,2,none⟩=some (.int .i64 0):=aD f;have f7:d.cell? ⟨w.heap.size,3,none⟩=some (.int .i64 0):=aD f;have f8:d.cell? ⟨w.heap.size,4,none⟩=some (.int .i64 0):=aD f;have f9:d.cell? ⟨w.heap.size,5,none⟩=some (.int .i64 0):=aD f;have g0:d.cell? ⟨w.heap.size,6,none⟩=some (.int .i64 0):=aD f;have g1:d.cell? ⟨w.heap.size,7,none⟩=some (.int .i64 0):=aD f;have g2:d.cell? ⟨w.heap.size,8,none⟩=some (.int .i64 0):=aD f;have g3:d.cell? ⟨w.heap.size,9,none⟩=some (.slice none 0 0):=aD f;have h7:=aJ f 0;have c6:=aJ f 1;have c7:=aJ f 2;have h8:=aJ f 3;have h9:=aJ f 4;have i0:=aJ f 5;have i1:=aJ f 6;have i2:=aJ f 7;have i3:=aJ f 8;have i4:=aJ f 9;clear r f;have g4:Hid (∀H,aH (fun i=>i=w.heap.size∨i=w.heap.size+1) d H→gC w.heap.size H.heap.size (.slice ad l.length a0) (l.map Prod.fst) H∧eE rb ao n cap zs f2 H∧aH (·=rb) w H):=fun H t=>⟨((f3.out.keep (fun b i5 _ d5 _=>t.block b d5 (by omega))).base (by omega)).top t.size,C.out.rd.new u F.out (t.mono (fun k G=>by omega)),C.out.t.andNew (t.mono (fun k G=>by omega))⟩
   go_wp2
   refine bodyPost_ret (v:=.agg (aV (o == 1) wd y D (.slice ad l.length a0))) (by simp[results,Tryz.results82,go_sem,aV,f4,f5,f6,f7,f8,f9,g0,g1,g2,g3]) rfl ?_;rw[e0.out];refine⟨ad,l.length,a0,by rw[e8.out],g4.out _ ?_⟩
   iterate 10 refine aH.thenSet (g:=w.heap.size) ?_ _ _ (.inl rfl)
   refine aH.thenSet (g:=w.heap.size+1) ?_ _ _ (.inr rfl);exact aH.refl _ _
end
section
open Go.RowKit
def jT(zs:List Int)(d:Int)(s:Rs):Ch×Rs:=
 let a:=cN zs 0 (d-1) [] s
 let b:=cN zs 0 (d-1) [a.1] a.2
 let c:=cN zs 1 4 [] b.2
 (⟨a.1,b.1,c.1⟩,c.2)
def gE(zs:List Int)(f d:Int)(s:Rs×Int):Wn×(Rs×Int):=
 let a:=cN zs 0 (f-1) [] s.1
 let b:=cN zs s.2 (d-1) [] a.2
 let c:=cN zs 1 (d-b.1) [] b.2
 (⟨a.1,b.1,c.1⟩,(c.2,b.1+c.1))
def mB(a b c:Int):Array Value:=#[.int .i64 a,.int .i64 b,.int .i64 c]
theorem Rw(w:World)(a:Int)(T:TypeId):xE (w.alloc (.cells #[.int .i64 a] T)) (some ⟨w.heap.size,0,none⟩) [a]:=fun i b=>⟨w.heap.size,0,rfl,by
 obtain rfl:i=0:=by simp at b;omega
 simp⟩
theorem zS(rb:Nat)(ao:Option Addr)(n cap:Nat)(zs:List Int)(s:Rs)(d:Int)(w:World)(h:eE rb ao n cap zs s w)(a7:0≤d∧d≤255):
 Calls Tryz.prog 86 #[.pointer (some ⟨rb,0,none⟩),.int .i64 d] w fun e w'=>e=.returned (.agg #[.int .i64 (jT zs d s).1.src,.int .i64 (jT zs d s).1.dst,.int .i64 (jT zs d s).1.depth])∧eE rb ao n cap zs (jT zs d s).2 w'∧aH (·=rb) w w':=by
 have f:=lt_of_block h.obj;have y:Hid (∀ad,ao=some ad→0<n→ad.block<w.heap.size):=h.held.lt;have E:=aI h.held.bytes;have F:=aI (vX.start h (mB 0 0 0) (mB 0 0 0) 142);clear h;have j:Hid (jT zs d s=(⟨(cN zs 0 (d-1) [] s).1,(cN zs 0 (d-1) [(cN zs 0 (d-1) [] s).1] (cN zs 0 (d-1) [] s).2).1,(cN zs 1 4 [] (cN zs 0 (d-1) [(cN zs 0 (d-1) [] s).1] (cN zs 0 (d-1) [] s).2).2).1⟩,(cN zs 1 4 [] (cN zs 0 (d-1) [(cN zs 0 (d-1) [] s).1] (cN zs 0 (d-1) [] s).2).2).2)):=rfl;have z:=aI (gW rb ao n cap zs s 0 (d-1) _ F.out.rd);have V:=eU zs 0 (d-1) [] s E.out;generalize (cN zs 0 (d-1) [] s).1=a at j z V;generalize (cN zs 0 (d-1) [] s).2=r1 at j z
 go_enter Tryz.func86,Tryz.ntmps86
 go_wp2_with fail
 refine z.out.mono ?_;rintro e G ⟨rfl,L,M⟩;have p:=aI (F.out.byte f L M);have p0:G.cell? ⟨w.heap.size+1,0,none⟩=some (.int .i64 0):=aD p.out.cur;have W:=aJ p.out.cur 0;have a8:=lt_of_block p.out.cur;clear L M F z;obtain⟨l,q⟩:∃l,l=G.setCell ⟨w.heap.size+1,0,none⟩ (.int .i64 a):=⟨_,rfl⟩;have H:l.heap.size=G.heap.size:=by rw[q];simp
 have N:Hid (vX rb ao n cap zs 142 (mB 0 0 0) w (mB a 0 0) r1 l):=by rw[q];exact p.out.set f y.out 0 (.int .i64 a)
 have I:Hid (vX rb ao n cap zs 142 (mB 0 0 0) w (mB a 0 0) r1 (l.alloc (.cells #[.int .i64 a] 3))):=N.out.new f y.out (bY _ _);have r:=aI (pD rb ao n cap zs r1 0 (d-1) (some ⟨l.heap.size,0,none⟩) 1 [a] _ I.out.rd (Rw l a 3) (by simp));have X:=eU zs 0 (d-1) [a] r1 E.out;generalize (cN zs 0 (d-1) [a] r1).1=b at j r X;generalize (cN zs 0 (d-1) [a] r1).2=u at j r;rw[H,q]at r;have O:=aI q;have Y:=aI H;clear q p H;go_wp2_with fail
 refine r.out.mono ?_;rw[←O.out];rintro e P ⟨rfl,Q,R⟩;have A:=aI (I.out.byte f Q R);have p1:P.cell? ⟨w.heap.size+1,1,none⟩=some (.int .i64 0):=aD A.out.cur;have Z:=aJ A.out.cur 1;clear Q R N I r O Y p0 W;have J:Hid (vX rb ao n cap zs 142 (mB 0 0 0) w (mB a b 0) u (P.setCell ⟨w.heap.size+1,1,none⟩ (.int .i64 b))):=A.out.set f y.out 1 (.int .i64 b);have B:=aI (gW rb ao n cap zs u 1 4 _ J.out.rd);have a0:=eU zs 1 4 [] u E.out;generalize (cN zs 1 4 [] u).1=c at j B a0;generalize (cN zs 1 4 [] u).2=a1 at j B;go_wp2_with fail
 refine B.out.mono ?_;rintro e m ⟨rfl,S,U⟩;have C:=aI (J.out.byte f S U);have x:=C.out.cur;have o:=C.out.zero;have a9:m.cell? ⟨w.heap.size+1,0,none⟩=some (.int .i64 a):=aD x;have b0:m.cell? ⟨w.heap.size+1,1,none⟩=some (.int .i64 b):=aD x;have b1:m.cell? ⟨w.heap.size+1,2,none⟩=some (.int .i64 0):=aD x;have b2:=aJ x 2;have a2:m.cell? ⟨w.heap.size,0,none⟩=some (.int .i64 0):=aD o;have a3:m.cell? ⟨w.heap.size,1,none⟩=some (.int .i64 0):=aD o;have a4:m.cell? ⟨w.heap.size,2,none⟩=some (.int .i64 0):=aD o;have b3:=aJ o 0;have b4:=aJ o 1;have b5:=aJ o 2;clear S U J B A p1 Z x o;have a5:Hid (∀D,aH (fun i=>i=w.heap.size∨i=w.heap.size+1) m D→eE rb ao n cap zs a1 D∧aH (·=rb) w D):=fun D t=>⟨C.out.rd.new f y.out (t.mono (fun k a6=>by omega)),C.out.t.andNew (t.mono (fun k a6=>by omega))⟩
 go_wp2
 refine bodyPost_ret (v:=.agg #[.int .i64 a,.int .i64 b,.int .i64 c]) (by simp[results,Tryz.results86,go_sem,a2,a3,a4]) rfl ?_;rw[j.out];refine⟨rfl,a5.out _ ?_⟩
 iterate 3 refine aH.thenSet (g:=w.heap.size) ?_ _ _ (.inl rfl)
 refine aH.thenSet (g:=w.heap.size+1) ?_ _ _ (.inr rfl);exact aH.refl _ _
theorem Ii(p1 p2:Nat)(rb:Nat)(ao:Option Addr)(n cap:Nat)(zs:List Int)(s:Rs)(a:Int)(w:World)(h:eE rb ao n cap zs s w)(o:0≤a∧a≤255)(j:w.heap[p1]?=some (.cells #[.pointer (some ⟨rb,0,none⟩)] 102 (0,0)))(l:w.heap[p2]?=some (.cells #[.int .i64 a] 3 (0,0))):
 Calls Tryz.prog 85 #[.pointer (some ⟨p1,0,none⟩),.pointer (some ⟨p2,0,none⟩)] w fun e w'=>e=.returned (.agg #[.int .i64 (jT zs a s).1.src,.int .i64 (jT zs a s).1.dst,.int .i64 (jT zs a s).1.depth])∧eE rb ao n cap zs (jT zs a s).2 w'∧aH (·=rb) w w':=by
 have u:=lt_of_block h.obj;have x:=aI h.held.lt;have E:=lt_of_block j;have F:=lt_of_block l;have c1:w.cell? ⟨p1,0,none⟩=some (.pointer (some ⟨rb,0,none⟩)):=aD j;have c2:w.cell? ⟨p2,0,none⟩=some (.int .i64 a):=aD l;have m:=aI (zS rb ao n cap zs s a _ (h.alloc (.cells (mB 0 0 0) 142)) o);clear h j l o;generalize jT zs a s=q at m ⊢
 go_enter Tryz.func85,Tryz.ntmps85
 go_wp2_with fail
 refine m.out.mono ?_;rintro e c ⟨rfl,p,d⟩;have y:=d.size;simp at y;have b:c.heap[w.heap.size]?=some (.cells (mB 0 0 0) 142 (0,0)):=(d.block _ (by simp) (by omega)).trans (heap_alloc_new w _);have z:c.cell? ⟨w.heap.size,0,none⟩=some (.int .i64 0):=aD b;have A:c.cell? ⟨w.heap.size,1,none⟩=some (.int .i64 0):=aD b;have B:c.cell? ⟨w.heap.size,2,none⟩=some (.int .i64 0):=aD b;have G:=aJ b 0;have H:=aJ b 1;have I:=aJ b 2;have r:=aI (And.intro p ((bY w _).andThen d));clear p d b m;go_wp2
 refine bodyPost_ret (v:=.agg #[.int .i64 q.1.src,.int .i64 q.1.dst,.int .i64 q.1.depth]) (by simp[results,Tryz.results85,go_sem,z,A,B]) rfl ?_;have C:Hid (∀f,aH (fun i=>i=w.heap.size) c f→eE rb ao n cap zs q.2 f∧aH (·=rb) w f):=fun f t=>⟨r.out.1.new u x.out (t.mono (fun k D=>by omega)),r.out.2.andNew (t.mono (fun k D=>by omega))⟩
 refine⟨rfl,C.out _ ?_⟩
 iterate 3 refine aH.thenSet (g:=w.heap.size) ?_ _ _ rfl
 exact aH.refl _ _
end
section
open Go.RowKit
theorem Lw(p1 p2 p3 p:Nat)(rb:Nat)(ao:Option Addr)(n cap:Nat)(zs:List Int)(s:Rs)(f d fin:Int)(w:World)(h:eE rb ao n cap zs s w)(d7:0≤f∧f≤255)(d8:0≤d∧d≤255)
 (F:w.heap[p1]?=some (.cells #[.pointer (some ⟨rb,0,none⟩)] 102 (0,0))) (N:w.heap[p2]?=some (.cells #[.int .i64 f] 3 (0,0))) (O:w.heap[p3]?=some (.cells #[.int .i64 fin] 3 (0,0))) (P:w.heap[p]?=some (.cells #[.int .i64 d] 3 (0,0)))
 (b3:p1≠rb) (a0:p3≠rb) (b4:p≠rb) (a1:∀ad,ao=some ad→0<n→ad.block≠p3):
 Calls Tryz.prog 122 #[.pointer (some ⟨p1,0,none⟩),.pointer (some ⟨p2,0,none⟩),.pointer (some ⟨p3,0,none⟩),.pointer (some ⟨p,0,none⟩)] w fun e w'=>e=.returned (.agg #[.int .i64 (gE zs f d (s,fin)).1.part,.int .i64 (gE zs f d (s,fin)).1.first,.int .i64 (gE zs f d (s,fin)).1.many])∧eE rb ao n cap zs (gE zs f d (s,fin)).2.1 w'∧w'.heap[p3]?=some (.cells #[.int .i64 (gE zs f d (s,fin)).2.2] 3 (0,0))∧aH (fun i=>i=rb∨i=p3) w w':=by
 have q:=lt_of_block h.obj;have b5:=lt_of_block F;have d9:=lt_of_block N;have b6:=lt_of_block O;have b7:=lt_of_block P;have G:Hid (∀ad,ao=some ad→0<n→ad.block<w.heap.size):=h.held.lt;have b8:=aI a1;have Q:=aI h.held.bytes;have R:=aI (vX.start h (mB 0 0 0) (mB 0 0 0) 131);have c1:w.cell? ⟨p1,0,none⟩=some (.pointer (some ⟨rb,0,none⟩)):=aD F;have c2:w.cell? ⟨p2,0,none⟩=some (.int .i64 f):=aD N;have l:Hid (∀W,aH (·=rb) w W→W.heap[p1]?=some (.cells #[.pointer (some ⟨rb,0,none⟩)] 102 (0,0))∧W.heap[p3]?=some (.cells #[.int .i64 fin] 3 (0,0))∧W.heap[p]?=some (.cells #[.int .i64 d] 3 (0,0))):=fun W t=>⟨(t.block _ b5 b3).trans F,(t.block _ b6 a0).trans O,(t.block _ b7 b4).trans P⟩
 clear h F N O P a1;have r:Hid (gE zs f d (s,fin)=(⟨(cN zs 0 (f-1) [] s).1,(cN zs fin (d-1) [] (cN zs 0 (f-1) [] s).2).1,(cN zs 1 (d-(cN zs fin (d-1) [] (cN zs 0 (f-1) [] s).2).1) [] (cN zs fin (d-1) [] (cN zs 0 (f-1) [] s).2).2).1⟩,((cN zs 1 (d-(cN zs fin (d-1) [] (cN zs 0 (f-1) [] s).2).1) [] (cN zs fin (d-1) [] (cN zs 0 (f-1) [] s).2).2).2,(cN zs fin (d-1) [] (cN zs 0 (f-1) [] s).2).1+(cN zs 1 (d-(cN zs fin (d-1) [] (cN zs 0 (f-1) [] s).2).1) [] (cN zs fin (d-1) [] (cN zs 0 (f-1) [] s).2).2).1))):=rfl;have H:=aI (gW rb ao n cap zs s 0 (f-1) _ R.out.rd);have b9:=eU zs 0 (f-1) [] s Q.out;generalize (cN zs 0 (f-1) [] s).1=a at r H b9;generalize (cN zs 0 (f-1) [] s).2=r1 at r H
 go_enter Tryz.func122,Tryz.ntmps122
 go_wp2_with fail
 refine H.out.mono ?_;rintro e C ⟨rfl,a2,a3⟩;have m:=aI (R.out.byte q a2 a3);have a4:C.cell? ⟨w.heap.size+1,0,none⟩=some (.int .i64 0):=aD m.out.cur;have c0:=aJ m.out.cur 0;have e0:=lt_of_block m.out.cur;clear a2 a3 R H c1 c2;have S:C.cell? ⟨p1,0,none⟩=some (.pointer (some ⟨rb,0,none⟩)):=by rw[cell_of_row _ _ _ _ _ _ (l.out _ m.out.t).1];rfl
 have a5:C.cell? ⟨p3,0,none⟩=some (.int .i64 fin):=by rw[cell_of_row _ _ _ _ _ _ (l.out _ m.out.t).2.1];rfl
 have U:C.cell? ⟨p,0,none⟩=some (.int .i64 d):=by rw[cell_of_row _ _ _ _ _ _ (l.out _ m.out.t).2.2];rfl
 have V:Hid (vX rb ao n cap zs 131 (mB 0 0 0) w (mB a 0 0) r1 (C.setCell ⟨w.heap.size+1,0,none⟩ (.int .i64 a))):=m.out.set q G.out 0 (.int .i64 a);have I:=aI (gW rb ao n cap zs r1 fin (d-1) _ V.out.rd);have c3:=eU zs fin (d-1) [] r1 Q.out;generalize (cN zs fin (d-1) [] r1).1=b at r I c3;generalize (cN zs fin (d-1) [] r1).2=D at r I;have e1:¬p1=w.heap.size+1:=by omega
 have e2:¬p3=w.heap.size+1:=by omega
 have e3:¬p=w.heap.size+1:=by omega
 go_wp2_with fail
 refine I.out.mono ?_;rintro e J ⟨rfl,a6,a7⟩;have z:=aI (V.out.byte q a6 a7);have c4:J.cell? ⟨w.heap.size+1,1,none⟩=some (.int .i64 0):=aD z.out.cur;have c5:=aJ z.out.cur 1;clear a6 a7 V I m a4 c0 S a5 U;have S:J.cell? ⟨p1,0,none⟩=some (.pointer (some ⟨rb,0,none⟩)):=by rw[cell_of_row _ _ _ _ _ _ (l.out _ z.out.t).1];rfl
 have U:J.cell? ⟨p,0,none⟩=some (.int .i64 d):=by rw[cell_of_row _ _ _ _ _ _ (l.out _ z.out.t).2.2];rfl
 have X:Hid (vX rb ao n cap zs 131 (mB 0 0 0) w (mB a b 0) D (J.setCell ⟨w.heap.size+1,1,none⟩ (.int .i64 b))):=z.out.set q G.out 1 (.int .i64 b);have L:=aI (gW rb ao n cap zs D 1 (d-b) _ X.out.rd);have c6:=eU zs 1 (d-b) [] D Q.out;generalize (cN zs 1 (d-b) [] D).1=c at r L c6;generalize (cN zs 1 (d-b) [] D).2=M at r L;go_wp2_with fail
 refine L.out.mono ?_;rintro e j ⟨rfl,a8,a9⟩;have o:=aI (X.out.byte q a8 a9);have E:=o.out.cur;have u:=o.out.zero;clear S U;have a5:j.cell? ⟨p3,0,none⟩=some (.int .i64 fin):=by rw[cell_of_row _ _ _ _ _ _ (l.out _ o.out.t).2.1];rfl
 have e4:=aJ (l.out _ o.out.t).2.1 0;have a4:j.cell? ⟨w.heap.size+1,0,none⟩=some (.int .i64 a):=aD E;have e5:j.cell? ⟨w.heap.size+1,1,none⟩=some (.int .i64 b):=aD E;have e6:j.cell? ⟨w.heap.size+1,2,none⟩=some (.int .i64 0):=aD E;have e7:=aJ E 2;have c7:j.cell? ⟨w.heap.size,0,none⟩=some (.int .i64 0):=aD u;have c8:j.cell? ⟨w.heap.size,1,none⟩=some (.int .i64 0):=aD u;have c9:j.cell? ⟨w.heap.size,2,none⟩=some (.int .i64 0):=aD u;have e8:=aJ u 0;have e9:=aJ u 1;have f0:=aJ u 2;have f1:¬w.heap.size+1=p3:=by omega
 have f2:¬w.heap.size=p3:=by omega
 have f3:¬p3=w.heap.size:=by omega
 clear a8 a9 X L z c4 c5 E u;have d0:Hid (∀x A B v,aH (fun i=>i=w.heap.size+1) j x→A=x.setCell ⟨p3,0,none⟩ v→aH (fun i=>i=w.heap.size) A B→eE rb ao n cap zs M B∧B.heap[p3]?=some (.cells #[v] 3 (0,0))∧aH (fun i=>i=rb∨i=p3) w B):=by
  intro x A B v Y b0 Z;have d1:x.heap[p3]?=some (.cells #[.int .i64 fin] 3 (0,0)):=(Y.block _ (lt_of_block (l.out _ o.out.t).2.1) (by omega)).trans (l.out _ o.out.t).2.1;have b1:aH (fun i=>i=p3) x A:=by rw[b0];exact aH.ofSet _ _ _ _ rfl
  have b2:A.heap[p3]?=some (.cells #[v] 3 (0,0)):=by rw[b0];exact aK d1 0 _
  have d2:eE rb ao n cap zs M x:=o.out.rd.new q G.out (Y.mono (fun k y=>by omega));have d3:eE rb ao n cap zs M A:=d2.keep b1 (fun h=>a0 h.symm) (fun ad e d4 h=>b8.out ad e d4 h);have d5:eE rb ao n cap zs M B:=d3.new q G.out (Z.mono (fun k y=>by omega));refine⟨d5,(Z.block _ (lt_of_block b2) (by omega)).trans b2,?_⟩;have d6:aH (fun i=>i=rb∨i=p3) w x:=(o.out.t.mono (fun k y=>.inl y)).andNew (Y.mono (fun k y=>by omega));exact(d6.andThen (b1.mono (fun k y=>.inr y))).andNew (Z.mono (fun k y=>by omega))
 go_wp2
 refine bodyPost_ret (v:=.agg #[.int .i64 a,.int .i64 b,.int .i64 c]) (by simp[results,Tryz.results122,go_sem,c7,c8,c9]) rfl ?_;rw[r.out];refine⟨rfl,d0.out (j.setCell ⟨w.heap.size+1,2,none⟩ (.int .i64 c)) ((j.setCell ⟨w.heap.size+1,2,none⟩ (.int .i64 c)).setCell ⟨p3,0,none⟩ (.int .i64 (b+c))) _ (.int .i64 (b+c)) (aH.ofSet _ _ _ _ rfl) rfl ?_⟩
 iterate 3 refine aH.thenSet (g:=w.heap.size) ?_ _ _ rfl
 exact aH.refl _ _
theorem Pp(w:World)(a b c d:Obj):((((w.alloc a).alloc b).alloc c).alloc d).heap[w.heap.size+1+1+1]?=some d:=by
 have h:=heap_alloc_new (((w.alloc a).alloc b).alloc c) d;rw[show(((w.alloc a).alloc b).alloc c).heap.size=w.heap.size+1+1+1 from by simp]at h;exact h
def oV(zs:List Int)(b c:Int)(s:Rs):List Wn×Rs:=
 let a:=cN zs 1 8 [] s
 let q:=gD (gE zs b c) a.1.toNat (a.2,0)
 (q.1,q.2.1)
theorem zX(rb:Nat)(ao:Option Addr)(n cap:Nat)(zs:List Int)(s:Rs)(a d:Int)(w:World)(h:eE rb ao n cap zs s w)(a1:0≤a∧a≤255)(a2:0≤d∧d≤255):
 Calls Tryz.prog 83 #[.pointer (some ⟨rb,0,none⟩),.int .i64 a,.int .i64 d] w fun e w'=>∃ad N c,e=.returned (.slice ad N c)∧kF w.heap.size (.slice ad N c) (oV zs a d s).1 w'∧eE rb ao n cap zs (oV zs a d s).2 w'∧aH (·=rb) w w':=by
 have a9:=lt_of_block h.obj;have O:Hid (∀ad,ao=some ad→0<n→ad.block<w.heap.size):=h.held.lt;have a3:=aI h.held.bytes;obtain⟨j,m⟩:∃j,j=((((w.alloc (.cells #[.pointer (some ⟨rb,0,none⟩)] 102)).alloc (.cells #[.int .i64 a] 3)).alloc (.cells #[.int .i64 d] 3)).alloc (.cells #[.int .i64 0] 3)):=⟨_,rfl⟩;have b0:j.heap.size=w.heap.size+4:=by rw[m];simp
 have q:j.heap[w.heap.size]?=some (.cells #[.pointer (some ⟨rb,0,none⟩)] 102 (0,0)):=by rw[m];exact(Below.heap_alloc _ _ _ (by simp;omega)).trans ((Below.heap_alloc _ _ _ (by simp;omega)).trans ((Below.heap_alloc _ _ _ (by simp)).trans (heap_alloc_new w _)))
 have r:j.heap[w.heap.size+1]?=some (.cells #[.int .i64 a] 3 (0,0)):=by rw[m];exact(Below.heap_alloc _ _ _ (by simp)).trans ((Below.heap_alloc _ _ _ (by simp)).trans (qX w _ _))
 have u:j.heap[w.heap.size+1+1]?=some (.cells #[.int .i64 d] 3 (0,0)):=by rw[m];exact(Below.heap_alloc _ _ _ (by simp)).trans (Be w _ _ _)
 have x:j.heap[w.heap.size+1+1+1]?=some (.cells #[.int .i64 0] 3 (0,0)):=by rw[m];exact Pp w _ _ _ _
 have y:aH (·=rb) w j:=by rw[m];exact(((bY _ _).andThen (bY _ _)).andThen (bY _ _)).andThen (bY _ _)
 have P:eE rb ao n cap zs s j:=by rw[m];exact(((h.alloc _).alloc _).alloc _).alloc _
 have C:=aI (gW rb ao n cap zs s 1 8 _ P);have D:Hid (oV zs a d s=((gD (gE zs a d) (cN zs 1 8 [] s).1.toNat ((cN zs 1 8 [] s).2,0)).1,(gD (gE zs a d) (cN zs 1 8 [] s).1.toNat ((cN zs 1 8 [] s).2,0)).2.1)):=rfl;have a4:=eU zs 1 8 [] s a3.out;have a5:=uJ zs 1 8 [] s (by omega);generalize (cN zs 1 8 [] s).1=E at D C a4 a5;generalize (cN zs 1 8 [] s).2=F at D C;have Q:=aI m;have R:=aI (And.intro q (And.intro r (And.intro u (And.intro x y))));clear h q r u x y P m
 go_enter Tryz.func83,Tryz.ntmps83
 go_wp2_with fail
 rw[←Q.out];refine C.out.mono ?_;rintro e G ⟨rfl,o,f⟩;obtain⟨q,r,u,x,y⟩:=R.out;have b1:=f.size;have S:=(f.block _ (by omega) (by omega)).trans q;have U:=(f.block _ (by omega) (by omega)).trans r;have V:=(f.block _ (by omega) (by omega)).trans u;have W:=(f.block _ (by omega) (by omega)).trans x;have X:=y.andThen f;have p:=aI (And.intro S (And.intro U (And.intro V (And.intro W (And.intro X o)))));clear q r u x y S U V W X o f R C Q;have H:=Qj w.heap.size (w.heap.size+1) (w.heap.size+1+1+1) (w.heap.size+1+1) E.toNat (by omega) (fun i=>i=rb∨i=w.heap.size+1+1+1) G (fun b b2=>by omega) (fun z l wr=>l=(gD (gE zs a d) z (F,0)).1∧eE rb ao n cap zs (gD (gE zs a d) z (F,0)).2.1 wr∧wr.heap[w.heap.size+1+1+1]?=some (.cells #[.int .i64 (gD (gE zs a d) z (F,0)).2.2] 3 (0,0))∧aH (fun i=>i=rb∨i=w.heap.size+1+1+1) G wr)
  (fun z l wr w' g t=>⟨g.1,g.2.1.new (B:=G.heap.size) (by omega) (fun ad e I=>by have:=O.out ad e I;omega) (t.mono (fun k A=>A.1)),(t.block _ (lt_of_block g.2.2.1) (fun A=>by have:=A.1;omega)).trans g.2.2.1,g.2.2.2.andNew (t.mono (fun k A=>A.1))⟩)
  (fun z l wr b3 g=>(Lw w.heap.size (w.heap.size+1) (w.heap.size+1+1+1) (w.heap.size+1+1) rb ao n cap zs _ a d _ wr g.2.1 a1 a2 ((g.2.2.2.block _ (by omega) (by omega)).trans p.out.1) ((g.2.2.2.block _ (by omega) (by omega)).trans p.out.2.1) g.2.2.1 ((g.2.2.2.block _ (by omega) (by omega)).trans p.out.2.2.1) (by omega) (by omega) (by omega) (fun ad e I=>by have:=O.out ad e I;omega)).mono (fun e w' ⟨a6,o,J,f⟩=>⟨_,a6,⟨by rw[g.1];rfl,o,J,g.2.2.2.andThen f⟩,f⟩))
  ⟨rfl,p.out.2.2.2.2.2,p.out.2.2.2.1,aH.refl _ _⟩
 rw[show((E.toNat:Nat):Int)=E from by omega]at H;have Y:=aI H;clear H;go_wp2_with fail
 refine Y.out.mono ?_;rintro e L ⟨v,l,rfl,⟨Z,o,J,f⟩,a7,M⟩;obtain⟨ad,a0,rfl⟩:=bL M;have a8:Hid (kF w.heap.size (.slice ad l.length a0) (oV zs a d s).1 L∧eE rb ao n cap zs (oV zs a d s).2 L∧aH (·=rb) w L):=by
  rw[D.out];refine⟨?_,o,aH.trans (T:=fun i=>i=rb∨i=w.heap.size+1+1+1) p.out.2.2.2.2.1 f (fun i b4=>by omega)⟩;rw[←Z];exact bI M (by omega)
 clear Z o J f a7 M Y p;go_wp2
 go_ret
 exact⟨ad,l.length,a0,rfl,a8.out⟩
end
end Go.Proofs.YtnjlbgolnbdkaaaGreat
