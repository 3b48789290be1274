/- All, with short names -/
import Derived.Test.YtnjlbgolnbdkaaaGreatP13
import Derived.Test.YtnjlbgolnbdkaaaGreatP10
import Derived.Deep.WholeRow
import Derived.Conc.SmallLaws
import Derived.Test.YtnjlbgolnbdkaaaGreatP11
import Derived.Deep.RegionLaw
import Derived.Deep.CutRange
import Derived.Test.YtnjlbgolnbdkaaaGreatP04
set_option maxRecDepth 100000
set_option maxHeartbeats 16000000
namespace Go.Proofs.YtnjlbgolnbdkaaaGreat
open Go Go.RowKit
section
open Go.RowKit
attribute [-go_sem] Instr.storeAt
theorem xQ(l:List cQ):(l.flatMap cU).length=l.length*3:=by
 induction l with
 | nil=>rfl
 | cons a l ih=>rw[List.flatMap_cons,List.length_append,ih];show 3+_=_;simp;omega
theorem yU(l:List cQ):∀a∈l.flatMap cU,a.oneCell'=true:=by
 intro a c;obtain⟨p,_,b⟩:=List.mem_flatMap.1 c;simp[cU]at b;rcases b with rfl| rfl| rfl<;>rfl
theorem Bx(l:List Int):∀a∈l.map (Value.int .i64),a.oneCell'=true:=by
 intro a b;obtain⟨z,_,rfl⟩:=List.mem_map.1 b;rfl
theorem Tryz.size43:(Tryz.prog.info? 43).map (·.size)=some 4:=by kernel_rfl
theorem Qd(m:bN)(g:Nat)(st:aQ)(i:Nat)(rs:Int)(w:World)(R:aU w m g st)(G:eA st)(q:i<st.parts.length):
 Calls Tryz.prog 74 #[.pointer (some ⟨m.pb,i*14,none⟩),.int .i64 rs] w fun e w'=>∃f c1 j c2,e=.returned (.agg #[.int .i64 (st.parts.getD i default).mode,.int .i64 rs,.slice (some ⟨f,0,none⟩) (st.parts.getD i default).words.length c1,.slice (some ⟨j,0,none⟩) (st.parts.getD i default).procs.length c2])∧
  w'.ownsRow w.heap.size 3 1 (.slice (some ⟨f,0,none⟩) (st.parts.getD i default).words.length c1) (st.parts.getD i default).words.length ((st.parts.getD i default).words.map (Value.int .i64))∧w'.ownsRow w.heap.size 47 3 (.slice (some ⟨j,0,none⟩) (st.parts.getD i default).procs.length c2) (st.parts.getD i default).procs.length ((st.parts.getD i default).procs.flatMap cU)∧Below w.heap.size w w':=by
 obtain⟨l,x⟩:∃l,l=(w.alloc (.cells #[.pointer (some ⟨m.pb,i*14,none⟩)] 158)).alloc (.cells #[.int .i64 0,.int .i64 0,.slice none 0 0,.slice none 0 0] 43):=⟨_,rfl⟩;have f7:l.heap.size=w.heap.size+2:=by rw[x];simp
 have S:Below w.heap.size w l:=by rw[x];exact(aG _ _).alloc (by simp) _
 have H:l.heap[w.heap.size]?=some (.cells #[.pointer (some ⟨m.pb,i*14,none⟩)] 158 (0,0)):=by rw[x,Below.heap_alloc _ _ _ (by simp)];exact cG rfl
 have a9:l.heap[w.heap.size+1]?=some (.cells #[.int .i64 0,.int .i64 0,.slice none 0 0,.slice none 0 0] 43 (0,0)):=by rw[x];exact cG (by simp)
 have d3:l.cell? ⟨w.heap.size,0,none⟩=some (.pointer (some ⟨m.pb,i*14,none⟩)):=aD H;have A:=R.below S;have f8:l.cell? ⟨m.pb,i*14+11,none⟩=some (.slice (some ⟨m.pr i,0,none⟩) (st.parts.getD i default).procs.length (st.parts.getD i default).procs.length):=by rw[A.cellP i 11 q (by omega)];rfl
 have b0:=aI (Gh (m.pr i) (st.parts.getD i default).procs.length l);have b1:Hid (∀W,Below l.heap.size l W→Calls Tryz.prog 108 #[.int .i64 (st.parts.getD i default).procs.length,.func (.func 110) #[] #[.pointer (some ⟨w.heap.size,0,none⟩)]] W fun e w'=>∃n,e=.returned (.agg #[.slice (some ⟨n,0,none⟩) (st.parts.getD i default).procs.length (st.parts.getD i default).procs.length])∧W.heap.size≤n∧w'.heap[n]?=some (.cells ((st.parts.getD i default).procs.flatMap cU).toArray 47 (0,0))∧Below W.heap.size W w'):=fun W d=>Hr w.heap.size m g st i W (A.below d) G q ((aT (d.block _ (aR H)) 0).trans d3)
 have d4:=G.np i q;have b2:=G.nw i q;have I:Hid (∀W,Below l.heap.size l W→W.cell? ⟨m.pb,i*14+9,none⟩=some (.int .i64 (st.parts.getD i default).mode)∧W.cell? ⟨m.pb,i*14+10,none⟩=some (.slice (some ⟨m.wd i,0,none⟩) (st.parts.getD i default).words.length (st.parts.getD i default).words.length)∧W.heap[m.wd i]?=some (.cells ((st.parts.getD i default).words.map (Value.int .i64)).toArray 3 (0,0))):=fun W d=>⟨by rw[(A.below d).cellP i 9 q (by omega)];rfl,by rw[(A.below d).cellP i 10 q (by omega)];rfl,(A.below d).words i q⟩
 have d5:=aI S;have d6:=aI H;have b3:=aI a9;have d7:=aI x;have d8:w.cell? ⟨m.pb,i*14+11,none⟩=some (.slice (some ⟨m.pr i,0,none⟩) (st.parts.getD i default).procs.length (st.parts.getD i default).procs.length):=by rw[R.cellP i 11 q (by omega)];rfl
 have f9:=aN d8;clear R A G S H a9 x;have d9:(st.parts.getD i default).words.length=(st.parts.getD i default).words.length:=rfl;generalize (st.parts.getD i default).mode=mo at *;generalize b4:(st.parts.getD i default).words=T at *;generalize b5:(st.parts.getD i default).procs=U at *;have g0:=aI b4;have g1:=aI b5;clear b4 b5 d9 q;generalize b6:T.length=nw at *;generalize b7:U.length=np at *;have e0:=aI b6;have e1:=aI b7;generalize i*14=o at *;generalize m.pb=pb at *;generalize m.wd i=C at *;generalize m.pr i=g2 at *;clear b6 b7
 go_enter Tryz.func74,Tryz.ntmps74
 go_wp2_with fail
 rw[←d7.out];refine b0.out.mono ?_;rintro e e2 ⟨rfl,V⟩;have b8:=aI V;have b9:=aI (b1.out e2 V);clear V b0 b1;go_wp2_with fail
 refine b9.out.mono ?_;rintro e r ⟨s,rfl,e3,c0,c3⟩;have J:Below l.heap.size l r:=b8.out.trans (c3.mono b8.out.size);obtain⟨u,X⟩:∃u,u=r.heap.size:=⟨_,rfl⟩;obtain⟨p,L⟩:∃p,p=r.alloc (.cells #[.slice (some ⟨s,0,none⟩) np np] 213):=⟨_,rfl⟩;have Y:Below r.heap.size r p:=aE L;have Z:Below l.heap.size l p:=J.trans (Y.mono J.size);have a0:p.heap[u]?=some (.cells #[.slice (some ⟨s,0,none⟩) np np] 213 (0,0)):=by rw[L];exact cG X
 obtain⟨P,D⟩:∃P:World→Prop,P=fun W=>Below p.heap.size p W:=⟨_,rfl⟩
 have B:Hid (P p):=by show P p;rw[D];exact Below.refl _ _
 have a1:Hid (∀W,P W→Below p.heap.size p W):=fun W h=>by rw[D]at h;exact h
 have c4:Hid (∀W a2,P W→Below W.heap.size W a2→P a2):=fun W a2 h y=>by rw[D]at h ⊢;exact h.trans (y.mono h.size)
 have M:Hid (∀W,P W→P W.drew):=fun W h=>by rw[D]at h ⊢;exact h.drew
 have z:Hid (∀W,P W→Below l.heap.size l W):=fun W d=>Z.trans ((a1.out W d).mono Z.size)
 have E:Hid (∀W,P W→W.cell? ⟨w.heap.size,0,none⟩=some (.pointer (some ⟨pb,o,none⟩))∧W.cell? ⟨pb,o+9,none⟩=some (.int .i64 mo)∧W.cell? ⟨pb,o+10,none⟩=some (.slice (some ⟨C,0,none⟩) nw nw)∧W.cell? ⟨u,0,none⟩=some (.slice (some ⟨s,0,none⟩) np np)):=fun W d=>⟨by rw[cell_of_row _ _ _ _ _ _ (eT (z.out W d) d6.out)];rfl,(I.out W (z.out W d)).1,(I.out W (z.out W d)).2.1,by rw[cell_of_row _ _ _ _ _ _ (eT (a1.out W d) a0)];rfl⟩
 have e4:Hid (∀W,P W→Calls Tryz.prog 111 #[.agg #[.slice (some ⟨C,0,none⟩) nw nw]] W fun e w'=>∃n cap,e=.returned (.slice (some ⟨n,0,none⟩) nw cap)∧w'.ownsRow W.heap.size 3 1 (.slice (some ⟨n,0,none⟩) nw cap) nw (T.map (Value.int .i64))∧Below W.heap.size W w'∧P w'):=fun W d=>(Br C nw _ W (by rw[List.length_map,e0.out];omega) (Bx T) b2.1 b2.2 (I.out W (z.out W d)).2.2).mono (fun e w' ⟨n,cap,a3,a4,y⟩=>⟨n,cap,a3,a4,y,c4.out W w' d y⟩)
 have e5:Hid (∀W,P W→Calls Tryz.prog 112 #[.agg #[.slice (some ⟨s,0,none⟩) np np]] W fun e w'=>∃n cap,e=.returned (.slice (some ⟨n,0,none⟩) np cap)∧w'.ownsRow W.heap.size 47 3 (.slice (some ⟨n,0,none⟩) np cap) np (U.flatMap cU)∧Below W.heap.size W w'∧P w'):=fun W d=>(wY s np _ W (by rw[xQ,e1.out]) (yU U) d4.1 (by omega) (eT (a1.out W d) (eT Y c0))).mono (fun e w' ⟨n,cap,a3,a4,y⟩=>⟨n,cap,a3,a4,y,c4.out W w' d y⟩)
 have c5:Hid (∀W,P W→W.heap[w.heap.size+1]?=some (.cells #[.int .i64 0,.int .i64 0,.slice none 0 0,.slice none 0 0] 43 (0,0))):=fun W d=>eT (z.out W d) b3.out
 have e6:Hid (∀W,P W→Below w.heap.size w W):=fun W d=>d5.out.trans ((z.out W d).mono (by omega))
 have e7:=aI L;have e8:=aI X;have a5:Hid (∀W,P W→l.heap.size≤W.heap.size):=fun W d=>(z.out W d).size
 have e9:Hid (u<p.heap.size∧w.heap.size+1<u):=⟨aR a0,by have:=J.size;omega⟩;clear e3 c0 c3 J X L Y Z a0 D b9;obtain⟨F,hF⟩:∃F:World→Nat→Nat→Nat→Nat→World,F=fun W f c1 j c2=>W.setCells (w.heap.size+1) 0 [.int .i64 mo,.int .i64 rs,.slice (some ⟨f,0,none⟩) nw c1,.slice (some ⟨j,0,none⟩) np c2]:=⟨_,rfl⟩
 have f0:Hid (∀W f c1 j c2,P W→(Instr.storeAt 43 (.pointer (some ⟨w.heap.size+1,0,none⟩)) (.agg #[.int .i64 mo,.int .i64 rs,.slice (some ⟨f,0,none⟩) nw c1,.slice (some ⟨j,0,none⟩) np c2])).run Tryz.prog W=.ok () (F W f c1 j c2)):=fun W f c1 j c2 d=>by
  rw[hF];exact run_storeAt_mid (P:=Tryz.prog) W (w.heap.size+1) 0 43 _ (kB (c5.out W d) 4 (by decide)) (by rw[Tryz.size43];rfl) (by simp[Value.oneCell'])
 have c6:Hid (∀W f c1 j c2,P W→(F W f c1 j c2).heap[w.heap.size+1]?=some (.cells #[.int .i64 mo,.int .i64 rs,.slice (some ⟨f,0,none⟩) nw c1,.slice (some ⟨j,0,none⟩) np c2] 43 (0,0))∧aH (·=w.heap.size+1) W (F W f c1 j c2)):=fun W f c1 j c2 d=>by
  rw[hF];exact⟨kO _ (c5.out W d) rfl,jB _ _ _ _⟩
 have f1:Hid (∀W f c1 j c2,P W→(F W f c1 j c2).cell? ⟨w.heap.size,0,none⟩=some (.pointer (some ⟨pb,o,none⟩))∧(F W f c1 j c2).cell? ⟨pb,o+9,none⟩=some (.int .i64 mo)∧(F W f c1 j c2).cell? ⟨pb,o+10,none⟩=some (.slice (some ⟨C,0,none⟩) nw nw)∧(F W f c1 j c2).cell? ⟨u,0,none⟩=some (.slice (some ⟨s,0,none⟩) np np)):=fun W f c1 j c2 d=>by
  obtain⟨c7,a6,f2,c8⟩:=E.out W d;have t:=(c6.out W f c1 j c2 d).2;have c9:pb≠w.heap.size+1:=by
   rintro rfl;have d0:=(I.out l (Below.refl _ _)).1;rw[cell_of_row _ _ _ _ _ _ b3.out]at d0;have:=(Array.getElem?_eq_some_iff.1 d0).1;simp at this;omega
  exact⟨(aT (t.block _ (aN c7) (by omega)) _).trans c7,(aT (t.block _ (aN a6) c9) _).trans a6,(aT (t.block _ (aN a6) c9) _).trans f2,(aT (t.block _ (aN c8) (by have:=e9.out;omega)) _).trans c8⟩
 have g3:(Instr.storeAt 213 (.pointer (some ⟨r.heap.size,0,none⟩)) (.agg #[.slice (some ⟨s,0,none⟩) np np])).run Tryz.prog (r.alloc (.cells #[.slice none 0 0] 213))=.ok () (r.alloc (.cells #[.slice (some ⟨s,0,none⟩) np np] 213)):=run_storeAt_new r 213 _ _ (by kernel_rfl) rfl (by simp[Value.oneCell']);clear hF;obtain⟨g4,r1,g5,g6⟩:=E.out _ B.out;go_wp2_with fail
 rw[←e7.out,←e8.out]
 go_region_held3 (fun w'=>w'.cell? ⟨w.heap.size,0,none⟩=some (.pointer (some ⟨pb,o,none⟩))∧w'.cell? ⟨pb,o+9,none⟩=some (.int .i64 mo)∧w'.cell? ⟨pb,o+10,none⟩=some (.slice (some ⟨C,0,none⟩) nw nw)∧w'.cell? ⟨u,0,none⟩=some (.slice (some ⟨s,0,none⟩) np np))
  ((first| exact E.out _ B.out| exact E.out _ (M.out _ B.out)| exact E.out _ (by assumption)| exact f1.out _ _ _ _ _ (by assumption)))
  (first
   | (go_at_call 111;refine(e4.out _ (by first | assumption | exact M.out _ B.out)).mono ?_;rintro e f3 ⟨f,c1,rfl,N,x,f4⟩)
   | (go_at_call 112;refine(e5.out _ (by first | assumption | exact M.out _ B.out)).mono ?_;rintro e O ⟨j,c2,rfl,a7,d1,Q⟩;have g7:=fun a b c f5=>f0.out O a b c f5 Q))
 all_goals
  go_wp2
  obtain⟨f6,a8⟩:=c6.out O f c1 j c2 Q;have d2:=e6.out O Q;have g8:=a5.out O Q;have g9:=a5.out f3 f4;have h0:=a5.out _ (M.out _ B.out);refine bodyPost_ret (v:=.agg #[.int .i64 mo,.int .i64 rs,.slice (some ⟨f,0,none⟩) nw c1,.slice (some ⟨j,0,none⟩) np c2]) (qI Tryz.results74 _ _ _ (by rfl) f6 Tryz.underlying43 (by rw[Tryz.size43];rfl)) rfl ?_;refine⟨f,c1,j,c2,rfl,?_,?_,d2.trans (a8.below d2.size (fun k h1=>by omega))⟩
  ·refine bI (aO (aO N (fun b e=>d1.block b (World.ownsRow.lt N b e).2)) (fun b e=>a8.block b (Nat.lt_of_lt_of_le (World.ownsRow.lt N b e).2 d1.size) (by have:=(World.ownsRow.lt N b e).1;omega))) (by omega)
  ·refine bI (aO a7 (fun b e=>a8.block b (World.ownsRow.lt a7 b e).2 (by have:=(World.ownsRow.lt a7 b e).1;omega))) (by omega)
end
section
open Go.RowKit
attribute [local go_sem] qB
theorem Il(cb x n c a:Nat)(b d f:Int)(w:World)(i:a<n)(g:w.cell? ⟨cb,3,none⟩=some (.slice (some ⟨x,0,none⟩) n c))(h:w.cell? ⟨x,a*3,none⟩=some (.int .i64 b))(j:w.cell? ⟨x,a*3+1,none⟩=some (.int .i64 d))(k:w.cell? ⟨x,a*3+2,none⟩=some (.int .i64 f)):
 Calls Tryz.prog 54 #[.int .i64 a,.pointer (some ⟨cb,0,none⟩)] w fun e w'=>e=.returned (.agg #[.int .i64 b,.int .i64 d,.int .i64 f])∧Below w.heap.size w w':=by
 have l:=aN g;have m:=aN h
 go_enter Tryz.func54,Tryz.ntmps54
 go_wp2
 exact bodyPost_ret (v:=.agg #[.int .i64 b,.int .i64 d,.int .i64 f]) (by simp[results,Tryz.results54,go_sem]) rfl ⟨rfl,aG _ _⟩
theorem Pf(s t a:Int)(w:World)(f:1≤a∧a≤4):
 Calls Tryz.prog 57 #[.agg #[.int .i64 s,.int .i64 t,.int .i64 a]] w fun e w'=>∃x,e=.returned (.agg #[.int .i64 s,.int .i64 t,.chan (some x)])∧w.heap.size≤x∧w'.heap[x]?=some (.chan a.toNat #[] false 0 0 false)∧Below w.heap.size w w':=by
 have g:∀W:World,(Instr.makeChan 137 (.int .i64 a)).run Tryz.prog W=.ok (.chan (some W.heap.size)) (W.alloc (.chan a.toNat #[] false 0 0 false)):=by
  intro W;obtain⟨n,rfl⟩:=Int.eq_ofNat_of_zero_le (show 0≤a by omega);obtain⟨h,b,i,j,c⟩:=info_parts Tryz.info3;exact Go.Conc.run_makeChan (P:=Tryz.prog) (w:=W) Tryz.underlying137 b .i64 n (by omega) (by rw[c];omega)
 have d:Hid (Below w.heap.size w ((w.alloc (.cells #[.int .i64 s,.int .i64 t,.int .i64 a] 142)).alloc (.cells #[.int .i64 s,.int .i64 t,.chan (some (w.heap.size+1+1))] 139))):=(aG _ _).alloc (by simp) _
 go_enter Tryz.func57,Tryz.ntmps57
 go_wp2_with fail
 go_region
 all_goals
  go_wp2
  refine bodyPost_ret (v:=.agg #[.int .i64 s,.int .i64 t,.chan (some (w.heap.size+1+1))]) (by simp[results,Tryz.results57,go_sem]) rfl ?_;exact⟨_,rfl,by omega,cG (by simp),(d.out.alloc (by simp;omega) _).drew⟩
theorem Fo(cb x n c j:Nat)(f g h:Int)(w:World)(q:1≤h∧h≤4)(C:j<n)(r:w.cell? ⟨cb,4,none⟩=some (.slice (some ⟨x,0,none⟩) n c))(s:w.cell? ⟨x,j*3,none⟩=some (.int .i64 f))(D:w.cell? ⟨x,j*3+1,none⟩=some (.int .i64 g))(E:w.cell? ⟨x,j*3+2,none⟩=some (.int .i64 h)):
 Calls Tryz.prog 56 #[.int .i64 j,.pointer (some ⟨cb,0,none⟩)] w fun e w'=>∃a,e=.returned (.agg #[.int .i64 f,.int .i64 g,.chan (some a)])∧w.heap.size≤a∧w'.heap[a]?=some (.chan h.toNat #[] false 0 0 false)∧Below w.heap.size w w':=by
 have F:=aN r;have G:=aN s;have p:=aI (Pf f g h (w.alloc (.cells #[.int .i64 0,.int .i64 0,.chan none] 139)) q)
 go_enter Tryz.func56,Tryz.ntmps56
 go_wp2_with fail
 refine p.out.mono ?_;rintro e b ⟨a,rfl,u,o,l⟩;have y:=l.size;simp at y u;have d:b.heap[w.heap.size]?=some (.cells #[.int .i64 0,.int .i64 0,.chan none] 139 (0,0)):=(l.block _ (by simp)).trans (cG rfl);have z0:b.cell? ⟨w.heap.size,0,none⟩=some (.int .i64 0):=aD d;have z1:b.cell? ⟨w.heap.size,1,none⟩=some (.int .i64 0):=aD d;have z2:b.cell? ⟨w.heap.size,2,none⟩=some (.chan none):=aD d;have H:=aJ d 0;have I:=aJ d 1;have J:=aJ d 2;have L:w.heap.size<b.heap.size:=by omega
 obtain⟨i,m⟩:∃i,i=((b.setCell ⟨w.heap.size,0,none⟩ (.int .i64 f)).setCell ⟨w.heap.size,1,none⟩ (.int .i64 g)).setCell ⟨w.heap.size,2,none⟩ (.chan (some a)):=⟨_,rfl⟩;have z:Hid (i.heap[w.heap.size]?=some (.cells #[.int .i64 f,.int .i64 g,.chan (some a)] 139 (0,0))):=by show _=_;rw[m];exact aK (aK (aK d 0 _) 1 _) 2 _
 have A:Hid (w.heap.size≤a∧i.heap[a]?=some (.chan h.toNat #[] false 0 0 false)∧Below w.heap.size w i):=by
  have t:aH (·=w.heap.size) b i:=by rw[m];exact((aH.ofSet (S:=(·=w.heap.size)) b _ 0 _ rfl).thenSet _ _ rfl).thenSet _ _ rfl
  refine⟨by omega,(t.block a (aR o) (by omega)).trans o,?_⟩;exact((aG _ _).trans (l.mono (by simp))).trans (t.below (by omega) (fun k M=>by omega))
 have B:=aI m;clear l o d m p;go_wp2
 rw[←B.out];exact bodyPost_ret (v:=.agg #[.int .i64 f,.int .i64 g,.chan (some a)]) (qI Tryz.results56 _ _ _ (by rfl) z.out Tryz.underlying139 (by kernel_rfl)) rfl ⟨a,rfl,A.out⟩
theorem Rl(cb x c:Nat)(l:List Wn)(w:World)(D:l.length≤8)(n:cb<w.heap.size)(o:w.cell? ⟨cb,3,none⟩=some (.slice (some ⟨x,0,none⟩) l.length c))
 (q:∀k p,l[k]?=some p→x<w.heap.size∧w.cell? ⟨x,k*3,none⟩=some (.int .i64 p.part)∧w.cell? ⟨x,k*3+1,none⟩=some (.int .i64 p.first)∧w.cell? ⟨x,k*3+2,none⟩=some (.int .i64 p.many)):
 Calls Tryz.prog 53 #[.int .i64 l.length,.func (.func 54) #[] #[.pointer (some ⟨cb,0,none⟩)]] w fun e w'=>∃f,e=.returned (.agg #[.slice (some ⟨f,0,none⟩) l.length l.length])∧w.heap.size≤f∧w'.heap[f]?=some (.cells (l.flatMap eX).toArray 131 (0,0))∧Below w.heap.size w w':=by
 refine(Gy cb l.length (by omega) (fun _=>False) w (fun _ h=>h.elim) (fun a r W=>r.flatMap Ti=(l.take a).flatMap eX∧aH (fun b=>w.heap.size≤b) w W) (fun a r W E d t=>⟨d.1,d.2.trans t (fun i s=>.inl s.1)⟩) (fun a r W j d F=>?_) ⟨by simp,aH.refl _ _⟩).mono ?_
 ·obtain⟨u,v,c1,c2⟩:=q a l[a] (List.getElem?_eq_getElem j);have g:=d.2.block x u (by omega);refine(Il cb x l.length c a _ _ _ W j ((aT (d.2.block cb n (by omega)) 3).trans o) ((aT g _).trans v) ((aT g _).trans c1) ((aT g _).trans c2)).mono ?_;rintro e w' ⟨rfl,m⟩;refine⟨⟨fun| 0=>(l[a]).part| 1=>(l[a]).first| _=>(l[a]).many,false,fun _=>none,fun _=>0,fun _=>0,none⟩,rfl,⟨?_,d.2.trans (aH.ofBelow (S:=fun _=>False) m) (fun _ h=>h.elim)⟩,aH.ofBelow m⟩;rw[List.flatMap_append,d.1,List.take_add_one,List.getElem?_eq_getElem j,List.flatMap_append];rfl
 ·rintro e w' ⟨f,r,rfl,⟨y,z⟩,_,A⟩;obtain⟨B,C⟩:=jW A;refine⟨f,rfl,B,?_,z.below (Nat.le_refl _) (fun k g=>g)⟩;rw[C,show Kx r=_ from y,List.take_length]
theorem Om(cb c:Nat)(x:Option Addr)(l:List Ch)(w:World)(N:l.length≤4)(B:∀p∈l,1≤p.depth∧p.depth≤4)(C:cb<w.heap.size)(D:w.cell? ⟨cb,4,none⟩=some (.slice x l.length c))
 (E:∀k p,l[k]?=some p→∃g,x=some ⟨g,0,none⟩∧g<w.heap.size∧w.cell? ⟨g,k*3,none⟩=some (.int .i64 p.src)∧w.cell? ⟨g,k*3+1,none⟩=some (.int .i64 p.dst)∧w.cell? ⟨g,k*3+2,none⟩=some (.int .i64 p.depth)):
 Calls Tryz.prog 55 #[.int .i64 l.length,.func (.func 56) #[] #[.pointer (some ⟨cb,0,none⟩)]] w fun e w'=>∃ (j:Nat) (ch:Nat→Nat),e=.returned (.agg #[.slice (some ⟨j,0,none⟩) l.length l.length])∧w.heap.size≤j∧w'.heap[j]?=some (.cells (eH l.length fun a=>[.int .i64 (l.getD a default).src,.int .i64 (l.getD a default).dst,.chan (some (ch a))]).toArray 139 (0,0))∧(∀a,a<l.length→w.heap.size≤ch a∧w'.heap[ch a]?=some (.chan (l.getD a default).depth.toNat #[] false 0 0 false))∧(∀i a,i<l.length→a<l.length→ch i=ch a→i=a)∧Below w.heap.size w w':=by
 refine(Cc cb l.length (by omega) (fun _=>False) w (fun _ h=>h.elim) (fun a r W=>∃ch:Nat→Nat,r.flatMap Tl=eH a (fun a=>[.int .i64 (l.getD a default).src,.int .i64 (l.getD a default).dst,.chan (some (ch a))])∧(∀i,i<a→w.heap.size+3≤ch i∧W.heap[ch i]?=some (.chan (l.getD i default).depth.toNat #[] false 0 0 false))∧(∀i k,i<a→k<a→ch i=ch k→i=k)∧aH (fun b=>w.heap.size≤b) w W) ?_ (fun a r W m F O=>?_) ⟨fun _=>0,by simp[eH],fun i d=>by omega,fun i k d=>by omega,aH.refl _ _⟩).mono ?_
 ·rintro a r W P ⟨ch,q,f,s,n⟩ t;exact⟨ch,q,fun i d=>⟨(f i d).1,(t.block _ (aR (f i d).2) (by have:=(f i d).1;omega)).trans (f i d).2⟩,s,n.trans t (fun i d=>.inl d.1)⟩
 ·obtain⟨ch,q,f,s,n⟩:=F;obtain⟨g,rfl,G,H,c1,c2⟩:=E a l[a] (List.getElem?_eq_getElem m);have u:=n.block g G (by omega);refine(Fo cb g l.length c a _ _ _ W (B _ (List.getElem_mem m)) m ((aT (n.block cb C (by omega)) 4).trans D) ((aT u _).trans H) ((aT u _).trans c1) ((aT u _).trans c2)).mono ?_;rintro e w' ⟨j,rfl,Q,I,z⟩;have A:l.getD a default=l[a]:=by rw[List.getD_eq_getElem?_getD,List.getElem?_eq_getElem m];rfl
  refine⟨⟨fun| 0=>(l[a]).src| _=>(l[a]).dst,false,fun _=>none,fun _=>0,fun _=>0,some j⟩,rfl,⟨fun i=>if i=a then j else ch i,?_,fun i d=>?_,fun i k d R v=>?_,n.trans (aH.ofBelow (S:=fun _=>False) z) (fun _ h=>h.elim)⟩,aH.ofBelow z⟩
  ·rw[List.flatMap_append,q,jQ]
   congr 1
   ·exact dV _ _ _ (fun i d=>by simp only[if_neg (show ¬i=a by omega)])
   ·simp only[if_pos];rw[A];rfl
  ·by_cases o:i=a
   ·subst o;simp only[if_pos];exact⟨by omega,by rw[A];exact I⟩
   ·simp only[if_neg o];exact⟨(f i (by omega)).1,eT z (f i (by omega)).2⟩
  ·have lt:∀i,i<a→ch i<W.heap.size:=fun i d=>aR (f i d).2
   by_cases o:i=a
   ·by_cases y:k=a
    ·omega
    ·simp only[if_pos o,if_neg y]at v;have:=lt k (by omega);omega
   ·by_cases y:k=a
    ·simp only[if_neg o,if_pos y]at v;have:=lt i (by omega);omega
    ·simp only[if_neg o,if_neg y]at v;exact s i k (by omega) (by omega) v
 ·rintro e w' ⟨j,r,rfl,⟨ch,J,f,s,L⟩,_,M⟩;obtain⟨q,n⟩:=jW M;exact⟨j,ch,rfl,q,by rw[n,show Km r=_ from J],fun a m=>⟨by have:=(f a m).1;omega,(f a m).2⟩,s,L.below (Nat.le_refl _) (fun k u=>u)⟩
end
section
open Go.RowKit
attribute [-go_sem] Instr.storeAt
theorem Cy(cb lb x np cp d:Nat)(n:Bool)(m:Nat)(o r s u y z A:Int)(q c:Nat)(l:List (Pr×Value))(prio:Nat→Int)(base:Nat)(v:Value)(C:List (Nat→Int))(w:World)(d4:d<np)(c1:m≤16)(c2:C.length≤100)(N:dM base v C w)(S:mJ w q c l prio)
 (a1:w.cell? ⟨cb,2,none⟩=some (.slice (some ⟨x,0,none⟩) np cp)∧w.cell? ⟨lb,0,none⟩=some v∧w.cell? ⟨x,d*10,none⟩=some (.bool n)∧w.cell? ⟨x,d*10+1,none⟩=some (.int .i64 m)∧w.cell? ⟨x,d*10+2,none⟩=some (.int .i64 o)∧w.cell? ⟨x,d*10+3,none⟩=some (.int .i64 r)∧w.cell? ⟨x,d*10+4,none⟩=some (.int .i64 s)∧w.cell? ⟨x,d*10+5,none⟩=some (.int .i64 u)∧w.cell? ⟨x,d*10+6,none⟩=some (.int .i64 y)∧w.cell? ⟨x,d*10+7,none⟩=some (.int .i64 z)∧w.cell? ⟨x,d*10+8,none⟩=some (.int .i64 A)∧w.cell? ⟨x,d*10+9,none⟩=some (.slice (some ⟨q,0,none⟩) l.length c)):
 Calls Tryz.prog 50 #[.int .i64 d,.pointer (some ⟨cb,0,none⟩),.pointer (some ⟨lb,0,none⟩)] w fun e w'=>∃f i g,e=.returned (.agg #[.int .i64 d,.bool n,.int .i64 o,.int .i64 r,.int .i64 s,.int .i64 u,.int .i64 y,.int .i64 z,.int .i64 A,.int .i64 (nV C d),.slice (some ⟨f,0,none⟩) m m,.slice (some ⟨i,0,none⟩) l.length l.length,.slice (some ⟨g,0,none⟩) l.length l.length,.int .i64 0])∧(w.heap.size≤f∧w.heap.size≤i∧w.heap.size≤g∧f≠g)∧w'.heap[f]?=some (.cells ((List.replicate m (0:Int)).map (Value.int .i64)).toArray 3 (0,0))∧w'.heap[i]?=some (.cells (l.flatMap fun p=>aY p.2 dC).toArray 166 (0,0))∧w'.heap[g]?=some (.cells ((fM l.length prio).map (Value.int .i64)).toArray 3 (0,0))∧Below w.heap.size w w':=by
 obtain⟨D,H⟩:∃D,D=w.alloc (.cells #[.int .i64 0,.bool false,.int .i64 0,.int .i64 0,.int .i64 0,.int .i64 0,.int .i64 0,.int .i64 0,.int .i64 0,.int .i64 0,.slice none 0 0,.slice none 0 0,.slice none 0 0,.int .i64 0] 120):=⟨_,rfl⟩;have O:D.heap.size=w.heap.size+1:=by rw[H];simp
 have a2:Below w.heap.size w D:=aE H;have a3:D.heap[w.heap.size]?=some (.cells #[.int .i64 0,.bool false,.int .i64 0,.int .i64 0,.int .i64 0,.int .i64 0,.int .i64 0,.int .i64 0,.int .i64 0,.int .i64 0,.slice none 0 0,.slice none 0 0,.slice none 0 0,.int .i64 0] 120 (0,0)):=by rw[H];exact cG rfl
 obtain⟨I,J,rfl,_⟩:=iE N;obtain⟨P,L⟩:∃P:World→Prop,P=fun W=>Below D.heap.size D W:=⟨_,rfl⟩
 have M:Hid (P D):=by show P D;rw[L];exact Below.refl _ _
 have T:Hid (∀W,P W→Below D.heap.size D W):=fun W h=>by rw[L]at h;exact h
 have a4:Hid (∀W U,P W→Below W.heap.size W U→P U):=fun W U h E=>by rw[L]at h ⊢;exact h.trans (E.mono h.size)
 have V:Hid (∀W,P W→P W.drew):=fun W h=>by rw[L]at h ⊢;exact h.drew
 have a5:Hid (∀W:World,(∀b,b<w.heap.size→W.heap[b]?=w.heap[b]?)→W.cell? ⟨cb,2,none⟩=some (.slice (some ⟨x,0,none⟩) np cp)∧W.cell? ⟨lb,0,none⟩=some (.slice I C.length J)∧W.cell? ⟨x,d*10,none⟩=some (.bool n)∧W.cell? ⟨x,d*10+1,none⟩=some (.int .i64 m)∧W.cell? ⟨x,d*10+2,none⟩=some (.int .i64 o)∧W.cell? ⟨x,d*10+3,none⟩=some (.int .i64 r)∧W.cell? ⟨x,d*10+4,none⟩=some (.int .i64 s)∧W.cell? ⟨x,d*10+5,none⟩=some (.int .i64 u)∧W.cell? ⟨x,d*10+6,none⟩=some (.int .i64 y)∧W.cell? ⟨x,d*10+7,none⟩=some (.int .i64 z)∧W.cell? ⟨x,d*10+8,none⟩=some (.int .i64 A)∧W.cell? ⟨x,d*10+9,none⟩=some (.slice (some ⟨q,0,none⟩) l.length c)):=fun W j=>by
  obtain⟨a6,X,B,r1,a7,a8,a9,b0,b1,b2,b3,b4⟩:=a1;exact⟨(aT (j cb (aN a6)) _).trans a6,(aT (j lb (aN X)) _).trans X,(aT (j x (aN B)) _).trans B,(aT (j x (aN B)) _).trans r1,(aT (j x (aN B)) _).trans a7,(aT (j x (aN B)) _).trans a8,(aT (j x (aN B)) _).trans a9,(aT (j x (aN B)) _).trans b0,(aT (j x (aN B)) _).trans b1,(aT (j x (aN B)) _).trans b2,(aT (j x (aN B)) _).trans b3,(aT (j x (aN B)) _).trans b4⟩
 have G:Hid (∀W,P W→Below w.heap.size w W):=fun W j=>a2.trans ((T.out W j).mono (by omega))
 have Q:Hid (∀W,P W→W.cell? ⟨cb,2,none⟩=some (.slice (some ⟨x,0,none⟩) np cp)∧W.cell? ⟨lb,0,none⟩=some (.slice I C.length J)∧W.cell? ⟨x,d*10,none⟩=some (.bool n)∧W.cell? ⟨x,d*10+1,none⟩=some (.int .i64 m)∧W.cell? ⟨x,d*10+2,none⟩=some (.int .i64 o)∧W.cell? ⟨x,d*10+3,none⟩=some (.int .i64 r)∧W.cell? ⟨x,d*10+4,none⟩=some (.int .i64 s)∧W.cell? ⟨x,d*10+5,none⟩=some (.int .i64 u)∧W.cell? ⟨x,d*10+6,none⟩=some (.int .i64 y)∧W.cell? ⟨x,d*10+7,none⟩=some (.int .i64 z)∧W.cell? ⟨x,d*10+8,none⟩=some (.int .i64 A)∧W.cell? ⟨x,d*10+9,none⟩=some (.slice (some ⟨q,0,none⟩) l.length c)):=fun W j=>a5.out W (fun b E=>(G.out W j).block b E)
 have c3:Hid (∀W,P W→Calls Tryz.prog 52 #[.slice I C.length J,.int .i64 d] W fun e w'=>e=.returned (.int .i64 (nV C d))∧P w'):=fun W j=>
  (yB base _ C d W c2 (aO N (fun b e=>(G.out W j).block b (World.ownsRow.lt N b e).2))).mono (fun e w' ⟨Y,E⟩=>⟨Y,a4.out W w' j E⟩)
 have c4:Hid (∀W mo,P W→Calls Tryz.prog 51 #[.int .i64 d,.agg #[.bool n,.int .i64 m,.int .i64 o,.int .i64 r,.int .i64 s,.int .i64 u,.int .i64 y,.int .i64 z,.int .i64 A,.slice (some ⟨q,0,none⟩) l.length c],.int .i64 mo] W fun e w'=>∃f i g,e=.returned (.agg #[.int .i64 d,.bool n,.int .i64 o,.int .i64 r,.int .i64 s,.int .i64 u,.int .i64 y,.int .i64 z,.int .i64 A,.int .i64 mo,.slice (some ⟨f,0,none⟩) m m,.slice (some ⟨i,0,none⟩) l.length l.length,.slice (some ⟨g,0,none⟩) l.length l.length,.int .i64 0])∧(w.heap.size<f∧w.heap.size<i∧w.heap.size<g∧f≠g)∧w'.heap[f]?=some (.cells ((List.replicate m (0:Int)).map (Value.int .i64)).toArray 3 (0,0))∧w'.heap[i]?=some (.cells (l.flatMap fun p=>aY p.2 dC).toArray 166 (0,0))∧w'.heap[g]?=some (.cells ((fM l.length prio).map (Value.int .i64)).toArray 3 (0,0))∧P w'):=fun W mo j=>
  (Nu d n m o r s u y z A mo q c l prio W c1 (S.keep (G.out W j).size ((G.out W j).block q S.lt))).mono (fun e w' ⟨f,i,g,Y,⟨X,d5,d6,c5⟩,c6,c7,c8,E⟩=>⟨f,i,g,Y,by have:=(T.out W j).size;exact⟨by omega,by omega,by omega,c5⟩,c6,c7,c8,a4.out W w' j E⟩)
 have b5:Hid (∀W,P W→W.heap[w.heap.size]?=some (.cells #[.int .i64 0,.bool false,.int .i64 0,.int .i64 0,.int .i64 0,.int .i64 0,.int .i64 0,.int .i64 0,.int .i64 0,.int .i64 0,.slice none 0 0,.slice none 0 0,.slice none 0 0,.int .i64 0] 120 (0,0))):=fun W j=>((T.out W j).block _ (by omega)).trans a3
 have c9:=aI H;have d0:=aI O;generalize nV C d=mo at *;clear H a2 a3 L O a1 N S;obtain⟨F,hF⟩:∃F:World→Nat→Nat→Nat→World,F=fun W f i g=>W.setCells w.heap.size 0 [.int .i64 d,.bool n,.int .i64 o,.int .i64 r,.int .i64 s,.int .i64 u,.int .i64 y,.int .i64 z,.int .i64 A,.int .i64 mo,.slice (some ⟨f,0,none⟩) m m,.slice (some ⟨i,0,none⟩) l.length l.length,.slice (some ⟨g,0,none⟩) l.length l.length,.int .i64 0]:=⟨_,rfl⟩
 have d1:Hid (∀W f i g,P W→(Instr.storeAt 120 (.pointer (some ⟨w.heap.size,0,none⟩)) (.agg #[.int .i64 d,.bool n,.int .i64 o,.int .i64 r,.int .i64 s,.int .i64 u,.int .i64 y,.int .i64 z,.int .i64 A,.int .i64 mo,.slice (some ⟨f,0,none⟩) m m,.slice (some ⟨i,0,none⟩) l.length l.length,.slice (some ⟨g,0,none⟩) l.length l.length,.int .i64 0])).run Tryz.prog W=.ok () (F W f i g)):=fun W f i g j=>by
  rw[hF];exact run_storeAt_mid (P:=Tryz.prog) W w.heap.size 0 120 _ (kB (b5.out W j) 14 (by decide)) (by rw[Tryz.size120];rfl) (by simp[Value.oneCell'])
 have b6:Hid (∀W f i g,P W→(F W f i g).heap[w.heap.size]?=some (.cells #[.int .i64 d,.bool n,.int .i64 o,.int .i64 r,.int .i64 s,.int .i64 u,.int .i64 y,.int .i64 z,.int .i64 A,.int .i64 mo,.slice (some ⟨f,0,none⟩) m m,.slice (some ⟨i,0,none⟩) l.length l.length,.slice (some ⟨g,0,none⟩) l.length l.length,.int .i64 0] 120 (0,0))∧aH (·=w.heap.size) W (F W f i g)):=fun W f i g j=>by
  rw[hF];exact⟨kO _ (b5.out W j) rfl,jB _ _ _ _⟩
 have d2:Hid (∀W f i g,P W→(F W f i g).cell? ⟨cb,2,none⟩=some (.slice (some ⟨x,0,none⟩) np cp)∧(F W f i g).cell? ⟨lb,0,none⟩=some (.slice I C.length J)∧(F W f i g).cell? ⟨x,d*10,none⟩=some (.bool n)∧(F W f i g).cell? ⟨x,d*10+1,none⟩=some (.int .i64 m)∧(F W f i g).cell? ⟨x,d*10+2,none⟩=some (.int .i64 o)∧(F W f i g).cell? ⟨x,d*10+3,none⟩=some (.int .i64 r)∧(F W f i g).cell? ⟨x,d*10+4,none⟩=some (.int .i64 s)∧(F W f i g).cell? ⟨x,d*10+5,none⟩=some (.int .i64 u)∧(F W f i g).cell? ⟨x,d*10+6,none⟩=some (.int .i64 y)∧(F W f i g).cell? ⟨x,d*10+7,none⟩=some (.int .i64 z)∧(F W f i g).cell? ⟨x,d*10+8,none⟩=some (.int .i64 A)∧(F W f i g).cell? ⟨x,d*10+9,none⟩=some (.slice (some ⟨q,0,none⟩) l.length c)):=fun W f i g j=>a5.out _ (fun b E=>((b6.out W f i g j).2.block b (by have:=(G.out W j).size;omega) (by omega)).trans ((G.out W j).block b E))
 clear hF;generalize (Obj.cells ((List.replicate m (0:Int)).map (Value.int .i64)).toArray 3 (0,0))=d7 at *;generalize (Obj.cells (l.flatMap fun p=>aY p.2 dC).toArray 166 (0,0))=d8 at *;generalize (Obj.cells ((fM l.length prio).map (Value.int .i64)).toArray 3 (0,0))=d9 at *;obtain⟨e0,e1,B,r1,a7,a8,a9,b0,b1,b2,b3,b4⟩:=Q.out _ M.out
 go_enter Tryz.func50,Tryz.ntmps50
 go_wp2_with fail
 rw[←c9.out]
 go_region_held3 (fun w'=>w'.cell? ⟨cb,2,none⟩=some (.slice (some ⟨x,0,none⟩) np cp)∧w'.cell? ⟨lb,0,none⟩=some (.slice I C.length J)∧w'.cell? ⟨x,d*10,none⟩=some (.bool n)∧w'.cell? ⟨x,d*10+1,none⟩=some (.int .i64 m)∧w'.cell? ⟨x,d*10+2,none⟩=some (.int .i64 o)∧w'.cell? ⟨x,d*10+3,none⟩=some (.int .i64 r)∧w'.cell? ⟨x,d*10+4,none⟩=some (.int .i64 s)∧w'.cell? ⟨x,d*10+5,none⟩=some (.int .i64 u)∧w'.cell? ⟨x,d*10+6,none⟩=some (.int .i64 y)∧w'.cell? ⟨x,d*10+7,none⟩=some (.int .i64 z)∧w'.cell? ⟨x,d*10+8,none⟩=some (.int .i64 A)∧w'.cell? ⟨x,d*10+9,none⟩=some (.slice (some ⟨q,0,none⟩) l.length c))
  ((first| exact Q.out _ M.out| exact Q.out _ (V.out _ M.out)| exact Q.out _ (by assumption)| exact d2.out _ _ _ _ (by assumption)))
  (first
   | (go_at_call 52;refine(c3.out _ (by first | assumption | exact V.out _ M.out)).mono ?_;rintro e e2 ⟨rfl,e3⟩)
   | (go_at_call 51;refine(c4.out _ _ (by first | assumption | exact V.out _ M.out)).mono ?_;rintro e Z ⟨f,i,g,rfl,O,b7,b8,b9,a0⟩;have e4:=fun a b c=>d1.out Z a b c a0))
 all_goals
  go_wp2
  have e5:=d0.out;obtain⟨d3,R⟩:=b6.out Z f i g a0;have c0:=G.out Z a0;refine bodyPost_ret (v:=.agg #[.int .i64 d,.bool n,.int .i64 o,.int .i64 r,.int .i64 s,.int .i64 u,.int .i64 y,.int .i64 z,.int .i64 A,.int .i64 mo,.slice (some ⟨f,0,none⟩) m m,.slice (some ⟨i,0,none⟩) l.length l.length,.slice (some ⟨g,0,none⟩) l.length l.length,.int .i64 0]) (qI Tryz.results50 _ _ _ (by rfl) d3 Tryz.underlying120 (by rw[Tryz.size120];rfl)) rfl ?_;exact⟨f,i,g,rfl,⟨by omega,by omega,by omega,O.2.2.2⟩,(R.block f (aR b7) (by omega)).trans b7,(R.block i (aR b8) (by omega)).trans b8,(R.block g (aR b9) (by omega)).trans b9,c0.trans (R.below (c0.size) (fun k e6=>by omega))⟩
end
structure Dc where
 px:Nat
 pc:Nat
 q:Nat→Nat
 c:Nat→Nat
 l:Nat→List (Pr×Value)
structure nB(w:World)(D:Dc)(ps:List Pt):Prop where
 row:∀j p,ps[j]?=some p→w.cell? ⟨D.px,j*10,none⟩=some (.bool p.sys)∧w.cell? ⟨D.px,j*10+1,none⟩=some (.int .i64 p.words)∧w.cell? ⟨D.px,j*10+2,none⟩=some (.int .i64 p.limit)∧w.cell? ⟨D.px,j*10+3,none⟩=some (.int .i64 (p.acts.getD 0 0))∧w.cell? ⟨D.px,j*10+4,none⟩=some (.int .i64 (p.acts.getD 1 0))∧w.cell? ⟨D.px,j*10+5,none⟩=some (.int .i64 (p.acts.getD 2 0))∧w.cell? ⟨D.px,j*10+6,none⟩=some (.int .i64 (p.acts.getD 3 0))∧w.cell? ⟨D.px,j*10+7,none⟩=some (.int .i64 (p.acts.getD 4 0))∧w.cell? ⟨D.px,j*10+8,none⟩=some (.int .i64 (p.acts.getD 5 0))∧w.cell? ⟨D.px,j*10+9,none⟩=some (.slice (some ⟨D.q j,0,none⟩) (D.l j).length (D.c j))
 procs:∀j p,ps[j]?=some p→(D.l j).map Prod.fst=p.procs∧mJ w (D.q j) (D.c j) (D.l j) (fD p)∧∀r∈D.l j,iV 0 r.2 r.1.code w
theorem nB.keep{w w':World}{d:Dc}{i:List Pt}(h:nB w d i)(c:Below w.heap.size w w'):nB w' d i:=by
 refine⟨fun f p g=>?_,fun f p g=>?_⟩
 ·obtain⟨j,r1,n,o,q,s,u,v,x,y⟩:=h.row f p g;have a:=c.block d.px (aN j);exact⟨(aT a _).trans j,(aT a _).trans r1,(aT a _).trans n,(aT a _).trans o,(aT a _).trans q,(aT a _).trans s,(aT a _).trans u,(aT a _).trans v,(aT a _).trans x,(aT a _).trans y⟩
 ·obtain⟨z,k,l⟩:=h.procs f p g;exact⟨z,k.keep c.size (c.block _ k.lt),fun r m=>aO (l r m) (fun b e=>c.block b (World.ownsRow.lt (l r m) b e).2)⟩
structure mZ(w:World)(lo:Nat)(D:Dc)(ps:List Pt)(log:List (Nat→Int))(n:Nat)(wd pr tn:Nat→Nat):Prop where
 words:∀i p,i<n→ps[i]?=some p→lo≤wd i∧w.heap[wd i]?=some (.cells ((List.replicate p.words.toNat (0:Int)).map (Value.int .i64)).toArray 3 (0,0))
 procs:∀i p,i<n→ps[i]?=some p→lo≤pr i∧w.heap[pr i]?=some (.cells ((D.l i).flatMap fun p=>aY p.2 dC).toArray 166 (0,0))
 turns:∀i p,i<n→ps[i]?=some p→lo≤tn i∧w.heap[tn i]?=some (.cells ((fM p.procs.length (fD p)).map (Value.int .i64)).toArray 3 (0,0))
 wdwd:∀i j,i<n→j<n→wd i=wd j→i=j
 prpr:∀i j,i<n→j<n→pr i=pr j→i=j
 wdtn:∀i j,i<n→j<n→wd i≠tn j
theorem mZ.keep{w w':World}{d n:Nat}{g:Dc}{j:List Pt}{k:List (Nat→Int)}{wd pr tn:Nat→Nat}(h:mZ w d g j k n wd pr tn)(f:∀b,d≤b→b<w.heap.size→w'.heap[b]?=w.heap[b]?):mZ w' d g j k n wd pr tn:=
 ⟨fun i p a c=>⟨(h.words i p a c).1,(f _ (h.words i p a c).1 (aR (h.words i p a c).2)).trans (h.words i p a c).2⟩,fun i p a c=>⟨(h.procs i p a c).1,(f _ (h.procs i p a c).1 (aR (h.procs i p a c).2)).trans (h.procs i p a c).2⟩,fun i p a c=>⟨(h.turns i p a c).1,(f _ (h.turns i p a c).1 (aR (h.turns i p a c).2)).trans (h.turns i p a c).2⟩,h.wdwd,h.prpr,h.wdtn⟩
def elP(a b d:Nat)(i:Nat)(c:Pt)(mo:Int)(nw np:Nat):El:=⟨fun| 0=>i| 1=>c.limit| 2=>c.acts.getD 0 0| 3=>c.acts.getD 1 0| 4=>c.acts.getD 2 0| 5=>c.acts.getD 3 0| 6=>c.acts.getD 4 0| 7=>c.acts.getD 5 0| 8=>mo| _=>0,c.sys,fun| 0=>some ⟨a,0,none⟩| 1=>some ⟨b,0,none⟩| _=>some ⟨d,0,none⟩,fun| 0=>nw| _=>np,fun| 0=>nw| _=>np,none⟩
theorem Ll(cb lb base:Nat)(m:Dc)(d:List Pt)(v:Value)(q:List (Nat→Int))(w:World)(b8:d.length≤4)(T:∀p∈d,sE p)(U:q.length≤100)(G:dM base v q w)(V:nB w m d)(H:w.cell? ⟨cb,2,none⟩=some (.slice (some ⟨m.px,0,none⟩) d.length m.pc))(x:w.cell? ⟨lb,0,none⟩=some v):
 Calls Tryz.prog 49 #[.int .i64 d.length,.func (.func 50) #[] #[.pointer (some ⟨cb,0,none⟩),.pointer (some ⟨lb,0,none⟩)]] w fun e w'=>∃ (u:Nat) (wd pr tn:Nat→Nat),e=.returned (.agg #[.slice (some ⟨u,0,none⟩) d.length d.length])∧w.heap.size≤u∧w'.heap[u]?=some (.cells (eH d.length fun i=>fK (wd i) (pr i) (tn i) i (d.getD i default) (jY q i (d.getD i default))).toArray 120 (0,0))∧mZ w' w.heap.size m d q d.length wd pr tn∧Below w.heap.size w w':=by
 refine(Cs cb lb d.length (by omega) (fun _=>False) w (fun _ h=>h.elim) (fun a r W=>∃wd pr tn:Nat→Nat,r.flatMap Sg=eH a (fun i=>fK (wd i) (pr i) (tn i) i (d.getD i default) (jY q i (d.getD i default)))∧mZ W (w.heap.size+3) m d q a wd pr tn∧aH (fun b=>w.heap.size≤b) w W) ?_ (fun a r W A X b9=>?_) ⟨fun _=>0,fun _=>0,fun _=>0,by simp[eH],⟨fun i p c=>by omega,fun i p c=>by omega,fun i p c=>by omega,fun i a c=>by omega,fun i a c=>by omega,fun i a c=>by omega⟩,aH.refl _ _⟩).mono ?_
 ·rintro a r W c0 ⟨wd,pr,tn,x,Y,Z⟩ t;exact⟨wd,pr,tn,x,Y.keep (fun b y B=>t.block b B (by omega)),Z.trans t (fun i c=>.inl c.1)⟩
 ·obtain⟨wd,pr,tn,C,g,I⟩:=X;have z:Below w.heap.size w W:=I.below (Nat.le_refl _) (fun k s=>s);have l:=List.getElem?_eq_getElem A;have a0:d.getD a default=d[a]:=by rw[List.getD_eq_getElem?_getD,l];rfl
  have J:=T _ (List.getElem_mem A);have L:=V.keep z;obtain⟨a1,r1,a2,a3,a4,a5,a6,a7,a8,a9⟩:=L.row a _ l;obtain⟨p1,p2,p3⟩:=L.procs a _ l;have M:(m.l a).length=(d[a]).procs.length:=by rw[←p1,List.length_map]
  obtain⟨N,D⟩:=Int.eq_ofNat_of_zero_le (show 0≤(d[a]).words by have:=J.words;omega);rw[D]at r1;have c1:=J.words.2;refine(Cy cb lb m.px d.length m.pc a _ N _ _ _ _ _ _ _ _ _ _ _ base v q W A (by omega) U (aO G (fun b e=>z.block b (World.ownsRow.lt G b e).2)) p2 ⟨(aT (z.block cb (aN H)) _).trans H,(aT (z.block lb (aN x)) _).trans x,a1,r1,a2,a3,a4,a5,a6,a7,a8,a9⟩).mono ?_;rintro e w' ⟨O,P,Q,rfl,⟨c2,c3,c4,b0⟩,b1,b2,b3,y⟩;refine⟨elP O P Q a (d[a]) (nV q a) N (m.l a).length,rfl,⟨fun i=>if i=a then O else wd i,fun i=>if i=a then P else pr i,fun i=>if i=a then Q else tn i,?_,?_,I.trans (aH.ofBelow (S:=fun _=>False) y) (fun _ h=>h.elim)⟩,aH.ofBelow y⟩
  ·rw[List.flatMap_append,C,jQ]
   congr 1
   ·exact dV _ _ _ (fun i c=>by simp only[if_neg (show ¬i=a by omega)])
   ·simp only[if_pos];rw[a0];simp only[List.flatMap_cons,List.flatMap_nil,List.append_nil,Sg,elP,fK,jY,List.length_replicate,M,D,Int.toNat_natCast]
  ·have E:=g.keep (w':=w') (fun b c5 B=>y.block b B);have F:∀i,i<a→wd i<W.heap.size:=fun i c=>aR (g.words i _ c (List.getElem?_eq_getElem (by omega))).2
   have R:∀i,i<a→pr i<W.heap.size:=fun i c=>aR (g.procs i _ c (List.getElem?_eq_getElem (by omega))).2
   have lt:∀i,i<a→tn i<W.heap.size:=fun i c=>aR (g.turns i _ c (List.getElem?_eq_getElem (by omega))).2
   refine⟨fun i p c n=>?_,fun i p c n=>?_,fun i p c n=>?_,fun i k c s o=>?_,fun i k c s o=>?_,fun i k c s=>?_⟩
   ·by_cases f:i=a
    ·subst f;rw[l]at n;obtain rfl:=Option.some.inj n;simp only[if_pos];exact⟨by omega,by rw[D];exact b1⟩
    ·simp only[if_neg f];exact E.words i p (by omega) n
   ·by_cases f:i=a
    ·subst f;simp only[if_pos];exact⟨by omega,b2⟩
    ·simp only[if_neg f];exact E.procs i p (by omega) n
   ·by_cases f:i=a
    ·subst f;rw[l]at n;obtain rfl:=Option.some.inj n;simp only[if_pos];exact⟨by omega,by rw[←M];exact b3⟩
    ·simp only[if_neg f];exact E.turns i p (by omega) n
   ·by_cases f:i=a
    ·by_cases j:k=a
     ·omega
     ·simp only[if_pos f,if_neg j]at o;have:=F k (by omega);omega
    ·by_cases j:k=a
     ·simp only[if_neg f,if_pos j]at o;have:=F i (by omega);omega
     ·simp only[if_neg f,if_neg j]at o;exact g.wdwd i k (by omega) (by omega) o
   ·by_cases f:i=a
    ·by_cases j:k=a
     ·omega
     ·simp only[if_pos f,if_neg j]at o;have:=R k (by omega);omega
    ·by_cases j:k=a
     ·simp only[if_neg f,if_pos j]at o;have:=R i (by omega);omega
     ·simp only[if_neg f,if_neg j]at o;exact g.prpr i k (by omega) (by omega) o
   ·by_cases f:i=a
    ·by_cases j:k=a
     ·simp only[if_pos f,if_pos j];exact b0
     ·simp only[if_pos f,if_neg j];have:=lt k (by omega);omega
    ·by_cases j:k=a
     ·simp only[if_neg f,if_pos j];have:=F i (by omega);omega
     ·simp only[if_neg f,if_neg j];exact g.wdtn i k (by omega) (by omega)
 ·rintro e w' ⟨u,r,rfl,⟨wd,pr,tn,C,g,b4⟩,_,b5⟩;obtain⟨b6,b7⟩:=jW b5;refine⟨u,wd,pr,tn,rfl,b6,by rw[b7,show Ks r=_ from C],⟨fun i p c l=>⟨by have:=(g.words i p c l).1;omega,(g.words i p c l).2⟩,fun i p c l=>⟨by have:=(g.procs i p c l).1;omega,(g.procs i p c l).2⟩,fun i p c l=>⟨by have:=(g.turns i p c l).1;omega,(g.turns i p c l).2⟩,g.wdwd,g.prpr,g.wdtn⟩,b4.below (Nat.le_refl _) (fun k s=>s)⟩
theorem Qr{α:Type}(f:Rd→α×Rd)(k:Nat)(r:Rd):∀x∈(bH f k r).1,∃c,x=(f c).1:=by
 induction k with
 | zero=>intro x a;simp[bH]at a
 | succ k ih=>
  intro x a
  by_cases b:(bH f k r).2.err=0
  ·rw[jP f k r b]at a;rcases List.mem_append.1 a with a| a
   ·exact ih x a
   ·exact⟨_,List.mem_singleton.1 a⟩
  ·rw[fT f k r b (k+1) (by omega)]at a;exact ih x a
theorem wJ{α:Type}(f:Rd→α×Rd)(k:Nat)(r:Rd):(bH f k r).1.length≤k:=by
 induction k with
 | zero=>exact Nat.le_refl _
 | succ k ih=>
  by_cases a:(bH f k r).2.err=0
  ·rw[jP f k r a,List.length_append];simp;exact ih
  ·rw[fT f k r a (k+1) (by omega)];omega
structure Da(cf:Cf):Prop where
 parts:cf.parts.length≤4
 procs:∀p∈cf.parts,(1≤p.words∧p.words≤16)∧p.procs.length≤2
 wins:cf.wins.length≤8
 chans:cf.chans.length≤4
theorem He(zs:List Int):Da (pG zs).1:=by
 refine⟨Nat.le_trans (wJ _ _ _) ?_,fun p b=>?_,Nat.le_trans (wJ _ _ _) ?_,Nat.le_trans (wJ _ _ _) ?_⟩
 ·have:=fun r=>(jF zs 1 4 r (by omega)).2
  have:=this (bS zs 72 72 ⟨0,0,0,0⟩).2;omega
 ·obtain⟨a,rfl⟩:=Qr _ _ _ p b;refine⟨In zs a,Nat.le_trans (wJ _ _ _) ?_⟩;have:=(jF zs 1 2 (cO zs 6 (bS zs 0 9 (bS zs 1 16 (bS zs 0 1 a).2).2).2).2 (by omega)).2;omega
 ·generalize (bH (dP zs) _ _).2=r;have:=(jF zs 1 8 r (by omega)).2;omega
 ·generalize (bH (cX zs _ _) _ _).2=r;have:=(jF zs 0 4 r (by omega)).2;omega
theorem Io:Da nE:=⟨by simp[nE],fun p a=>by simp[nE]at a,by simp[nE],by simp[nE]⟩
theorem Fh(zs:List Int):Da (bQ zs).1:=by
 unfold bQ;simp only
 repeat' split
 all_goals first| exact Io| exact He zs
theorem mV(b:List (Nat→Int))(a:List Pt)(k:Nat)(h:k≤a.length):(kI b a k).length=k:=by
 induction k with
 | zero=>rfl
 | succ k ih=>
  show(kI b a k++_).length=k+1
  rw[List.length_append,ih (by omega),List.getElem?_eq_getElem (by omega)];rfl
abbrev wR(fr wt:Int)(vP vW vC:Value):Obj:=.cells #[.int .i64 fr,.int .i64 wt,vP,vW,vC] 71
def Oh(a:bN)(st:aQ)(b:Nat):Prop:=b=a.mb∨b=a.pb∨b=a.wb∨b=a.cb∨(∃i,i<st.parts.length∧(b=a.wd i∨b=a.pr i∨b=a.tn i))∨(∃c,c<st.cf.chans.length∧b=a.ch c)∨(∃i k,i<st.parts.length∧k<(st.parts.getD i default).procs.length∧(a.code i k).ownBlock=some b)
theorem uP(b:List (Nat→Int))(a:List Pt)(k i:Nat)(f:k≤a.length)(g:i<k):(kI b a k).getD i default=jY b i (a.getD i default):=by
 induction k with
 | zero=>omega
 | succ k ih=>
  have c:=mV b a k (by omega);show(kI b a k++_).getD i default=_
  rw[List.getD_eq_getElem?_getD]
  by_cases h:i<k
  ·rw[List.getElem?_append_left (by omega),←List.getD_eq_getElem?_getD];exact ih (by omega) h
  ·obtain rfl:i=k:=by omega
   have d:a[i]?=some a[i]:=List.getElem?_eq_getElem (by omega);rw[List.getElem?_append_right (by omega),c,List.getD_eq_getElem?_getD,d];simp
theorem Gg{α:Type}(n k:Nat)(x a:α)(h:k<n):(List.replicate n x).getD k a=x:=by rw[List.getD_eq_getElem?_getD,List.getElem?_replicate_of_lt h];rfl
theorem oH{α:Type}[Inhabited α](F:α→List Value)(l:List α):l.flatMap F=eH l.length (fun k=>F (l.getD k default)):=by
 have a:∀n,n≤l.length→(l.take n).flatMap F=eH n (fun k=>F (l.getD k default)):=by
  intro n b
  induction n with
  | zero=>simp[eH]
  | succ n ih=>
   rw[List.take_add_one,List.flatMap_append,ih (by omega),jQ,List.getElem?_eq_getElem (by omega),List.getD_eq_getElem?_getD,List.getElem?_eq_getElem (by omega)];simp
 have:=a l.length (Nat.le_refl _)
 rwa [List.take_length]at this
theorem mZ.low{w:World}{d f n:Nat}{g:Dc}{j:List Pt}{k:List (Nat→Int)}{wd pr tn:Nat→Nat}(h:mZ w d g j k n wd pr tn)(c:f≤d):mZ w f g j k n wd pr tn:=
 ⟨fun i p a b=>⟨Nat.le_trans c (h.words i p a b).1,(h.words i p a b).2⟩,fun i p a b=>⟨Nat.le_trans c (h.procs i p a b).1,(h.procs i p a b).2⟩,fun i p a b=>⟨Nat.le_trans c (h.turns i p a b).1,(h.turns i p a b).2⟩,h.wdwd,h.prpr,h.wdtn⟩
structure tC(w:World)(xW:Nat)(xC:Option Addr)(cf:Cf):Prop where
 wins:∀k p,cf.wins[k]?=some p→xW<w.heap.size∧w.cell? ⟨xW,k*3,none⟩=some (.int .i64 p.part)∧w.cell? ⟨xW,k*3+1,none⟩=some (.int .i64 p.first)∧w.cell? ⟨xW,k*3+2,none⟩=some (.int .i64 p.many)
 chans:∀k p,cf.chans[k]?=some p→∃g,xC=some ⟨g,0,none⟩∧g<w.heap.size∧w.cell? ⟨g,k*3,none⟩=some (.int .i64 p.src)∧w.cell? ⟨g,k*3+1,none⟩=some (.int .i64 p.dst)∧w.cell? ⟨g,k*3+2,none⟩=some (.int .i64 p.depth)
theorem tC.keep{w w':World}{l:Nat}{m:Option Addr}{cf:Cf}(h:tC w l m cf)(c:Below w.heap.size w w'):tC w' l m cf:=by
 refine⟨fun k p d=>?_,fun k p d=>?_⟩
 ·obtain⟨b,f,i,j⟩:=h.wins k p d;have a:=c.block _ b;exact⟨Nat.lt_of_lt_of_le b c.size,(aT a _).trans f,(aT a _).trans i,(aT a _).trans j⟩
 ·obtain⟨g,n,b,f,i,j⟩:=h.chans k p d;have a:=c.block _ b;exact⟨g,n,Nat.lt_of_lt_of_le b c.size,(aT a _).trans f,(aT a _).trans i,(aT a _).trans j⟩
theorem Nr(w:World)(m g mb pb wb cb:Nat)(f:Dc)(cf:Cf)(bs:List Int)(wd pr tn ch:Nat→Nat)(A:tR cf)(p:m≤mb∧m≤pb∧m≤wb∧m≤cb)
 (B:∀i r,r∈f.l i→∀b,r.2.ownBlock=some b→m≤b) (u:nB w f cf.parts) (h:mZ w m f cf.parts (bT bs) cf.parts.length wd pr tn)
 (C:w.heap[mb]?=some (.cells #[.pointer (some ⟨g,0,none⟩),.int .i64 cf.frame,.int .i64 cf.watch,.slice (some ⟨pb,0,none⟩) cf.parts.length cf.parts.length,.slice (some ⟨wb,0,none⟩) cf.wins.length cf.wins.length,.slice (some ⟨cb,0,none⟩) cf.chans.length cf.chans.length,.int .i64 0,.bool false] 145 (0,0)))
 (D:w.heap[pb]?=some (.cells (eH cf.parts.length fun i=>fK (wd i) (pr i) (tn i) i (cf.parts.getD i default) (jY (bT bs) i (cf.parts.getD i default))).toArray 120 (0,0)))
 (E:w.heap[wb]?=some (.cells (cf.wins.flatMap eX).toArray 131 (0,0)))
 (F:w.heap[cb]?=some (.cells (eH cf.chans.length fun c=>[.int .i64 (cf.chans.getD c default).src,.int .i64 (cf.chans.getD c default).dst,.chan (some (ch c))]).toArray 139 (0,0)))
 (x:∀c,c<cf.chans.length→m≤ch c∧w.heap[ch c]?=some (.chan (cf.chans.getD c default).depth.toNat #[] false 0 0 false)) (G:∀i c,i<cf.chans.length→c<cf.chans.length→ch i=ch c→i=c):
 ∃q:bN,q.mb=mb∧aU w q g (cJ cf bs)∧nI q cf.parts.length cf.chans.length∧eA (cJ cf bs)∧∀b,Oh q (cJ cf bs) b→m≤b:=by
 have d:(cJ cf bs).parts.length=cf.parts.length:=mV _ _ _ (Nat.le_refl _);have n:∀i,i<cf.parts.length→(cJ cf bs).parts.getD i default=jY (bT bs) i (cf.parts.getD i default):=fun i a=>uP _ _ _ i (Nat.le_refl _) a
 have j:∀i,i<cf.parts.length→cf.parts[i]?=some (cf.parts.getD i default):=fun i a=>by rw[List.getD_eq_getElem?_getD,List.getElem?_eq_getElem a];rfl
 have y:∀i,i<cf.parts.length→(f.l i).length=(cf.parts.getD i default).procs.length:=fun i a=>by rw[←(u.procs i _ (j i a)).1,List.length_map]
 have z:∀i k,i<cf.parts.length→k<(cf.parts.getD i default).procs.length→((f.l i).getD k default)∈f.l i∧((f.l i).getD k default).1=(cf.parts.getD i default).procs.getD k default:=fun i k a l=>by
  have v:k<(f.l i).length:=by rw[y i a];exact l
  have e:=(u.procs i _ (j i a)).1;rw[←e];rw[List.getD_eq_getElem?_getD,List.getElem?_eq_getElem v,List.getD_eq_getElem?_getD,List.getElem?_map,List.getElem?_eq_getElem v];exact⟨List.getElem_mem v,rfl⟩
 refine⟨⟨mb,pb,wb,cb,wd,pr,tn,fun i k=>((f.l i).getD k default).2,ch⟩,rfl,⟨?_,?_,fun i a=>?_,fun i a=>?_,fun i a=>?_,E,F,fun c s=>?_,fun i k a l=>?_⟩,⟨h.wdwd,h.prpr,h.wdtn,G⟩,⟨A,d,fun i a=>?_,by simp[cJ]⟩,fun b o=>?_⟩
 ·unfold rE;rw[d];exact C
 ·rw[d,D]
  congr 3
  exact dV _ _ _ (fun i a=>by rw[n i a];rfl)
 ·rw[d]at a;rw[n i a];exact(h.words i _ a (j i a)).2
 ·rw[d]at a;rw[n i a,(h.procs i _ a (j i a)).2]
  congr 3
  show _=eH (List.replicate _ dC).length _
  rw[oH,List.length_replicate,y i a];refine dV _ _ _ (fun k l=>?_);show _=aY _ ((List.replicate _ dC).getD k default)
  rw[Gg _ _ _ _ l]
 ·rw[d]at a;rw[n i a,(h.turns i _ a (j i a)).2];show _=some (Obj.cells ((fM (List.replicate _ dC).length _).map _).toArray _ _)
  rw[List.length_replicate];rfl
 ·refine⟨0,0,?_⟩;rw[(x c s).2];show _=some (Obj.chan _ (((List.replicate cf.chans.length ([]:List Int)).getD c []).map _).toArray _ _ _ _)
  rw[Gg cf.chans.length c [] [] s];rfl
 ·rw[d]at a;rw[n i a]at l;have H:k<(cf.parts.getD i default).procs.length:=by simpa[jY]using l
  obtain⟨c1,c2⟩:=z i k a H;have:=(u.procs i _ (j i a)).2.2 _ c1;rw[c2]at this;exact this
 ·rw[d]at a;rw[n i a];exact⟨by simp[jY];rfl,by simp[jY];rfl⟩
 ·rcases o with rfl| rfl| rfl| rfl| ⟨i,a,o⟩| ⟨c,s,rfl⟩| ⟨i,k,a,l,o⟩
  ·exact p.1
  ·exact p.2.1
  ·exact p.2.2.1
  ·exact p.2.2.2
  ·rw[d]at a;rcases o with rfl| rfl| rfl
   ·exact(h.words i _ a (j i a)).1
   ·exact(h.procs i _ a (j i a)).1
   ·exact(h.turns i _ a (j i a)).1
  ·exact(x c s).1
  ·rw[d]at a;rw[n i a]at l;exact B i _ (z i k a (by simpa[jY]using l)).1 b o
end Go.Proofs.YtnjlbgolnbdkaaaGreat
