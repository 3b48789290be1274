/- All, with short names -/
import Derived.Test.YtnjlbgolnbdkaaaGreatP24
import Derived.Test.YtnjlbgolnbdkaaaGreatP04
set_option maxRecDepth 100000
set_option maxHeartbeats 16000000
namespace Go.Proofs.YtnjlbgolnbdkaaaGreat
open Go Go.RowKit
section
open Go.RowKit
attribute [-go_sem] Instr.storeAt
theorem Np(mo rs:Int)(nw np:Nat)(z A:List Value)(l:bN)(g:Nat)(st:aQ)(bs:List Int)(left res:Int)(dead:Bool)(done:Int)(i:Nat)(w:World)(B:aU w l g st)(C:eA st)(M:aS w g bs left res dead done)(N:i<st.parts.length)
 (O:mo=(st.parts.getD i default).mode∧rs=aX bs i∧nw=(st.parts.getD i default).words.length∧np=(st.parts.getD i default).procs.length∧z=(st.parts.getD i default).words.map (Value.int .i64)∧A=(st.parts.getD i default).procs.flatMap cU):
 Calls Tryz.prog 38 #[.pointer (some ⟨l.mb,0,none⟩),.int .i64 i] w fun e w'=>∃d c1 f c2,e=.returned (.tuple #[.agg #[.int .i64 mo,.int .i64 rs,.slice (some ⟨d,0,none⟩) nw c1,.slice (some ⟨f,0,none⟩) np c2],.int .i64 0])∧(w'.ownsRow w.heap.size 3 1 (.slice (some ⟨d,0,none⟩) nw c1) nw (z)∧w'.ownsRow w.heap.size 47 3 (.slice (some ⟨f,0,none⟩) np c2) np (A))∧Below w.heap.size w w':=by
 have a6:w.cell? ⟨l.mb,3,none⟩=some (.slice (some ⟨l.pb,0,none⟩) st.parts.length st.parts.length):=aD B.mach;have Q:=aN a6;have R:Below w.heap.size w (w.alloc (.cells #[.int .i64 0,.int .i64 0,.slice none 0 0,.slice none 0 0] 43)):=aG _ _;have D:=aI (pX l.pb st.parts.length i (w.alloc (.cells #[.int .i64 0,.int .i64 0,.slice none 0 0,.slice none 0 0] 43)));have e:(decide (0≤(i:Int))&&decide ((i:Int)<(st.parts.length:Int)))=true:=by simp;omega
 rw[e]at D;have a7:=aI R;have S:=aI B;have T:=aI O;have a8:=aI M;have a9:=aI C;have c3:=C.few;clear R e B M C O
 go_enter Tryz.func38,Tryz.ntmps38
 go_wp2_with fail
 refine D.out.mono ?_;rintro e m ⟨rfl,u⟩;have U:m.heap[w.heap.size]?=some (.cells #[.int .i64 0,.int .i64 0,.slice none 0 0,.slice none 0 0] 43 (0,0)):=(u.block _ (by simp)).trans (cG rfl);have V:Below w.heap.size w m:=a7.out.trans (u.mono (by simp));have n:w.heap.size+1≤m.heap.size:=by have:=u.size;simpa using this
 obtain⟨P,r⟩:∃P:World→Prop,P=fun W=>Below m.heap.size m W:=⟨_,rfl⟩
 have p:Hid (P m):=by show P m;rw[r];exact Below.refl _ _
 have E:Hid (∀W,P W→Below m.heap.size m W):=fun W h=>by rw[r]at h;exact h
 have G:Hid (∀W H,P W→Below W.heap.size W H→P H):=fun W H h o=>by rw[r]at h ⊢;exact h.trans (o.mono h.size)
 have x:Hid (∀W,P W→P W.drew):=fun W h=>by rw[r]at h ⊢;exact h.drew
 have s:Hid (∀W,P W→Below w.heap.size w W):=fun W j=>V.trans ((E.out W j).mono (by omega))
 have X:Hid (∀W:World,W.heap[l.mb]?=w.heap[l.mb]?→W.cell? ⟨l.mb,0,none⟩=some (.pointer (some ⟨g,0,none⟩))∧W.cell? ⟨l.mb,3,none⟩=some (.slice (some ⟨l.pb,0,none⟩) st.parts.length st.parts.length)):=fun W j=>by
  have a:=j.trans S.out.mach;refine⟨?_,?_⟩<;>(rw[cell_of_row _ _ _ _ _ _ a];rfl)
 have y:Hid (∀W,P W→W.cell? ⟨l.mb,0,none⟩=some (.pointer (some ⟨g,0,none⟩))∧W.cell? ⟨l.mb,3,none⟩=some (.slice (some ⟨l.pb,0,none⟩) st.parts.length st.parts.length)):=fun W j=>X.out W ((s.out W j).block _ Q)
 have b0:Hid (∀W,P W→Calls Tryz.prog 73 #[.agg #[.slice (some ⟨l.pb,0,none⟩) st.parts.length st.parts.length],.int .i64 i] W fun e w'=>e=.returned (.pointer (some ⟨l.pb,i*14,none⟩))∧P w'):=fun W j=>(rZ l.pb st.parts.length i W N).mono (fun e w' ⟨q,o⟩=>⟨q,G.out W w' j o⟩)
 have b1:Hid (∀W,P W→Calls Tryz.prog 75 #[.agg #[.pointer (some ⟨g,0,none⟩)],.int .i64 i] W fun e w'=>e=.returned (.int .i64 rs)∧P w'):=fun W j=>(Al g bs left res dead done i W (by omega) (a8.out.below (s.out W j))).mono (fun e w' ⟨q,o⟩=>⟨by rw[q,T.out.2.1],G.out W w' j o⟩)
 have b2:Hid (∀W rs,P W→Calls Tryz.prog 74 #[.pointer (some ⟨l.pb,i*14,none⟩),.int .i64 rs] W fun e w'=>∃d c1 f c2,e=.returned (.agg #[.int .i64 mo,.int .i64 rs,.slice (some ⟨d,0,none⟩) nw c1,.slice (some ⟨f,0,none⟩) np c2])∧(w'.ownsRow W.heap.size 3 1 (.slice (some ⟨d,0,none⟩) nw c1) nw (z)∧w'.ownsRow W.heap.size 47 3 (.slice (some ⟨f,0,none⟩) np c2) np (A))∧P w'):=fun W rs j=>(Qd l g st i rs W (S.out.below (s.out W j)) a9.out N).mono (fun e w' ⟨d,c1,f,c2,q,Y,Z,o⟩=>by
  obtain⟨b3,_,a0,a1,b4,b5⟩:=T.out;rw[←b3,←a0,←a1]at q;rw[←a0,←b4]at Y;rw[←a1,←b5]at Z;exact⟨d,c1,f,c2,q,⟨Y,Z⟩,G.out W w' j o⟩)
 have a2:Hid (∀W,P W→W.heap[w.heap.size]?=some (.cells #[.int .i64 0,.int .i64 0,.slice none 0 0,.slice none 0 0] 43 (0,0))):=fun W j=>eT (E.out W j) U
 have a3:Hid (∀W,P W→w.heap.size+1≤W.heap.size):=fun W j=>Nat.le_trans n (E.out W j).size
 obtain⟨F,hF⟩:∃F:World→Nat→Nat→Nat→Nat→World,F=fun W d c1 f c2=>W.setCells w.heap.size 0 [.int .i64 mo,.int .i64 rs,.slice (some ⟨d,0,none⟩) nw c1,.slice (some ⟨f,0,none⟩) np c2]:=⟨_,rfl⟩
 have b6:Hid (∀W d c1 f c2,P W→(Instr.storeAt 43 (.pointer (some ⟨w.heap.size,0,none⟩)) (.agg #[.int .i64 mo,.int .i64 rs,.slice (some ⟨d,0,none⟩) nw c1,.slice (some ⟨f,0,none⟩) np c2])).run Tryz.prog W=.ok () (F W d c1 f c2)):=fun W d c1 f c2 j=>by
  rw[hF];exact run_storeAt_mid (P:=Tryz.prog) W w.heap.size 0 43 _ (kB (a2.out W j) 4 (by decide)) (by rw[Tryz.size43];rfl) (by simp[Value.oneCell'])
 have a4:Hid (∀W d c1 f c2,P W→(F W d c1 f c2).heap[w.heap.size]?=some (.cells #[.int .i64 mo,.int .i64 rs,.slice (some ⟨d,0,none⟩) nw c1,.slice (some ⟨f,0,none⟩) np c2] 43 (0,0))∧aH (·=w.heap.size) W (F W d c1 f c2)):=fun W d c1 f c2 j=>by
  rw[hF];exact⟨kO _ (a2.out W j) rfl,jB _ _ _ _⟩
 have b7:Hid (∀W d c1 f c2,P W→(F W d c1 f c2).cell? ⟨l.mb,0,none⟩=some (.pointer (some ⟨g,0,none⟩))∧(F W d c1 f c2).cell? ⟨l.mb,3,none⟩=some (.slice (some ⟨l.pb,0,none⟩) st.parts.length st.parts.length)):=fun W d c1 f c2 j=>X.out _ (((a4.out W d c1 f c2 j).2.block _ (by have:=a3.out W j;omega) (by omega)).trans ((s.out W j).block _ Q))
 clear hF U V r D u;obtain⟨c4,r1⟩:=y.out _ p.out;go_wp2_with fail
 go_region_held3 (fun w'=>w'.cell? ⟨l.mb,0,none⟩=some (.pointer (some ⟨g,0,none⟩))∧w'.cell? ⟨l.mb,3,none⟩=some (.slice (some ⟨l.pb,0,none⟩) st.parts.length st.parts.length))
  ((first| exact y.out _ p.out| exact y.out _ (x.out _ p.out)| exact y.out _ (by assumption)| exact b7.out _ _ _ _ _ (by assumption)))
  (first
   | (go_at_call 73;refine(b0.out _ (by first | assumption | exact x.out _ p.out)).mono ?_;rintro e c5 ⟨rfl,c6⟩)
   | (go_at_call 75;refine(b1.out _ (by first | assumption | exact x.out _ p.out)).mono ?_;rintro e c7 ⟨rfl,b8⟩)
   | (go_at_call 74;refine(b2.out _ _ (by first | assumption | exact x.out _ p.out)).mono ?_;rintro e I ⟨d,c1,f,c2,rfl,n,J⟩;have c8:=fun a b c b9=>b6.out I a b c b9 J))
 all_goals
  go_wp2
  obtain⟨c0,L⟩:=a4.out I d c1 f c2 J;have a5:=s.out I J;have c9:=a3.out _ b8;refine bodyPost_ret (v:=.tuple #[.agg #[.int .i64 mo,.int .i64 rs,.slice (some ⟨d,0,none⟩) nw c1,.slice (some ⟨f,0,none⟩) np c2],.int .i64 0]) (kL Tryz.results38 _ _ _ (by rfl) c0 Tryz.underlying43 (by rw[Tryz.size43];rfl)) rfl ?_;refine⟨d,c1,f,c2,rfl,⟨?_,?_⟩,a5.trans (L.below a5.size (fun k d0=>by omega))⟩
  ·exact bI (aO n.1 (fun b e=>L.block b (World.ownsRow.lt n.1 b e).2 (by have:=(World.ownsRow.lt n.1 b e).1;omega))) (by omega)
  ·exact bI (aO n.2 (fun b e=>L.block b (World.ownsRow.lt n.2 b e).2 (by have:=(World.ownsRow.lt n.2 b e).1;omega))) (by omega)
theorem Ml(a:bN)(g:Nat)(st:aQ)(bs:List Int)(left res:Int)(dead:Bool)(done:Int)(i:Nat)(w:World)(d:aU w a g st)(f:eA st)(h:aS w g bs left res dead done)(j:i<st.parts.length):
 Calls Tryz.prog 38 #[.pointer (some ⟨a.mb,0,none⟩),.int .i64 i] w fun e w'=>∃b c1 c c2,e=.returned (.tuple #[.agg #[.int .i64 (st.parts.getD i default).mode,.int .i64 (aX bs i),.slice (some ⟨b,0,none⟩) (st.parts.getD i default).words.length c1,.slice (some ⟨c,0,none⟩) (st.parts.getD i default).procs.length c2],.int .i64 0])∧(w'.ownsRow w.heap.size 3 1 (.slice (some ⟨b,0,none⟩) (st.parts.getD i default).words.length c1) (st.parts.getD i default).words.length ((st.parts.getD i default).words.map (Value.int .i64))∧w'.ownsRow w.heap.size 47 3 (.slice (some ⟨c,0,none⟩) (st.parts.getD i default).procs.length c2) (st.parts.getD i default).procs.length ((st.parts.getD i default).procs.flatMap cU))∧Below w.heap.size w w':=
 Np _ _ _ _ _ _ a g st bs left res dead done i w d f h j ⟨rfl,rfl,rfl,rfl,rfl,rfl⟩
end
section
open Go.RowKit
theorem uN(kb:Nat)(q:bN)(g:Nat)(st:aQ)(bs:List Int)(left res:Int)(dead:Bool)(done:Int)(i:Nat)(w:World)(h:eP w kb q g st)(s:aS w g bs left res dead done)(x:i<st.parts.length):
 Calls Tryz.prog 20 #[.pointer (some ⟨kb,0,none⟩),.int .i64 i] w fun e w'=>∃v,e=.returned (.tuple #[v,.int .i64 0])∧Tf w.heap.size v (st.parts.getD i default) (aX bs i) w'∧Below w.heap.size w w':=by
 have y:w.cell? ⟨kb,0,none⟩=some (.pointer (some ⟨q.mb,0,none⟩)):=aD h.box;have D:=aN y;have m:Below w.heap.size w (w.alloc (.cells #[.int .i64 0,.int .i64 0,.slice none 0 0,.slice none 0 0] 43)):=aG _ _;have u:=aI (Ml q g st bs left res dead done i _ (h.mach.below m) h.ok (s.below m) x);have z:=aI m;clear h s m;generalize st.parts.getD i default=p at *;generalize aX bs i=rs at *
 go_enter Tryz.func20,Tryz.ntmps20
 go_wp2_with fail
 refine u.out.mono ?_;rintro e c ⟨j,c1,l,c2,rfl,d,n⟩;have E:w.heap.size+1≤c.heap.size:=by have:=n.size;simpa using this
 have a:c.heap[w.heap.size]?=some (.cells #[.int .i64 0,.int .i64 0,.slice none 0 0,.slice none 0 0] 43 (0,0)):=(n.block _ (by simp)).trans (cG rfl);have z0:c.cell? ⟨w.heap.size,0,none⟩=some (.int .i64 0):=aD a;have z1:c.cell? ⟨w.heap.size,1,none⟩=some (.int .i64 0):=aD a;have z2:c.cell? ⟨w.heap.size,2,none⟩=some (.slice none 0 0):=aD a;have z3:c.cell? ⟨w.heap.size,3,none⟩=some (.slice none 0 0):=aD a;have F:=aJ a 0;have G:=aJ a 1;have H:=aJ a 2;have I:=aJ a 3;have r:Below w.heap.size w c:=z.out.trans (n.mono (by simp));obtain⟨f,o⟩:∃f,f=(((c.setCell ⟨w.heap.size,0,none⟩ (.int .i64 p.mode)).setCell ⟨w.heap.size,1,none⟩ (.int .i64 rs)).setCell ⟨w.heap.size,2,none⟩ (.slice (some ⟨j,0,none⟩) p.words.length c1)).setCell ⟨w.heap.size,3,none⟩ (.slice (some ⟨l,0,none⟩) p.procs.length c2):=⟨_,rfl⟩;have A:Hid (f.heap[w.heap.size]?=some (.cells #[.int .i64 p.mode,.int .i64 rs,.slice (some ⟨j,0,none⟩) p.words.length c1,.slice (some ⟨l,0,none⟩) p.procs.length c2] 43 (0,0))):=by show _=_;rw[o];exact aK (aK (aK (aK a 0 _) 1 _) 2 _) 3 _
 have t:aH (·=w.heap.size) c f:=by
  rw[o]
  iterate 4 refine aH.thenSet ?_ _ _ rfl
  exact aH.refl _ _
 have B:Hid (Tf w.heap.size (.agg #[.int .i64 p.mode,.int .i64 rs,.slice (some ⟨j,0,none⟩) p.words.length c1,.slice (some ⟨l,0,none⟩) p.procs.length c2]) p rs f∧Below w.heap.size w f):=⟨⟨j,c1,l,c2,rfl,bI (aO d.1 (fun b e=>t.block b (World.ownsRow.lt d.1 b e).2 (by have:=(World.ownsRow.lt d.1 b e).1;simp at this;omega))) (by simp),bI (aO d.2 (fun b e=>t.block b (World.ownsRow.lt d.2 b e).2 (by have:=(World.ownsRow.lt d.2 b e).1;simp at this;omega))) (by simp)⟩,r.trans (t.below r.size (fun k h=>by omega))⟩;clear d;have C:=aI o;clear n a o r t u;go_wp2
 rw[←C.out];refine bodyPost_ret (v:=.tuple #[.agg #[.int .i64 p.mode,.int .i64 rs,.slice (some ⟨j,0,none⟩) p.words.length c1,.slice (some ⟨l,0,none⟩) p.procs.length c2],.int .i64 0]) (kL Tryz.results20 _ _ _ (by rfl) A.out Tryz.underlying43 (by rw[Tryz.size43];rfl)) rfl ?_;exact⟨_,rfl,B.out⟩
theorem Qe(kb:Nat)(j:bN)(g:Nat)(st:aQ)(i:Int)(w:World)(d:eP w kb j g st)(n:¬ (0≤i∧i<st.parts.length)):
 Calls Tryz.prog 20 #[.pointer (some ⟨kb,0,none⟩),.int .i64 i] w fun e w'=>e=.returned (.tuple #[.agg #[.int .i64 0,.int .i64 0,.slice none 0 0,.slice none 0 0],.int .i64 1])∧Below w.heap.size w w':=by
 have p:w.cell? ⟨kb,0,none⟩=some (.pointer (some ⟨j.mb,0,none⟩)):=aD d.box;have x:=aN p;have l:Below w.heap.size w (w.alloc (.cells #[.int .i64 0,.int .i64 0,.slice none 0 0,.slice none 0 0] 43)):=aG _ _;have o:=aI (Ox j g st i _ (d.mach.below l) n);have q:=aI l;clear d l n
 go_enter Tryz.func20,Tryz.ntmps20
 go_wp2_with fail
 refine o.out.mono ?_;rintro e b ⟨rfl,f⟩;have y:w.heap.size+1≤b.heap.size:=by have:=f.size;simpa using this
 have a:b.heap[w.heap.size]?=some (.cells #[.int .i64 0,.int .i64 0,.slice none 0 0,.slice none 0 0] 43 (0,0)):=(f.block _ (by simp)).trans (cG rfl);have z0:b.cell? ⟨w.heap.size,0,none⟩=some (.int .i64 0):=aD a;have z1:b.cell? ⟨w.heap.size,1,none⟩=some (.int .i64 0):=aD a;have z2:b.cell? ⟨w.heap.size,2,none⟩=some (.slice none 0 0):=aD a;have z3:b.cell? ⟨w.heap.size,3,none⟩=some (.slice none 0 0):=aD a;have z:=aJ a 0;have A:=aJ a 1;have B:=aJ a 2;have C:=aJ a 3;have m:Below w.heap.size w b:=q.out.trans (f.mono (by simp));obtain⟨c,h⟩:∃c,c=(((b.setCell ⟨w.heap.size,0,none⟩ (.int .i64 0)).setCell ⟨w.heap.size,1,none⟩ (.int .i64 0)).setCell ⟨w.heap.size,2,none⟩ (.slice none 0 0)).setCell ⟨w.heap.size,3,none⟩ (.slice none 0 0):=⟨_,rfl⟩;have r:Hid (c.heap[w.heap.size]?=some (.cells #[.int .i64 0,.int .i64 0,.slice none 0 0,.slice none 0 0] 43 (0,0))):=by show _=_;rw[h];exact aK (aK (aK (aK a 0 _) 1 _) 2 _) 3 _
 have t:aH (·=w.heap.size) b c:=by
  rw[h]
  iterate 4 refine aH.thenSet ?_ _ _ rfl
  exact aH.refl _ _
 have s:Hid (Below w.heap.size w c):=m.trans (t.below m.size (fun k d=>by omega));have u:=aI h;clear f a h m t o;go_wp2
 rw[←u.out];refine bodyPost_ret (v:=.tuple #[.agg #[.int .i64 0,.int .i64 0,.slice none 0 0,.slice none 0 0],.int .i64 1]) (kL Tryz.results20 _ _ _ (by rfl) r.out Tryz.underlying43 (by rw[Tryz.size43];rfl)) rfl ?_;exact⟨rfl,s.out⟩
end
theorem vO(p:Nat→Value)(d:Nat)(n:Int)(Z:Nat→Value)(q:Nat→Nat)(m:Nat→List eI)(v:Value)(o:Nat)(b2:List Value)(w:World)
 (h:jJ p q d n Z m m w) (a0:w.ownsRow 0 52 5 v o b2) (b3:∀b,v.ownBlock=some b→100≤q b) (h5:o≤1000) (e0:0≤n) (h6:n≤100000000000) (b4:∀f,(m f).length≤100000000000):
 Calls Tryz.prog 98 #[.pointer (some ⟨d,5,none⟩),v] w fun e w'=>∃L' z r,e=.returned (.tuple #[])∧jJ p L' d (n+1) z r r w'∧(∀f,(r f).length≤(m f).length+4)∧(∀k,k<w.heap.size→L' k=uF q 2 v k)∧aH (fun k=>q k≤27∨v.ownBlock=some k) w w':=by
 obtain⟨e1,a1,e2,e3,e4⟩:=info_parts Tryz.info52;obtain⟨e5,e6,e7,e8,e9⟩:=info_parts Tryz.info49;obtain⟨k0,A,f0,f1,f2⟩:=info_parts Tryz.info3;obtain⟨ad,c,rfl⟩:=bL a0;have a2:=aI h;have a3:=aI a0;have b5:=aI b3;have f3:=aI b4;have P:=h.lab;clear h a0 b3 b4
 go_enter Tryz.func98,Tryz.ntmps98
 go_wp2_with fail
 refine(wZ p d _ _ n Z w a2.out.blk e0 (by omega)).mono ?_;rintro e u ⟨rfl,D,Q⟩;have b6:=aI Q;have b7:Hid (jJ p q d (n+1) Z m m u):=⟨D,P,a2.out.fam.touch Q (fun k _ A=>.inl (by rw[A];exact P))⟩;have b8:Hid (u.ownsRow 0 52 5 (.slice ad o c) o b2):=aO a3.out (fun b e=>Q.block b (World.ownsRow.lt a3.out b e).2 (fun f4=>by have:=b5.out b e;rw[f4,P]at this;omega));clear D Q;go_wp2
 generalize (-77000000-(n+1))=j
 go_loopw [5] (fun i wr=>∃ (k:Nat),k≤o∧i=.int .i64 k∧rI 2 u (.slice ad o c) o j k wr) (fun i _=>o-(intOf i).toNat)
 case atStart=>exact⟨0,by omega,rfl,rI.start b8.out⟩
 case round=>
  obtain⟨k,h7,rfl,hF⟩:=hrel
  by_cases a4:k<o
  ·obtain⟨g,I,rfl,E,F⟩:=hF.at a4;have h8:wr.cell? ⟨g,k*5,none⟩=some (I 0):=E 0 (by decide);have h9:wr.cell? ⟨g,k*5+1,none⟩=some (I 1):=E 1 (by decide);have i0:wr.cell? ⟨g,k*5+2,none⟩=some (I 2):=E 2 (by decide);have i1:wr.cell? ⟨g,k*5+3,none⟩=some (I 3):=E 3 (by decide);have i2:wr.cell? ⟨g,k*5+4,none⟩=some (I 4):=E 4 (by decide);have i3:=F (k*5);have i4:=F (k*5+1);have i5:=F (k*5+2);have i6:=F (k*5+3);have i7:=F (k*5+4);have G:=aI hF;clear hF E F;go_wp2
   go_roundw
   case rel=>exact⟨k+1,by omega,by go_num,G.out.step a4⟩
   case measure=>simp[intOf];omega
  ·obtain rfl:k=o:=by omega
   have a5:Hid (∃L' z r,gX p 2 w q m (.slice ad k c) d (n+1) k j 0 L' z r (.slice ad k c) wr):=by
    obtain⟨f5,f6⟩:=jJ.begin (f:=2) (by omega) b7.out b5.out hF;exact⟨_,_,_,f5,f6,fun i=>by simp,fun _ _=>rfl,aH.trans (b6.out.mono (fun k A=>.inl (by rw[A,P];omega))) hF.t (fun i a1=>.inl (.inr a1))⟩
   clear hF b8 b7 b6 a3 a2;go_wp2
   go_loopw [1,6] (fun v i f7=>∃ (a:Nat) (L':Nat→Nat) (z:Nat→Value) (r:Nat→List eI),a≤4∧i=.int .i64 a∧gX p 2 w q m (.slice ad k c) d (n+1) k j a L' z r v f7) (fun _ i _=>4-(intOf i).toNat)
   case atStart=>
    obtain⟨L',z,r,A⟩:=a5.out;exact⟨0,L',z,r,by omega,rfl,A⟩
   case round=>
    obtain⟨a,R,J,l,i8,rfl,B⟩:=hrel;obtain⟨C,c1,f9⟩:=bL B.c.own;subst f9;have i9:(l 2).length≤100000000010:=by have:=B.len 2;have:=f3.out 2;simp at *;omega
    by_cases a4:a<4
    ·have g0:=(show wr.cell? ⟨d,12,none⟩=some (J 7)from B.h.cell 7 (by omega) (by omega));have S:=aI B;clear B a5;go_wp2_with (at_builtin;go_must (refine wpList_append_lies _ rfl (.tmp 28) (.tmp 30) 84 rfl 0 49 e5 (.slice none 0 0) 1 24 Tryz.underlying84 e6 e7 e8 e9 rfl (by decide) (J 7) (l 2).length ((l 2).map eI.v) rfl ((S.out.h.fam 2 (by omega)).own.alloc _) ⟨wr.heap.size,0,none⟩ 1 1 [.slice C (k+a) c1] (by rfl) rfl (dA wr #[.slice C (k+a) c1] 49) (oJ _ _ _ _ rfl) (by omega) (by unfold maxLen;omega) (by omega) (by omega) _ rfl ?_))
     intro g1 g2 u b9 c0 c2 _;obtain⟨D,a6,T,s,L,M,H,N⟩:=S.out.h.row (f:=2) (by omega) S.out.c (by omega) b9 c0 c2;have g3:=aJ D 12;have g4:u.cell? ⟨d,12,none⟩=some (J 7):=aD D;obtain⟨x,O⟩:∃x,x=u.setCell ⟨d,12,none⟩ (.slice (some ⟨g1,0,none⟩) ((l 2).length+1) g2):=⟨_,rfl⟩;have c3:x.heap.size=u.heap.size:=by rw[O];simp
     have U:Hid (jJ p a6 d (n+1) T s l x∧xP 2 a6 s x (.slice C (k+a) c1) (k+a) j∧s=zQ l 2 (l 2++[⟨.slice C (k+a) c1,j⟩])∧rX 2 R a6 wr x):=by show _∧_;rw[O];exact⟨L,M,H,N⟩
     have c4:x.cell? ⟨d,13,none⟩=some (T 8):=U.out.1.cell 8 (by omega) (by omega);rw[O]at c4;have V:=aI O;clear D L M H N O b9 c0 c2 g0;go_wp2_with (at_builtin;go_must (refine wpList_append_lies _ rfl (.tmp 38) (.tmp 40) 40 rfl 0 3 k0 (.int .i64 0) 1 8 Tryz.underlying40 A f0 f1 f2 rfl (by decide) (T 8) (l 2).length ((l 2).map fun k=>Value.int .i64 k.mark) rfl (by rw[←V.out];exact(U.out.1.fam 2 (by omega)).ownM.alloc _) ⟨u.heap.size,0,none⟩ 1 1 [.int .i64 j] (by rfl) rfl (by rw[←V.out,←c3];exact dA x #[.int .i64 j] 3) (oM _ (by simp)) (by omega) (by unfold maxLen;omega) (by omega) (by omega) _ rfl ?_))
     rw[←V.out];intro g5 g6 W c5 c6 c7 _;obtain⟨L,M,H,N⟩:=U.out;obtain⟨a7,a8,a9,g7,b0,c8,c9,d0⟩:=L.mark (f:=2) (by omega) M c5 c6 (by rw[c3];exact c7);have f8:=aJ a7 13;have g8:W.cell? ⟨d,13,none⟩=some (T 8):=aD a7;obtain⟨y,X⟩:∃y,y=W.setCell ⟨d,13,none⟩ (.slice (some ⟨g5,0,none⟩) ((l 2).length+1) g6):=⟨_,rfl⟩;have g9:y.heap.size=W.heap.size:=by rw[X];simp
     have b1:Hid (jJ p a8 d (n+1) a9 s s y∧xP 2 a8 s y (.slice C (k+a) c1) (k+a) j∧rX 2 R a8 wr y):=by
      show _∧_
      rw[X];exact⟨by rw[show s=g7 from H.trans c9.symm]at b0 ⊢;exact b0,c8,N.trans d0⟩
     have h0:=aI H;have Y:=aI X;clear a7 L M H N b0 c8 c9 d0 X c5 c6 c7 c4 U V g4 g3;go_wp2_with (at_builtin;go_must (refine jV rfl (.tmp 44) (.tmp 47) 49 rfl 52 e1 (.agg #[.int .i64 0,.int .i64 0,.int .i64 0,.int .i64 0,.int .i64 0]) 5 40 Tryz.underlying49 a1 e2 e3 e4 rfl (by decide) (.slice C (k+a) c1) (k+a) (nT (k+a) (nG 2 j)) rfl (by rw[←Y.out];exact b1.out.2.1.own.alloc _) ⟨W.heap.size,0,none⟩ 1 1 (nG 2 j) (by rfl) rfl (by rw[←Y.out,←g9];exact dA y #[.int .i64 j,.int .i64 0,.int .i64 0,.int .i64 0,.int .i64 0] 52) (Bw 2 j) (by omega) (by unfold maxLen;omega) (by omega) ?_))
     rw[←Y.out];intro h1 h2 h3 d1 d2;obtain⟨d3,d4,d5⟩:=b1.out;obtain⟨d6,d7,d8,d9⟩:=d3.list (f:=2) (by omega) d4 (aH.alloc y _) d1 d2;have h4:Hid (gX p 2 w q m (.slice ad k c) d (n+1) k j (a+1) d6 a9 s (.slice (some ⟨h1,0,none⟩) (k+a+1) h2) h3):=S.out.next (by omega) h0.out (d5.trans d9) d7 d8;clear d3 d4 d5 d7 d8 d9 d1 d2 b1 Y g8 f8;go_wp2
     go_roundw
     case rel=>exact⟨a+1,d6,a9,s,by omega,by go_num,h4.out⟩
     case measure=>simp[intOf];omega
    ·have G:Hid (gX p 2 w q m (.slice ad k c) d (n+1) k j a R J l (.slice C (k+a) c1) wr):=B;clear B a5;go_wp2
     go_end0
     exact⟨R,J,l,rfl,G.out.h,fun f=>by have:=G.out.len f;split at this<;>omega,G.out.lab,G.out.t⟩
end Go.Proofs.YtnjlbgolnbdkaaaGreat
