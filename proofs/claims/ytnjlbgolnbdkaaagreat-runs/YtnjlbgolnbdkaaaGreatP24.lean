/- All, with short names -/
import Derived.Test.YtnjlbgolnbdkaaaGreatP23
import Derived.Test.YtnjlbgolnbdkaaaGreatP07
import Derived.Test.YtnjlbgolnbdkaaaGreatP22
set_option maxRecDepth 100000
set_option maxHeartbeats 16000000
namespace Go.Proofs.YtnjlbgolnbdkaaaGreat
open Go Go.RowKit
theorem Er(bs:List Int):(bT bs).length≤14:=by
 unfold bT;rw[List.length_append];have:=jA bs (bD bs).1;have:=jA bs (bD bs).2;omega
theorem If(g A D I J:Nat)(E:Option Addr)(f:Dc)(cf:Cf)(bs:List Int)(left res:Int)(dead:Bool)(done:Int)(w:World)(c5:aS w g bs left res dead done)(a7:A≤w.heap.size)(u:tR cf)(c6:∀i r,r∈f.l i→∀b,r.2.ownBlock=some b→A≤b)(a8:nB w f cf.parts)(Q:tC w D E cf):
 Calls Tryz.prog 30 #[.agg #[.int .i64 cf.frame,.int .i64 cf.watch,.slice (some ⟨f.px,0,none⟩) cf.parts.length f.pc,.slice (some ⟨D,0,none⟩) cf.wins.length I,.slice E cf.chans.length J],.pointer (some ⟨g,0,none⟩)] w fun e w'=>∃m:bN,e=.returned (.pointer (some ⟨m.mb,0,none⟩))∧aU w' m g (cJ cf bs)∧nI m cf.parts.length cf.chans.length∧eA (cJ cf bs)∧(∀b,Oh m (cJ cf bs) b→A≤b)∧Below w.heap.size w w':=by
 have c7:Below w.heap.size w (w.alloc (.cells #[.int .i64 cf.frame,.int .i64 cf.watch,.slice (some ⟨f.px,0,none⟩) cf.parts.length f.pc,.slice (some ⟨D,0,none⟩) cf.wins.length I,.slice E cf.chans.length J] 71)):=aG _ _;have c8:=aI (Tn g (w.alloc (.cells #[.int .i64 cf.frame,.int .i64 cf.watch,.slice (some ⟨f.px,0,none⟩) cf.parts.length f.pc,.slice (some ⟨D,0,none⟩) cf.wins.length I,.slice E cf.chans.length J] 71)));have d6:=aI c7;have d7:=aI c5;clear c7
 go_enter Tryz.func30,Tryz.ntmps30
 go_wp2_with fail
 refine c8.out.mono ?_;rintro e F ⟨rfl,a0⟩;have d8:=a0.size;simp at d8;have a1:F.heap[w.heap.size]?=some (.cells #[.int .i64 cf.frame,.int .i64 cf.watch,.slice (some ⟨f.px,0,none⟩) cf.parts.length f.pc,.slice (some ⟨D,0,none⟩) cf.wins.length I,.slice E cf.chans.length J] 71 (0,0)):=(a0.block _ (by simp)).trans (cG rfl);have d9:=aI a1;have c9:Hid (Below w.heap.size w F):=d6.out.trans (a0.mono (by simp));have d0:=d7.out.below c9.out;have a9:Below F.heap.size F (F.alloc (.cells #[.pointer (some ⟨g,0,none⟩)] 107)):=aG _ _;have d1:=aI (wW g bs left res dead done _ (d0.below a9));have e0:=aI a9;clear a0 a1 d0 a9 c8;go_wp2_with fail
 refine d1.out.mono ?_;rintro e R ⟨v,rfl,⟨a2,_⟩,a3⟩;have d2:=a3.size;simp at d2;obtain⟨ad,b0,rfl⟩:=bL a2;obtain⟨S,b1⟩:∃S,S=F.heap.size:=⟨_,rfl⟩;obtain⟨lb,b2⟩:∃lb,lb=R.heap.size:=⟨_,rfl⟩;obtain⟨l,x⟩:∃l,l=R.alloc (.cells #[.slice ad (bT bs).length b0] 49):=⟨_,rfl⟩;have e1:l.heap.size=R.heap.size+1:=by rw[x];simp
 have a4:Below R.heap.size R l:=aE x;have b3:Below F.heap.size F l:=(e0.out.trans (a3.mono (by simp))).trans (a4.mono (by omega));have b4:l.heap[S]?=some (.cells #[.pointer (some ⟨g,0,none⟩)] 107 (0,0)):=eT a4 (eT a3 (cG b1));have b5:l.heap[lb]?=some (.cells #[.slice ad (bT bs).length b0] 49 (0,0)):=by rw[x];exact cG b2
 have y:=eT b3 d9.out;have d3:Hid (dM 0 (.slice ad (bT bs).length b0) (bT bs) l):=bI (aO a2 (fun b e=>a4.block b (World.ownsRow.lt a2 b e).2)) (Nat.zero_le _);have b6:Below w.heap.size w l:=c9.out.trans (b3.mono (by omega));obtain⟨P,N⟩:∃P:World→Prop,P=fun W=>Below l.heap.size l W:=⟨_,rfl⟩
 have L:Hid (P l):=by show P l;rw[N];exact Below.refl _ _
 have M:Hid (∀W,P W→Below l.heap.size l W):=fun W h=>by rw[N]at h;exact h
 have b7:Hid (∀W b8,P W→Below W.heap.size W b8→P b8):=fun W b8 h e2=>by rw[N]at h ⊢;exact h.trans (e2.mono h.size)
 have T:Hid (∀W,P W→P W.drew):=fun W h=>by rw[N]at h ⊢;exact h.drew
 have b9:Hid (∀W o,P W→P (W.alloc o)):=fun W o h=>by rw[N]at h ⊢;exact h.alloc h.size _
 have z:Hid (∀W,P W→Below w.heap.size w W):=fun W d=>b6.trans ((M.out W d).mono (by have:=b6.size;omega))
 have G:Hid (∀W,P W→W.cell? ⟨S,0,none⟩=some (.pointer (some ⟨g,0,none⟩))∧W.cell? ⟨w.heap.size,0,none⟩=some (.int .i64 cf.frame)∧W.cell? ⟨w.heap.size,1,none⟩=some (.int .i64 cf.watch)∧W.cell? ⟨w.heap.size,2,none⟩=some (.slice (some ⟨f.px,0,none⟩) cf.parts.length f.pc)∧W.cell? ⟨w.heap.size,3,none⟩=some (.slice (some ⟨D,0,none⟩) cf.wins.length I)∧W.cell? ⟨w.heap.size,4,none⟩=some (.slice E cf.chans.length J)):=fun W d=>by
  have a:=((M.out W d).block _ (aR b4)).trans b4;have b:=((M.out W d).block _ (aR y)).trans y;refine⟨aD a,?_,?_,?_,?_,?_⟩<;>(rw[cell_of_row _ _ _ _ _ _ b];rfl)
 have e3:Hid (∀W,P W→Calls Tryz.prog 49 #[.int .i64 cf.parts.length,.func (.func 50) #[] #[.pointer (some ⟨w.heap.size,0,none⟩),.pointer (some ⟨lb,0,none⟩)]] W fun e w'=>∃ (k:Nat) (wd pr tn:Nat→Nat),e=.returned (.agg #[.slice (some ⟨k,0,none⟩) cf.parts.length cf.parts.length])∧W.heap.size≤k∧w'.heap[k]?=some (.cells (eH cf.parts.length fun i=>fK (wd i) (pr i) (tn i) i (cf.parts.getD i default) (jY (bT bs) i (cf.parts.getD i default))).toArray 120 (0,0))∧mZ w' A f cf.parts (bT bs) cf.parts.length wd pr tn∧Below W.heap.size W w'∧P w'):=fun W d=>
  (Ll w.heap.size lb 0 f cf.parts _ (bT bs) W u.few.2 u.parts (by have:=Er bs;omega) (aO d3.out (fun b e=>(M.out W d).block b (World.ownsRow.lt d3.out b e).2)) (a8.keep (z.out W d)) (G.out W d).2.2.2.1 (by have a:=((M.out W d).block _ (aR b5)).trans b5;rw[cell_of_row _ _ _ _ _ _ a];rfl)).mono (fun e w' ⟨k,wd,pr,tn,U,V,X,a5,H⟩=>⟨k,wd,pr,tn,U,V,X,a5.low (Nat.le_trans a7 (z.out W d).size),H,b7.out W w' d H⟩)
 have e4:Hid (∀W,P W→Calls Tryz.prog 53 #[.int .i64 cf.wins.length,.func (.func 54) #[] #[.pointer (some ⟨w.heap.size,0,none⟩)]] W fun e w'=>∃k,e=.returned (.agg #[.slice (some ⟨k,0,none⟩) cf.wins.length cf.wins.length])∧W.heap.size≤k∧w'.heap[k]?=some (.cells (cf.wins.flatMap eX).toArray 131 (0,0))∧Below W.heap.size W w'∧P w'):=fun W d=>
  (Rl w.heap.size D I cf.wins W u.nwins.2 (by have:=(z.out W d).size;have:=aR y;have:=(M.out W d).size;omega) (G.out W d).2.2.2.2.1 (Q.keep (z.out W d)).wins).mono (fun e w' ⟨k,U,V,X,H⟩=>⟨k,U,V,X,H,b7.out W w' d H⟩)
 have e5:Hid (∀W,P W→Calls Tryz.prog 55 #[.int .i64 cf.chans.length,.func (.func 56) #[] #[.pointer (some ⟨w.heap.size,0,none⟩)]] W fun e w'=>∃ (k:Nat) (ch:Nat→Nat),e=.returned (.agg #[.slice (some ⟨k,0,none⟩) cf.chans.length cf.chans.length])∧W.heap.size≤k∧w'.heap[k]?=some (.cells (eH cf.chans.length fun c=>[.int .i64 (cf.chans.getD c default).src,.int .i64 (cf.chans.getD c default).dst,.chan (some (ch c))]).toArray 139 (0,0))∧((∀c,c<cf.chans.length→A≤ch c∧w'.heap[ch c]?=some (.chan (cf.chans.getD c default).depth.toNat #[] false 0 0 false))∧(∀i c,i<cf.chans.length→c<cf.chans.length→ch i=ch c→i=c))∧Below W.heap.size W w'∧P w'):=fun W d=>
  (Om w.heap.size J E cf.chans W u.nchans (fun p e6=>(u.chans p e6).2.2.2) (by have:=aR y;have:=(M.out W d).size;omega) (G.out W d).2.2.2.2.2 (Q.keep (z.out W d)).chans).mono (fun e w' ⟨k,ch,U,V,X,a5,e7,H⟩=>⟨k,ch,U,V,X,⟨fun c Y=>⟨Nat.le_trans (Nat.le_trans a7 (z.out W d).size) (a5 c Y).1,(a5 c Y).2⟩,e7⟩,H,b7.out W w' d H⟩)
 have c0:Hid (∀W,P W→w.heap.size≤W.heap.size):=fun W d=>(z.out W d).size
 have e8:Hid (∀ (B C j:World) (n q s:Nat) (wd pr tn ch:Nat→Nat),w.heap.size≤n→B.heap[n]?=some (.cells (eH cf.parts.length fun i=>fK (wd i) (pr i) (tn i) i (cf.parts.getD i default) (jY (bT bs) i (cf.parts.getD i default))).toArray 120 (0,0))→mZ B A f cf.parts (bT bs) cf.parts.length wd pr tn→w.heap.size≤q→C.heap[q]?=some (.cells (cf.wins.flatMap eX).toArray 131 (0,0))→Below B.heap.size B C→w.heap.size≤s→j.heap[s]?=some (.cells (eH cf.chans.length fun c=>[.int .i64 (cf.chans.getD c default).src,.int .i64 (cf.chans.getD c default).dst,.chan (some (ch c))]).toArray 139 (0,0))→((∀c,c<cf.chans.length→A≤ch c∧j.heap[ch c]?=some (.chan (cf.chans.getD c default).depth.toNat #[] false 0 0 false))∧(∀i c,i<cf.chans.length→c<cf.chans.length→ch i=ch c→i=c))→Below C.heap.size C j→P j→∃m:bN,m.mb=j.heap.size∧aU (j.alloc (.cells #[.pointer (some ⟨g,0,none⟩),.int .i64 cf.frame,.int .i64 cf.watch,.slice (some ⟨n,0,none⟩) cf.parts.length cf.parts.length,.slice (some ⟨q,0,none⟩) cf.wins.length cf.wins.length,.slice (some ⟨s,0,none⟩) cf.chans.length cf.chans.length,.int .i64 0,.bool false] 145)) m g (cJ cf bs)∧nI m cf.parts.length cf.chans.length∧eA (cJ cf bs)∧(∀b,Oh m (cJ cf bs) b→A≤b)∧Below w.heap.size w (j.alloc (.cells #[.pointer (some ⟨g,0,none⟩),.int .i64 cf.frame,.int .i64 cf.watch,.slice (some ⟨n,0,none⟩) cf.parts.length cf.parts.length,.slice (some ⟨q,0,none⟩) cf.wins.length cf.wins.length,.slice (some ⟨s,0,none⟩) cf.chans.length cf.chans.length,.int .i64 0,.bool false] 145))):=fun B C j n q s wd pr tn ch g2 c1 a6 g3 c2 x g4 c3 O y Z=>by
  have hF:Below j.heap.size j (j.alloc (.cells #[.pointer (some ⟨g,0,none⟩),.int .i64 cf.frame,.int .i64 cf.watch,.slice (some ⟨n,0,none⟩) cf.parts.length cf.parts.length,.slice (some ⟨q,0,none⟩) cf.wins.length cf.wins.length,.slice (some ⟨s,0,none⟩) cf.chans.length cf.chans.length,.int .i64 0,.bool false] 145)):=aG _ _;have d4:Below C.heap.size C (j.alloc (.cells #[.pointer (some ⟨g,0,none⟩),.int .i64 cf.frame,.int .i64 cf.watch,.slice (some ⟨n,0,none⟩) cf.parts.length cf.parts.length,.slice (some ⟨q,0,none⟩) cf.wins.length cf.wins.length,.slice (some ⟨s,0,none⟩) cf.chans.length cf.chans.length,.int .i64 0,.bool false] 145)):=y.trans (hF.mono y.size);have d5:Below B.heap.size B (j.alloc (.cells #[.pointer (some ⟨g,0,none⟩),.int .i64 cf.frame,.int .i64 cf.watch,.slice (some ⟨n,0,none⟩) cf.parts.length cf.parts.length,.slice (some ⟨q,0,none⟩) cf.wins.length cf.wins.length,.slice (some ⟨s,0,none⟩) cf.chans.length cf.chans.length,.int .i64 0,.bool false] 145)):=x.trans (d4.mono x.size);obtain⟨m,c4,r1,e9,f0,f1⟩:=Nr (j.alloc (.cells #[.pointer (some ⟨g,0,none⟩),.int .i64 cf.frame,.int .i64 cf.watch,.slice (some ⟨n,0,none⟩) cf.parts.length cf.parts.length,.slice (some ⟨q,0,none⟩) cf.wins.length cf.wins.length,.slice (some ⟨s,0,none⟩) cf.chans.length cf.chans.length,.int .i64 0,.bool false] 145)) A g j.heap.size n q s f cf bs wd pr tn ch u ⟨Nat.le_trans a7 (z.out j Z).size,by omega,by omega,by omega⟩ c6 (a8.keep (z.out _ (b9.out _ _ Z))) (a6.keep (fun b _ f2=>d5.block b f2)) (cG rfl) (eT d5 c1) (eT d4 c2) (eT hF c3) (fun c Y=>⟨(O.1 c Y).1,eT hF (O.1 c Y).2⟩) O.2;exact⟨m,c4,r1,e9,f0,f1,z.out _ (b9.out _ _ Z)⟩
 have f3:=aI x;have f4:=aI b1;have f5:=aI b2;have g5:=u.few.2;have g6:=u.nwins.2;have g7:=u.nchans;clear a3 a2 a4 b3 b4 b5 y b6 N x a8 Q u c6 c5 e1 d1 d2 b1 b2;obtain⟨g8,g9,h0,h1,h2,h3⟩:=G.out _ L.out;go_wp2_with fail
 rw[←f3.out,←f4.out,←f5.out]
 go_region_held3 (fun w'=>w'.cell? ⟨S,0,none⟩=some (.pointer (some ⟨g,0,none⟩))∧w'.cell? ⟨w.heap.size,0,none⟩=some (.int .i64 cf.frame)∧w'.cell? ⟨w.heap.size,1,none⟩=some (.int .i64 cf.watch)∧w'.cell? ⟨w.heap.size,2,none⟩=some (.slice (some ⟨f.px,0,none⟩) cf.parts.length f.pc)∧w'.cell? ⟨w.heap.size,3,none⟩=some (.slice (some ⟨D,0,none⟩) cf.wins.length I)∧w'.cell? ⟨w.heap.size,4,none⟩=some (.slice E cf.chans.length J))
  ((first| exact G.out _ L.out| exact G.out _ (T.out _ L.out)| exact G.out _ (by assumption)| exact G.out _ (b9.out _ _ (by assumption))))
  (first
   | (go_at_call 49;refine(e3.out _ (by first | assumption | exact T.out _ L.out)).mono ?_;rintro e B ⟨n,wd,pr,tn,rfl,f6,c1,a6,h4,f7⟩;have f8:=aI a6;clear a6)
   | (go_at_call 53;refine(e4.out _ (by first | assumption | exact T.out _ L.out)).mono ?_;rintro e C ⟨q,rfl,f9,c2,x,g0⟩)
   | (go_at_call 55;refine(e5.out _ (by first | assumption | exact T.out _ L.out)).mono ?_;rintro e j ⟨s,ch,rfl,a1,c3,O,y,Z⟩;have g1:=aI O;clear O))
 all_goals
  go_wp2
  go_ret
  obtain⟨m,c4,Q⟩:=e8.out B C j n q s wd pr tn ch (Nat.le_trans (c0.out _ (T.out _ L.out)) f6) c1 f8.out (Nat.le_trans (c0.out _ f7) f9) c2 x (Nat.le_trans (c0.out _ g0) a1) c3 g1.out y Z;exact⟨m,by rw[c4];rfl,Q⟩
theorem Pa(D:Nat)(M vW vC:Value)(cf:Cf)(w:World)(h:kT D M vW vC cf w)(E:tR cf):∃ (z:Dc) (o F:Nat) (N:Option Addr) (G:Nat),M=.slice (some ⟨z.px,0,none⟩) cf.parts.length z.pc∧vW=.slice (some ⟨o,0,none⟩) cf.wins.length F∧vC=.slice N cf.chans.length G∧nB w z cf.parts∧tC w o N cf∧∀i r,r∈z.l i→∀b,r.2.ownBlock=some b→D≤b:=by
 obtain⟨⟨l,c,H,V,W,c1,X⟩,Y,Z⟩:=h;have a0:l.length=cf.parts.length:=by rw[←H,List.length_map]
 obtain⟨_,ad,cp,a1,O⟩:=iI (fun p:Pt×Value=>(aV p.1.sys p.1.words p.1.limit (fun i=>p.1.acts.getD i 0) p.2).toList) (fun _=>rfl) l rfl V;have P:=E.few;obtain⟨px,a2,_⟩:=O 0 l[0] (List.getElem?_eq_getElem (by omega));subst a2;have a3:∀i:Nat,∃n:Nat×Nat×List (Pr×Value),(∀p:Pt×Value,l[i]?=some p→p.2=.slice (some ⟨n.1,0,none⟩) n.2.2.length n.2.1∧n.2.2.map Prod.fst=p.1.procs∧mJ w n.1 n.2.1 n.2.2 (fD p.1)∧∀r∈n.2.2,iV 0 r.2 r.1.code w∧∀b,r.2.ownBlock=some b→D≤b)∧(l[i]?=none→n.2.2=[]):=by
  intro i;cases hi:l[i]? with
  | none=>exact⟨(0,0,[]),⟨fun p g=>(by cases g),fun _=>rfl⟩⟩
  | some p=>
   have a4:sE p.1:=E.parts p.1 (by rw[←H];exact List.mem_map_of_mem (List.mem_of_getElem? hi));obtain⟨A,s,I,Q,v,c3⟩:=X i p hi;have c4:A.length=p.1.procs.length:=by rw[←s,List.length_map]
   obtain⟨_,c5,c2,a5,R⟩:=iI (fun p:Pr×Value=>[.int .i64 p.1.prio,p.2]) (fun _=>rfl) A rfl I;have c6:=a4.few;obtain⟨q,a6,a7⟩:=R 0 A[0] (List.getElem?_eq_getElem (by omega));subst a6;refine⟨(q,c2,A),⟨fun c7 a8=>?_,fun P=>(by cases P)⟩⟩;obtain rfl:=Option.some.inj a8;refine⟨a5,s,⟨by simp only;omega,?_,fun k r j=>?_⟩,fun r j=>⟨(v r j).1.base (Nat.zero_le _),fun b J=>Nat.le_trans (W i) (World.ownsRow.lt (v r j).1 b J).1⟩⟩
   ·have:=a7 0 (by omega);simp only[List.getElem?_cons_zero]at this;exact aN this
   ·obtain⟨a9,b0,S⟩:=R k r j;obtain rfl:q=a9:=by simpa using b0
    have b1:=List.mem_of_getElem? j;obtain⟨a,b2,b3⟩:=bL (v r b1).1;have b4:fD p.1 k=r.1.prio:=by
     unfold fD;rw[←s,List.getD_eq_getElem?_getD,List.getElem?_map,j];rfl
    exact⟨⟨a,_,b2,b3⟩,by rw[b4];simpa using S 0 (by omega),by simpa using S 1 (by omega)⟩
 obtain⟨f,B⟩:=Classical.skolem.1 a3;obtain⟨_,c8,F,b5,T⟩:=iI eX (fun _=>rfl) cf.wins rfl Y;have c9:=E.nwins;obtain⟨o,b6,_⟩:=T 0 (cf.wins[0]'(by omega)) (List.getElem?_eq_getElem (by omega));subst b6;obtain⟨_,b7,G,b8,b9⟩:=iI (fun p:Ch=>[.int .i64 p.src,.int .i64 p.dst,.int .i64 p.depth]) (fun _=>rfl) cf.chans rfl Z;have U:∀m p,cf.parts[m]?=some p→∃L,l[m]?=some (p,L):=fun m p g=>by
  rw[←H,List.getElem?_map]at g;cases hj:l[m]? with
  | none=>rw[hj]at g;cases g
  | some c0=>rw[hj]at g;obtain rfl:=Option.some.inj g;exact⟨c0.2,hj⟩
 refine⟨⟨px,cp,fun i=>(f i).1,fun i=>(f i).2.1,fun i=>(f i).2.2⟩,o,F,b7,G,by rw[a1,a0],b5,b8,⟨fun m p g=>?_,fun m p g=>?_⟩,⟨fun k p g=>?_,fun k p g=>?_⟩,fun i r j b J=>?_⟩
 ·obtain⟨L,C⟩:=U m p g;obtain⟨s,_⟩:=(B m).1 _ C;obtain⟨u,x,d⟩:=O m _ C;obtain rfl:px=u:=by simpa using x
  simp only at s;refine⟨by simpa[aV]using d 0 (by omega),by simpa[aV]using d 1 (by omega),by simpa[aV]using d 2 (by omega),by simpa[aV]using d 3 (by omega),by simpa[aV]using d 4 (by omega),by simpa[aV]using d 5 (by omega),by simpa[aV]using d 6 (by omega),by simpa[aV]using d 7 (by omega),by simpa[aV]using d 8 (by omega),?_⟩;have:=d 9 (by omega);rw[this];simp only[aV,s];rfl
 ·obtain⟨L,C⟩:=U m p g;obtain⟨_,I,Q,v⟩:=(B m).1 _ C;exact⟨I,Q,fun r j=>(v r j).1⟩
 ·obtain⟨u,x,d⟩:=T k p g;obtain rfl:o=u:=by simpa using x
  have y:w.cell? ⟨o,k*3,none⟩=some (.int .i64 p.part):=by simpa[eX]using d 0 (by omega)
  exact⟨aN y,y,by simpa[eX]using d 1 (by omega),by simpa[eX]using d 2 (by omega)⟩
 ·obtain⟨u,x,d⟩:=b9 k p g;have y:w.cell? ⟨u,k*3,none⟩=some (.int .i64 p.src):=by simpa using d 0 (by omega)
  exact⟨u,x,aN y,y,by simpa using d 1 (by omega),by simpa using d 2 (by omega)⟩
 ·cases hi:l[i]? with
  | none=>simp only[(B i).2 hi]at j;cases j
  | some p=>exact(((B i).1 p hi).2.2.2 r j).2 b J
structure eP(w:World)(kb:Nat)(L:bN)(g:Nat)(st:aQ):Prop where
 box:w.heap[kb]?=some (.cells #[.pointer (some ⟨L.mb,0,none⟩)] 77 (0,0))
 mach:aU w L g st
 lay:nI L st.parts.length st.cf.chans.length
 ok:eA st
def mH(kb:Nat)(a:bN)(st:aQ)(b:Nat):Prop:=b=kb∨Oh a st b
theorem Ba(k:Option Addr)(n cap:Nat)(zs:List Int)(g:Nat)(bs:List Int)(left res:Int)(dead:Bool)(done:Int)(w:World)(y:gV w k n cap zs)(R:n≤140737488351232)(hF:aS w g bs left res dead done):
 Calls Tryz.prog 11 #[.slice k n cap,.pointer (some ⟨g,0,none⟩)] w fun e w'=>(((bQ zs).2.2≠0∧e=.returned (.tuple #[.pointer none,.int .i64 (bQ zs).2.2]))∨((bQ zs).2.2=0∧∃kb a,e=.returned (.tuple #[.pointer (some ⟨kb,0,none⟩),.int .i64 0])∧eP w' kb a g (cJ (bQ zs).1 bs)∧∀b,mH kb a (cJ (bQ zs).1 bs) b→w.heap.size≤b))∧Below w.heap.size w w':=by
 have h:=aI (Fv k n cap zs w y R);rw[Jl]at h;have S:=aI hF;have z:=aI (Jv zs);clear y hF;generalize bQ zs=pr at *;obtain⟨cf,a8,A⟩:=pr;simp only at h z ⊢
 go_enter Tryz.func11,Tryz.ntmps11
 go_wp2_with fail
 refine h.out.mono ?_;rintro e i ⟨T,U,V,W,X,l,m,Y,p,rfl,B,q⟩;have C:=aI B;have r:=aI q;have D:=q.size;clear B q h;simp only[bJ]
 by_cases j:A=0
 ·subst j;have s:=z.out rfl;obtain⟨u,E,a9,b0,b1,F,G,H,I,J,L⟩:=Pa _ _ _ _ _ _ C.out s;obtain⟨rfl,rfl,rfl⟩:=Value.slice.inj F;obtain⟨rfl,rfl,rfl⟩:=Value.slice.inj G;obtain⟨rfl,rfl,rfl⟩:=Value.slice.inj H;have d:Below i.heap.size i (i.alloc (.cells #[.int .i64 cf.frame,.int .i64 cf.watch,.slice (some ⟨u.px,0,none⟩) cf.parts.length u.pc,.slice (some ⟨E,0,none⟩) cf.wins.length l,.slice m cf.chans.length p] 71)):=aG _ _;have M:=aI (If g w.heap.size E l p m u cf bs left res dead done _ ((S.out.below r.out).below d) (by have:=d.size;omega) s L (I.keep d) (J.keep d));have Z:=aI d;clear s I J L F G H d C;go_wp2_with fail
  refine M.out.mono ?_;rintro e c ⟨a,rfl,N,O,v,P,x⟩;have a0:=x.size;simp at a0;have a1:Hid (∃kb L',(Value.pointer (some ⟨c.heap.size,0,none⟩)=.pointer (some ⟨kb,0,none⟩))∧eP (c.alloc (.cells #[.pointer (some ⟨a.mb,0,none⟩)] 77)) kb L' g (cJ cf bs)∧(∀b,mH kb L' (cJ cf bs) b→w.heap.size≤b)∧Below w.heap.size w (c.alloc (.cells #[.pointer (some ⟨a.mb,0,none⟩)] 77))):=by
   have Q:Below c.heap.size c (c.alloc (.cells #[.pointer (some ⟨a.mb,0,none⟩)] 77)):=aG _ _;refine⟨c.heap.size,a,rfl,⟨cG rfl,N.keep (fun b o f=>eT Q f),by rw[v.len];exact O,v⟩,fun b f=>?_,((r.out.trans (Z.out.mono D)).trans (x.mono (by simp;omega))).trans (Q.mono (by omega))⟩;rcases f with rfl| f
   ·omega
   ·exact P b f
  clear N O v P x M;go_wp2
  go_ret2
  obtain⟨kb,L',a2,a3,a4,a5⟩:=a1.out;exact⟨⟨kb,by rw[←a2];rfl,L',a3,a4⟩,a5⟩
 ·have a6:Hid (Below w.heap.size w (i.alloc (.cells #[.int .i64 cf.frame,.int .i64 cf.watch,.slice T U V,.slice W X l,.slice m Y p] 71))):=r.out.alloc D _;have b2:(A != 0)=true:=by simp[j]
  have a7:=aI j;clear j;go_wp2
  go_ret2
  exact⟨.inl ⟨a7.out,rfl⟩,a6.out⟩
theorem eP.keep{w w':World}{kb g:Nat}{a:bN}{st:aQ}(h:eP w kb a g st)(c:∀ (b:Nat) (o:Obj),w.heap[b]?=some o→w'.heap[b]?=some o):eP w' kb a g st:=⟨c _ _ h.box,h.mach.keep c,h.lay,h.ok⟩
theorem eP.below{w w':World}{kb g:Nat}{a:bN}{st:aQ}(h:eP w kb a g st)(b:Below w.heap.size w w'):eP w' kb a g st:=h.keep (fun _ _=>eT b)
theorem Qf(a:bN)(g:Nat)(st:aQ)(bs:List Int)(left res:Int)(dead:Bool)(done:Int)(w:World)(b:aU w a g st)(h:aS w g bs left res dead done):
 Calls Tryz.prog 39 #[.pointer (some ⟨a.mb,0,none⟩)] w fun e w'=>∃v,e=.returned v∧(dM w.heap.size v (bT bs) w'∧(bT bs=[]→v=.slice none 0 0))∧Below w.heap.size w w':=by
 have k:w.cell? ⟨a.mb,0,none⟩=some (.pointer (some ⟨g,0,none⟩)):=aD b.mach;have f:=aI (wW g bs left res dead done w h);clear b h
 go_enter Tryz.func39,Tryz.ntmps39
 go_wp2_with fail
 refine f.out.mono ?_;rintro e l ⟨v,rfl,c,d⟩;have i:=aI c;have j:=aI d;clear c d;go_wp2
 go_ret
 exact⟨v,rfl,i.out,j.out⟩
theorem Dw(kb:Nat)(a:bN)(g:Nat)(st:aQ)(bs:List Int)(left res:Int)(dead:Bool)(done:Int)(w:World)(b:eP w kb a g st)(h:aS w g bs left res dead done):
 Calls Tryz.prog 21 #[.pointer (some ⟨kb,0,none⟩)] w fun e w'=>∃v,e=.returned v∧(dM w.heap.size v (bT bs) w'∧(bT bs=[]→v=.slice none 0 0))∧Below w.heap.size w w':=by
 have k:w.cell? ⟨kb,0,none⟩=some (.pointer (some ⟨a.mb,0,none⟩)):=aD b.box;have f:=aI (Qf a g st bs left res dead done w b.mach h);clear b h
 go_enter Tryz.func21,Tryz.ntmps21
 go_wp2_with fail
 refine f.out.mono ?_;rintro e l ⟨v,rfl,c,d⟩;have i:=aI c;have j:=aI d;clear c d;go_wp2
 go_ret
 exact⟨v,rfl,i.out,j.out⟩
theorem Qu(kb:Nat)(a:bN)(g:Nat)(st:aQ)(w:World)(b:eP w kb a g st):
 Calls Tryz.prog 103 #[.pointer (some ⟨kb,0,none⟩)] w fun e w'=>e=.returned (.int .i64 st.now)∧w'=w:=by
 have d:w.cell? ⟨kb,0,none⟩=some (.pointer (some ⟨a.mb,0,none⟩)):=aD b.box;have c1:w.cell? ⟨a.mb,6,none⟩=some (.int .i64 st.now):=aD b.mach.mach;have c:Hid (Calls Tryz.prog 142 #[.pointer (some ⟨a.mb,0,none⟩)] w fun e w'=>e=.returned (.int .i64 st.now)∧w'=w):=by
  show Calls _ _ _ _ _
  clear b
  go_enter Tryz.func142,Tryz.ntmps142
  go_wp2
  go_ret
  exact⟨rfl,rfl⟩
 clear b
 go_enter Tryz.func103,Tryz.ntmps103
 go_wp2_with fail
 refine c.out.mono ?_;rintro e f ⟨rfl,rfl⟩;go_wp2
 go_ret
 exact⟨rfl,rfl⟩
def Tf(base:Nat)(v:Value)(p:fF)(rs:Int)(w:World):Prop:=∃a c1 b c2,v=.agg #[.int .i64 p.mode,.int .i64 rs,.slice (some ⟨a,0,none⟩) p.words.length c1,.slice (some ⟨b,0,none⟩) p.procs.length c2]∧w.ownsRow base 3 1 (.slice (some ⟨a,0,none⟩) p.words.length c1) p.words.length (p.words.map (Value.int .i64))∧w.ownsRow base 47 3 (.slice (some ⟨b,0,none⟩) p.procs.length c2) p.procs.length (p.procs.flatMap cU)
theorem Ox(c:bN)(g:Nat)(st:aQ)(i:Int)(w:World)(h:aU w c g st)(j:¬ (0≤i∧i<st.parts.length)):
 Calls Tryz.prog 38 #[.pointer (some ⟨c.mb,0,none⟩),.int .i64 i] w fun e w'=>e=.returned (.tuple #[.agg #[.int .i64 0,.int .i64 0,.slice none 0 0,.slice none 0 0],.int .i64 1])∧Below w.heap.size w w':=by
 have l:w.cell? ⟨c.mb,3,none⟩=some (.slice (some ⟨c.pb,0,none⟩) st.parts.length st.parts.length):=aD h.mach;have p:=aN l;have k:Below w.heap.size w (w.alloc (.cells #[.int .i64 0,.int .i64 0,.slice none 0 0,.slice none 0 0] 43)):=aG _ _;have d:=aI (pX c.pb st.parts.length i (w.alloc (.cells #[.int .i64 0,.int .i64 0,.slice none 0 0,.slice none 0 0] 43)));have e:(decide (0≤i)&&decide (i<(st.parts.length:Int)))=false:=by
  rcases hd:(decide (0≤i)&&decide (i<(st.parts.length:Int)))with _| _
  ·rfl
  ·simp at hd;exact absurd hd j
 rw[e]at d;have m:=aI k;clear h k e j
 go_enter Tryz.func38,Tryz.ntmps38
 go_wp2_with fail
 refine d.out.mono ?_;rintro e b ⟨rfl,f⟩;have a:b.heap[w.heap.size]?=some (.cells #[.int .i64 0,.int .i64 0,.slice none 0 0,.slice none 0 0] 43 (0,0)):=(f.block _ (by simp)).trans (cG rfl);have z0:b.cell? ⟨w.heap.size,0,none⟩=some (.int .i64 0):=aD a;have z1:b.cell? ⟨w.heap.size,1,none⟩=some (.int .i64 0):=aD a;have z2:b.cell? ⟨w.heap.size,2,none⟩=some (.slice none 0 0):=aD a;have z3:b.cell? ⟨w.heap.size,3,none⟩=some (.slice none 0 0):=aD a;have q:=aJ a 0;have r:=aJ a 1;have s:=aJ a 2;have u:=aJ a 3;have n:Hid (Below w.heap.size w b):=m.out.trans (f.mono (by simp));have o:=aI a;clear f a d;go_wp2
 refine bodyPost_ret (v:=.tuple #[.agg #[.int .i64 0,.int .i64 0,.slice none 0 0,.slice none 0 0],.int .i64 1]) (kL Tryz.results38 _ _ _ (by rfl) (aK (aK (aK (aK o.out 0 _) 1 _) 2 _) 3 _) Tryz.underlying43 (by rw[Tryz.size43];rfl)) rfl ?_;refine⟨rfl,?_⟩
 iterate 4 refine Below.thenSet ?_ (Nat.le_refl _) _ _
 exact n.out
section
open Go.RowKit Go.Shelf
theorem Mo.outside{w:World}{f:bN}{g b:Nat}{st:aQ}{F:Fl}{c:Array Value}{t:TypeId}(h:Mo w f g st F)(a:w.heap[b]?=some (.cells c t (0,0)))(d:t≠145∧t≠120∧t≠3∧t≠166∧t≠80):¬Dm f g st b:=by
 rintro(rfl| rfl| ⟨i,j,rfl| rfl⟩| ⟨k,l,rfl⟩| rfl)
 ·exact bG a h.mach.mach d.1 rfl
 ·exact bG a h.mach.parts d.2.1 rfl
 ·exact bG a (h.mach.words i j) d.2.2.1 rfl
 ·exact bG a (h.mach.procs i j) d.2.2.2.1 rfl
 ·obtain⟨s,r,m⟩:=h.mach.queue k l;exact fX a m rfl
 ·exact bG a h.fl.blk d.2.2.2.2 rfl
structure Kn(w:World)(kb:Nat)(L:bN)(g:Nat)(st:aQ)(F:Fl):Prop where
 box:w.heap[kb]?=some (.cells #[.pointer (some ⟨L.mb,0,none⟩)] 77 (0,0))
 mo:Mo w L g st F
theorem Kn.kern{w:World}{kb:Nat}{a:bN}{g:Nat}{st:aQ}{F:Fl}(h:Kn w kb a g st F):eP w kb a g st:=⟨h.box,h.mo.mach,h.mo.lay,h.mo.ok⟩
theorem Kn.next{w w':World}{kb:Nat}{a:bN}{g:Nat}{st b:aQ}{F c:Fl}(h:Kn w kb a g st F)(d:Mo w' a g b c)(f:aH (Dm a g st) w w'):Kn w' kb a g b c:=
 ⟨(f.block kb (lt_of_block h.box) (h.mo.outside h.box (by decide))).trans h.box,d⟩
theorem uE(kb:Nat)(b:bN)(g:Nat)(st:aQ)(F:Fl)(n:Int)(w:World)(h:Kn w kb b g st F)(d:dY st)(f:st.now+1000≤1000000000000):
 Calls Tryz.prog 19 #[.pointer (some ⟨kb,0,none⟩),.int .i64 n] w fun e w'=>e=.returned (.tuple #[.int .i64 (bW n (st,F)).1.1,.int .i64 (bW n (st,F)).1.2])∧Kn w' kb b g (bW n (st,F)).2.1 (bW n (st,F)).2.2∧aH (Dm b g st) w w':=by
 have m:w.cell? ⟨kb,0,none⟩=some (.pointer (some ⟨b.mb,0,none⟩)):=aD h.box;have k:=aI (Mg b g st F n w h.mo d f);have l:=aI h;clear h d f;generalize bW n (st,F)=r at *;obtain⟨⟨a,e⟩,o,p⟩:=r;simp only at *
 go_enter Tryz.func19,Tryz.ntmps19
 go_wp2_with fail
 refine k.out.mono ?_;rintro e q ⟨rfl,i,c⟩;have j:=aI (And.intro (l.out.next i c) c);clear i c;go_wp2
 go_ret2
 exact⟨rfl,j.out.1,j.out.2⟩
theorem Gl(kb:Nat)(b:bN)(g:Nat)(st:aQ)(F:Fl)(i n c:Int)(w:World)(h:Kn w kb b g st F):
 Calls Tryz.prog 26 #[.pointer (some ⟨kb,0,none⟩),.int .i64 i,.int .i64 n,.int .i64 c] w fun e w'=>e=.returned (.int .i64 (dD i n c (st,F)).1)∧Kn w' kb b g (dD i n c (st,F)).2.1 (dD i n c (st,F)).2.2∧aH (Dm b g st) w w':=by
 have m:w.cell? ⟨kb,0,none⟩=some (.pointer (some ⟨b.mb,0,none⟩)):=aD h.box;have k:=aI (Gn b g st F i n c w h.mo);have l:=aI h;clear h;generalize dD i n c (st,F)=r at *;obtain⟨a,o,p⟩:=r;simp only at *
 go_enter Tryz.func26,Tryz.ntmps26
 go_wp2_with fail
 refine k.out.mono ?_;rintro e q ⟨rfl,f,d⟩;have j:=aI (And.intro (l.out.next f d) d);clear f d;go_wp2
 go_ret
 exact⟨rfl,j.out.1,j.out.2⟩
theorem cS.dead{s:SF}(h:cS s)(b:Bool):cS ({ s.1 with dead:=b },s.2):=⟨⟨h.1.now,h.1.watch,h.1.proc,h.1.queue⟩,⟨h.2.good,h.2.len,h.2.part,h.2.qlen⟩⟩
theorem nK(n:Int)(s:SF)(h:cS s)(d:s.1.now+1000≤1000000000000):Tk s (bW n s).2 1000:=by
 have a:Tk s s 1000:=⟨h,rfl,rfl,⟨Int.le_refl _,by omega⟩⟩;unfold bW
 by_cases b:n<0∨1000<n
 ·rw[if_pos b];exact a
 ·rw[if_neg b]
  by_cases c:s.1.dead=true
  ·rw[if_pos c];exact a
  ·rw[if_neg c];have:=yA s h n.toNat (by omega);exact⟨this.run.dead _,this.cf,this.len,⟨this.now.1,by have f:=this.now.2;show(dR n.toNat s).2.1.now≤s.1.now+((1000:Nat):Int);omega⟩⟩
theorem zH(i n c:Int)(s:SF)(h:cS s):Tk s (dD i n c s).2 1000:=by
 have a:Tk s s 1000:=⟨h,rfl,rfl,⟨Int.le_refl _,by omega⟩⟩;unfold dD
 by_cases d:i<0∨s.1.parts.length≤i∨c<0∨4<c∨n<0∨(s.1.part i.toNat).procs.length≤n
 ·rw[if_pos d];exact a
 ·rw[if_neg d]
  by_cases f:s.1.dead=true
  ·rw[if_pos f];exact a
  ·rw[if_neg f]
   by_cases g:(s.1.part i.toNat).mode=3
   ·rw[if_pos g];exact a
   ·rw[if_neg g];have j:=cS.fault h i.toNat n.toNat c.toNat (by omega) (by omega);have b:=Lk.fault i.toNat n.toNat c.toNat s;refine⟨j.dead _,b.cf,b.len,?_⟩;show s.1.now≤(cK i.toNat n.toNat c.toNat s).2.1.now∧(cK i.toNat n.toNat c.toNat s).2.1.now≤_
    rw[b.now];omega
end
end Go.Proofs.YtnjlbgolnbdkaaaGreat
