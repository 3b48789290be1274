/- All, with short names -/
import Derived.Test.YtnjlbgolnbdkaaaGreatP08
import Derived.Deep.RegionHeld3
import Derived.BigQuiet
set_option maxRecDepth 100000
set_option maxHeartbeats 16000000
namespace Go.Proofs.YtnjlbgolnbdkaaaGreat
open Go Go.RowKit
def fJ(bs:List Int)(s:Nat):List (Nat→Int):=iM bs s (upto 8 8)
theorem Cx(bs:List Int)(s:Nat):(fJ bs s).length≤8:=by
 have:=Ki bs s (upto 8 8);rw[jX 8 8 (by omega)]at this;exact this
def iN(bs:List Int)(a o:Nat):List (Nat→Int):=if cH bs a&&cH bs o&&eC bs o == IntKind.i64.wrap (eC bs a-1)then fJ bs o++fJ bs a else fJ bs a
theorem vT{P:Program}(w:World){b:Array Oper}{o:Oper}{a:Act}{K:Act→World→Prop}{Q:Exit→Act→World→Prop}{d:Prop}(f:o.guard=none)(s x:Operand)(t:TypeId)
 (g:o.op=.call { callee:=.builtin .append,args:=#[s,x],argTypes:=#[t,t] }) (base:Nat) (e:TypeId) (i:TypeInfo) (size:Nat) (h:P.underlying t=some (.slice e)) (j:P.info? e=some i)
 (v:Value) (n:Nat) (c:List Value) (k:a.eval s=v) (l:w.ownsRow base e size v n c) (m:a.eval x=.slice none 0 0)
 (p:K (a.put o.dst v) w):if Region.wanted o (yielded b a.tmps)=true then Oper.wp P o a w K Q else d:=by
 have q:Region.wanted o (yielded b a.tmps)=true:=by simp[Region.wanted,f]
 rw[if_pos q];have r:=run_append_owned_none (P:=P) (w:=w) base t o.type e i size h j v n c l;unfold Oper.wp;simp[execOp,g,resolve,invoke,builtin,k,m,r,Result.andThen];exact p
theorem Gd(k p:Nat)(bs:List Int)(d f:Nat)(w:World)(b8:∀s,0≤eC bs s∧eC bs s<4294967296)(b9:cA k bs d w)(b0:cA p bs f w):
 Calls Tryz.prog 90 #[.agg #[.int .i64 d,.slice (some ⟨k,0,none⟩) 8 8],.agg #[.int .i64 f,.slice (some ⟨p,0,none⟩) 8 8]] w fun e w'=>∃v,e=.returned v∧(dM w.heap.size v (iN bs d f) w'∧(iN bs d f=[]→v=.slice none 0 0))∧Below w.heap.size w w':=by
 obtain⟨c0,c3,d8,d9,e0⟩:=info_parts Tryz.info52;obtain⟨i,N⟩:∃i,i=(w.alloc (.cells #[.int .i64 d,.slice (some ⟨k,0,none⟩) 8 8] 183)).alloc (.cells #[.int .i64 f,.slice (some ⟨p,0,none⟩) 8 8] 183):=⟨_,rfl⟩;have c4:i.heap.size=w.heap.size+2:=by rw[N];simp
 have a1:Below w.heap.size w i:=by rw[N];exact(aG _ _).alloc (by simp) _
 have c5:i.heap[w.heap.size]?=some (.cells #[.int .i64 d,.slice (some ⟨k,0,none⟩) 8 8] 183 (0,0)):=by rw[N,Below.heap_alloc _ _ _ (by simp)];exact heap_alloc_new w _
 have c6:i.heap[w.heap.size+1]?=some (.cells #[.int .i64 f,.slice (some ⟨p,0,none⟩) 8 8] 183 (0,0)):=by
  rw[N];have:=heap_alloc_new (w.alloc (.cells #[.int .i64 d,.slice (some ⟨k,0,none⟩) 8 8] 183)) (.cells #[.int .i64 f,.slice (some ⟨p,0,none⟩) 8 8] 183)
  rwa [show(w.alloc (.cells #[.int .i64 d,.slice (some ⟨k,0,none⟩) 8 8] 183)).heap.size=w.heap.size+1 from by simp]at this
 have c7:=b9.below a1;have c8:=b0.below a1;obtain⟨P,u⟩:∃P:World→Prop,P=fun W=>Below i.heap.size i W:=⟨_,rfl⟩
 have S:Hid (P i):=by show P i;rw[u];exact Below.refl _ _
 have q:Hid (∀W,P W→Below i.heap.size i W):=fun W h=>by rw[u]at h;exact h
 have T:Hid (∀W b1,P W→Below W.heap.size W b1→P b1):=fun W b1 h m=>by rw[u]at h ⊢;exact h.trans (m.mono h.size)
 have U:Hid (∀W,P W→P W.drew):=fun W h=>by rw[u]at h ⊢;exact h.drew
 have y:Hid (∀W,P W→W.cell? ⟨w.heap.size,0,none⟩=some (.int .i64 d)∧W.cell? ⟨w.heap.size,1,none⟩=some (.slice (some ⟨k,0,none⟩) 8 8)∧W.cell? ⟨w.heap.size+1,0,none⟩=some (.int .i64 f)∧W.cell? ⟨w.heap.size+1,1,none⟩=some (.slice (some ⟨p,0,none⟩) 8 8)∧P W):=fun W h=>by
  have m:=q.out W h;have a:=(m.block _ (by omega)).trans c5;have o:=(m.block _ (by omega)).trans c6;refine⟨?_,?_,?_,?_,h⟩
  ·rw[cell_of_row _ _ _ _ _ _ a];rfl
  ·rw[cell_of_row _ _ _ _ _ _ a];rfl
  ·rw[cell_of_row _ _ _ _ _ _ o];rfl
  ·rw[cell_of_row _ _ _ _ _ _ o];rfl
 have a2:Hid (∀s x W,(s=d∧x=k)∨(s=f∧x=p)→P W→cA x bs s W):=fun s x W H j=>by
  rcases H with⟨rfl,rfl⟩| ⟨rfl,rfl⟩
  ·exact c7.below (q.out W j)
  ·exact c8.below (q.out W j)
 have V:Hid (∀s x W,(s=d∧x=k)∨(s=f∧x=p)→P W→Calls Tryz.prog 125 #[.agg #[.int .i64 (s:Nat),.slice (some ⟨x,0,none⟩) 8 8]] W fun e w'=>∃b,e=.returned (.bool b)∧cH bs s=b∧P w'):=fun s x W H j=>
  (kZ x bs s W (a2.out s x W H j)).mono (fun e w' ⟨B,m⟩=>⟨_,B,rfl,T.out W w' j m⟩)
 have b2:Hid (∀s x W,(s=d∧x=k)∨(s=f∧x=p)→P W→Calls Tryz.prog 126 #[.agg #[.int .i64 (s:Nat),.slice (some ⟨x,0,none⟩) 8 8]] W fun e w'=>e=.returned (.int .i64 (eC bs s))∧P w'):=fun s x W H j=>
  (kH x bs s W (a2.out s x W H j)).mono (fun e w' ⟨B,m⟩=>⟨B,T.out W w' j m⟩)
 have O:Hid (∀s x W,(s=d∧x=k)∨(s=f∧x=p)→P W→Calls Tryz.prog 127 #[.agg #[.int .i64 (s:Nat),.slice (some ⟨x,0,none⟩) 8 8]] W fun e w'=>∃v,e=.returned v∧(dM W.heap.size v (fJ bs s) w'∧(v=.slice none 0 0↔fJ bs s=[]))∧Below W.heap.size W w'):=fun s x W H j=>
  yX x bs s W (a2.out s x W H j)
 have e1:=aI N;have b3:=aI a1;have e2:=aI c4;clear b9 b0 c7 c8 N a1 c4 c5 c6 u a2;have g0:=b8 d;have I:Hid (iN bs d f=if cH bs d&&cH bs f&&eC bs f == IntKind.i64.wrap (eC bs d-1)then fJ bs f++fJ bs d else fJ bs d):=rfl;have e3:IntKind.i64.wrap (eC bs d-1)=eC bs d-1:=by rw[IntKind.wrap_i64];omega
 clear b8;obtain⟨g1,g2,g3,g4,_⟩:=y.out _ S.out
 go_enter Tryz.func90,Tryz.ntmps90
 go_wp2_with fail
 rw[←e1.out]
 go_cut [18]from 5 to 18 (fun c e4=>c=.bool (cH bs d&&cH bs f&&eC bs f == eC bs d-1)∧P e4)
 case first=>
  rcases d1:cH bs d with _| _
  ·have D:=aI d1;clear d1
   go_region_with ((go_simp;(with_reducible show Calls Tryz.prog 125 _ _ _);refine(V.out _ _ _ (by first| exact .inl ⟨rfl,rfl⟩| exact .inr ⟨rfl,rfl⟩) (by first| assumption| exact U.out _ S.out)).mono ?_;rintro e w' ⟨b,rfl,z,J⟩;obtain⟨E,r1,F,G,_⟩:=y.out _ J;(first| (obtain rfl:=z.symm.trans D.out));clear z))
   all_goals (go_wp2_with fail;go_meet;exact⟨by simp[D.out],by assumption⟩)
  ·rcases d2:cH bs f with _| _
   ·have D:=aI d1;have X:=aI d2;clear d1 d2
    go_region_with ((go_simp;(with_reducible show Calls Tryz.prog 125 _ _ _);refine(V.out _ _ _ (by first| exact .inl ⟨rfl,rfl⟩| exact .inr ⟨rfl,rfl⟩) (by first| assumption| exact U.out _ S.out)).mono ?_;rintro e w' ⟨b,rfl,z,J⟩;obtain⟨E,r1,F,G,_⟩:=y.out _ J;(first| (obtain rfl:=z.symm.trans D.out)| (obtain rfl:=z.symm.trans X.out));clear z))
    all_goals (go_wp2_with fail;go_meet;exact⟨by simp[D.out,X.out],by assumption⟩)
   ·have D:=aI d1;have X:=aI d2;clear d1 d2
    go_region_with (first| (go_simp;(with_reducible show Calls Tryz.prog 125 _ _ _);refine(V.out _ _ _ (by first| exact .inl ⟨rfl,rfl⟩| exact .inr ⟨rfl,rfl⟩) (by first| assumption| exact U.out _ S.out)).mono ?_;rintro e w' ⟨b,rfl,z,J⟩;obtain⟨E,r1,F,G,_⟩:=y.out _ J;(first| (obtain rfl:=z.symm.trans D.out)| (obtain rfl:=z.symm.trans X.out));clear z)| (go_simp;(with_reducible show Calls Tryz.prog 126 _ _ _);refine(b2.out _ _ _ (by first| exact .inl ⟨rfl,rfl⟩| exact .inr ⟨rfl,rfl⟩) (by first| assumption| exact U.out _ S.out)).mono ?_;rintro e w' ⟨rfl,J⟩;obtain⟨E,r1,F,G,_⟩:=y.out _ J))
    all_goals (go_wp2_with fail;go_meet;exact⟨by simp[D.out,X.out],by assumption⟩)
 case rest=>
  obtain⟨rfl,j⟩:=hcut;have g5:=aI j;obtain⟨E,r1,F,G,_⟩:=y.out _ j;rw[e3]at I;have g6:=Cx bs d;have g7:=Cx bs f;have g8:=(q.out _ j).size;have g9:=e2.out;have e5:Hid (Below w.heap.size w wc):=b3.out.trans ((q.out _ j).mono (by omega));rcases dG:(cH bs d&&cH bs f&&eC bs f == eC bs d-1)with _| _
  ·have e6:=aI (O.out d k wc (.inl ⟨rfl,rfl⟩) j);have h0:=aI dG;rw[dG,if_neg (by simp)]at I;clear j dG;go_wp2_with fail
   refine e6.out.mono ?_;rintro e c9 ⟨v,rfl,⟨n,C⟩,d0⟩;obtain⟨ad,c,rfl⟩:=bL n;have e7:=aI n;have e8:=aI C;have e9:=aI d0;clear n C d0;go_wp2
   go_ret
   rw[I.out];exact⟨_,rfl,⟨bI e7.out (by omega),e8.out.2⟩,e5.out.trans (e9.out.mono (by omega))⟩
  ·rw[dG,if_pos rfl]at I;clear dG;have a3:Hid (P wc.drew):=U.out _ j;have d3:Hid (∀W,P W→Calls Tryz.prog 127 #[.agg #[.int .i64 (f:Nat),.slice (some ⟨p,0,none⟩) 8 8]] W fun e w'=>∃ad c,e=.returned (.slice ad (fJ bs f).length c)∧dM i.heap.size (.slice ad (fJ bs f).length c) (fJ bs f) w'∧P w'∧(∀r l,dM i.heap.size r l W→dM i.heap.size r l w')∧(fJ bs f=[]→(Value.slice ad (fJ bs f).length c)=.slice none 0 0)):=fun W A=>
    (O.out f p W (.inr ⟨rfl,rfl⟩) A).mono (fun e w' ⟨v,B,⟨n,C⟩,m⟩=>by
     obtain⟨ad,c,rfl⟩:=bL n;exact⟨ad,c,B,bI n (q.out _ A).size,T.out _ _ A m,fun r l h=>h.below m,C.2⟩)
   by_cases Q:fJ bs d=[]
   ·have b4:Hid (∀W,P W→Calls Tryz.prog 127 #[.agg #[.int .i64 (d:Nat),.slice (some ⟨k,0,none⟩) 8 8]] W fun e w'=>e=.returned (.slice none 0 0)∧P w'∧(∀r l,dM i.heap.size r l W→dM i.heap.size r l w')):=fun W A=>
     (O.out d k W (.inl ⟨rfl,rfl⟩) A).mono (fun e w' ⟨v,B,⟨n,C⟩,m⟩=>⟨by rw[B,C.2 Q],T.out _ _ A m,fun r l h=>h.below m⟩)
    rw[Q,List.append_nil]at I;have b5:Hid (∀ad c w',dM i.heap.size (.slice ad (fJ bs f).length c) (fJ bs f) w'→P w'→(fJ bs f=[]→(Value.slice ad (fJ bs f).length c)=.slice none 0 0)→(dM w.heap.size (.slice ad (fJ bs f).length c) (iN bs d f) w'∧(iN bs d f=[]→(Value.slice ad (fJ bs f).length c)=.slice none 0 0))∧Below w.heap.size w w'):=fun ad c w' n u C=>by
     rw[I.out];exact⟨⟨bI n (by omega),C⟩,b3.out.trans ((q.out _ u).mono (by omega))⟩
    clear j Q O V b2;generalize fJ bs f=L at *;go_wp2_with fail
    go_region_law (first| (go_simp;(with_reducible show Calls Tryz.prog 127 #[.agg #[.int .i64 (d:Nat),.slice (some ⟨k,0,none⟩) 8 8]] _ _);refine(b4.out _ (by first| assumption| exact a3.out)).mono ?_;rintro e M ⟨rfl,a4,b6⟩;obtain⟨E,r1,F,G,_⟩:=y.out _ a4;(try have a5:=b6 _ _ R))| (go_simp;(with_reducible show Calls Tryz.prog 127 #[.agg #[.int .i64 (f:Nat),.slice (some ⟨p,0,none⟩) 8 8]] _ _);refine(d3.out _ (by first| assumption| exact a3.out)).mono ?_;rintro e c9 ⟨b7,c2,rfl,R,a6,d4,d5⟩;obtain⟨E,r1,F,G,_⟩:=y.out _ a6)| (refine vT _ rfl (.tmp 20) (.tmp 22) 49 rfl i.heap.size 52 c0 5 Tryz.underlying49 c3 (.slice b7 L.length c2) L.length (cI L) (by rfl) (by first| exact a5| exact R) (by rfl) ?_))
    all_goals (go_wp2;go_ret;exact⟨_,rfl,b5.out _ _ _ (by assumption) (by assumption) d5⟩)
   ·have f0:0<(fJ bs d).length:=List.length_pos_iff.2 Q;have b4:Hid (∀W,P W→Calls Tryz.prog 127 #[.agg #[.int .i64 (d:Nat),.slice (some ⟨k,0,none⟩) 8 8]] W fun e w'=>∃g c,e=.returned (.slice (some ⟨g,0,none⟩) (fJ bs d).length c)∧dM i.heap.size (.slice (some ⟨g,0,none⟩) (fJ bs d).length c) (fJ bs d) w'∧P w'∧(∀r l,dM i.heap.size r l W→dM i.heap.size r l w')):=fun W A=>
     (O.out d k W (.inl ⟨rfl,rfl⟩) A).mono (fun e w' ⟨v,B,⟨n,C⟩,m⟩=>by
      obtain⟨ad,c,rfl⟩:=bL n;obtain⟨Y,rfl⟩:∃Y,ad=some ⟨Y,0,none⟩:=by
       rcases n.2 with⟨_,b0⟩| ⟨Y,h1,cur,d6,_⟩
       ·omega
       ·simp at d6;exact⟨Y,d6.1⟩
      exact⟨Y,c,B,bI n (q.out _ A).size,T.out _ _ A m,fun r l h=>h.below m⟩)
    have b5:Hid (∀ad c w' Z a0 M,dM i.heap.size (.slice ad (fJ bs f).length c) (fJ bs f) w'→P w'→M.ownsRow i.heap.size 52 5 (.slice (some ⟨Z,0,none⟩) ((fJ bs f).length+(fJ bs d).length) a0) ((fJ bs f).length+(fJ bs d).length) (cI (fJ bs f)++cI (fJ bs d))→w'.grownBy M (Value.slice ad (fJ bs f).length c).ownBlock→(dM w.heap.size (.slice (some ⟨Z,0,none⟩) ((fJ bs f).length+(fJ bs d).length) a0) (iN bs d f) M∧(iN bs d f=[]→(Value.slice (some ⟨Z,0,none⟩) ((fJ bs f).length+(fJ bs d).length) a0)=.slice none 0 0))∧Below w.heap.size w M):=fun ad c w' Z a0 M n u f1 f2=>by
     rw[I.out];refine⟨⟨?_,fun h=>absurd (List.append_eq_nil_iff.1 h).2 Q⟩,b3.out.trans (((q.out _ u).grown f2 (q.out _ u).size (fun b e=>(World.ownsRow.lt n b e).1)).mono (by omega))⟩;unfold dM;rw[List.length_append,jE];exact bI f1 (by omega)
    have f3:Hid (∀ (g c:Nat) (w':World),dM i.heap.size (.slice (some ⟨g,0,none⟩) (fJ bs d).length c) (fJ bs d) w'→∀a7 a8,(cI (fJ bs d))[a7]?=some a8→w'.cell? ((⟨g,0,none⟩:Addr).add a7)=some a8):=fun g c w' n a7 a8 f4=>World.ownsRow.cells n rfl a7 a8 f4
    have f5:Hid (∀W,P W→i.heap.size≤W.heap.size):=fun W h=>(q.out W h).size
    clear j Q O V b2;generalize fJ bs f=L at *;generalize fJ bs d=a9 at *;go_wp2_with fail
    go_region_law (first| (go_simp;(with_reducible show Calls Tryz.prog 127 #[.agg #[.int .i64 (d:Nat),.slice (some ⟨k,0,none⟩) 8 8]] _ _);refine(b4.out _ (by first| assumption| exact a3.out)).mono ?_;rintro e M ⟨f6,c1,rfl,d7,a4,b6⟩;obtain⟨E,r1,F,G,_⟩:=y.out _ a4;(try have a5:=b6 _ _ R))| (go_simp;(with_reducible show Calls Tryz.prog 127 #[.agg #[.int .i64 (f:Nat),.slice (some ⟨p,0,none⟩) 8 8]] _ _);refine(d3.out _ (by first| assumption| exact a3.out)).mono ?_;rintro e c9 ⟨b7,c2,rfl,R,a6,d4,d5⟩;obtain⟨E,r1,F,G,_⟩:=y.out _ a6;(try have f7:=d4 _ _ d7))| (refine step_append_lies _ rfl (.tmp 20) (.tmp 22) 49 rfl i.heap.size 52 c0 _ 5 40 Tryz.underlying49 c3 d8 d9 e0 rfl (by decide) (.slice b7 L.length c2) L.length (cI L) (by rfl) (by first| exact a5| exact R) ⟨f6,0,none⟩ a9.length c1 (cI a9) (by rfl) (oN a9) (f3.out _ _ _ (by first| exact f7| exact d7)) (rT a9) f0 (by unfold maxLen;omega) (by omega) (f5.out _ (by assumption)) _ rfl ?_;intro Z a0 h2 f8 f9 _ _))
    all_goals (go_wp2;go_ret;exact⟨_,rfl,b5.out _ _ _ _ _ _ (by first| exact a5| exact R) (by first| exact a4| exact a6) f8 (by first| exact f9)⟩)
theorem Am(bs:List Int)(s k:Nat)(a:k<8):iM bs s (upto 8 (k+1))=iM bs s (upto 8 k)++if cH bs s&&nM bs s k then [cY bs s k]else []:=by
 rw[eW 8 k a];unfold iM;rw[List.flatMap_append];simp
theorem xO(bs:List Int)(s:Nat)(h:cH bs s=true):nM bs s 0=false:=by
 unfold cH at h;unfold nM;simp at h;simp[h.1,h.2]
theorem vG(bs:List Int)(s:Nat)(h:cH bs s=true):∀k,k≤7→iM bs s (upto 8 (k+1))=fC bs s k
 | 0,_=>by rw[Am bs s 0 (by omega),h,xO bs s h];rfl
 | k+1,hk=>by rw[Am bs s (k+1) (by omega),vG bs s h k (by omega),h];simp only[Bool.true_and];rfl
theorem Oy(bs:List Int)(s:Nat)(h:cH bs s=false)(l:List (Fin 8)):iM bs s l=[]:=by
 unfold iM;simp[h]
theorem gJ(bs:List Int)(s:Nat)(h:cH bs s=true):fJ bs s=dQ bs (s:Int):=by
 unfold fJ;rw[vG bs s h 7 (by omega)];unfold dQ;rw[if_neg (by omega)];rfl
theorem Ey(bs:List Int)(s:Nat)(h:cH bs s=false):fJ bs s=[]:=Oy bs s h _
theorem iC(bs:List Int)(s:Nat)(h:cH bs s=true):eC bs s=jD bs s:=by
 unfold eC fG jD;rw[if_pos h]
theorem oF(bs:List Int)(a:cT bs)(s:Nat):0≤eC bs s∧eC bs s<4294967296:=by
 unfold eC fG;split
 ·exact rG bs s 0 3 a
 ·omega
def bE(bs:List Int):Nat×Nat:=if cH bs 0&&(!cH bs 1||decide (eC bs 1≤eC bs 0))then(0,1)else(1,0)
theorem Bg(bs:List Int)(c:cT bs):iN bs (bE bs).1 (bE bs).2=bT bs:=by
 have f:=oF bs c 0;have r1:=oF bs c 1;unfold bT bD;rcases hX:cH bs 0 with _| _<;>rcases hY:cH bs 1 with _| _
 ·have a:bE bs=(1,0):=by unfold bE;rw[hX];rfl
  rw[a];show iN bs 1 0=_
  unfold iN;rw[hY];exact Ey bs 1 hY
 ·have a:bE bs=(1,0):=by unfold bE;rw[hX];rfl
  rw[a];show iN bs 1 0=_
  unfold iN;rw[hX,hY];exact gJ bs 1 hY
 ·have a:bE bs=(0,1):=by unfold bE;rw[hX,hY];rfl
  rw[a];show iN bs 0 1=_
  unfold iN;rw[hX,hY];exact gJ bs 0 hX
 ·have g:=iC bs 0 hX;have h:=iC bs 1 hY
  by_cases d:eC bs 1≤eC bs 0
  ·have a:bE bs=(0,1):=by unfold bE;rw[hX,hY,decide_eq_true d];rfl
   rw[a];show iN bs 0 1=_
   unfold iN;rw[hX,hY,show IntKind.i64.wrap (eC bs 0-1)=eC bs 0-1 from by rw[IntKind.wrap_i64];omega]
   by_cases b:jD bs 0=jD bs 1+1
   ·rw[Dg _ _ b,if_pos (by simp;omega),gJ bs 0 hX,gJ bs 1 hY];rfl
   ·rw[Ct _ _ b (by omega) (by omega),if_neg (by simp;omega),gJ bs 0 hX];rfl
  ·have a:bE bs=(1,0):=by unfold bE;rw[hX,hY,decide_eq_false d];rfl
   rw[a];show iN bs 1 0=_
   unfold iN;rw[hX,hY,show IntKind.i64.wrap (eC bs 1-1)=eC bs 1-1 from by rw[IntKind.wrap_i64];omega]
   by_cases b:jD bs 1=jD bs 0+1
   ·rw[Dq _ _ (by omega) b,if_pos (by simp;omega),gJ bs 0 hX,gJ bs 1 hY];rfl
   ·rw[Dd _ _ (by omega) b (by omega),if_neg (by simp;omega),gJ bs 1 hY];rfl
theorem bV{P:Program}{id:Nat}{Q:Exit→Act→World→Prop}{a:Act}{w:World}{l:List Oper}{ι:Type}(f:ι→World)(b:P.follows .mixedOrders=true)(c:Region.lexB .any l.toArray=true)(d:∃i,w.drew=f i)
 (h:wpQuiet P l.toArray (fun w'=>∃i,w'=f i) (fun g=>∀w',(∃i,w'=f i)→Q .normal g w') l a):(Code.region id l.toArray true).wp P Q a w:=
 wp_region_quiet (C:=fun w'=>∃i,w'=f i) b c d (by simpa using h)
theorem cG{w:World}{o:Obj}{n:Nat}(h:n=w.heap.size):(w.alloc o).heap[n]?=some o:=by subst h;exact heap_alloc_new w o
theorem lA(w:World):∃ (ι:Type) (_:Nonempty ι) (f:ι→World),(∀i,Below w.heap.size w (f i))∧(∀W,Below w.heap.size w W→∃i,W=f i):=
 ⟨{W // Below w.heap.size w W},⟨⟨w,Below.refl _ _⟩⟩,Subtype.val,fun i=>i.2,fun W h=>⟨⟨W,h⟩,rfl⟩⟩
theorem Calls.inClass{P:Program}{F:FuncId}{args:Array Value}{w:World}{ι:Type}{f:ι→World}{v:Value}(a:∀i,Below w.heap.size w (f i))(b:∀W,Below w.heap.size w W→∃i,W=f i)(i:ι)
 (h:Calls P F args (f i) fun e w'=>e=.returned v∧Below (f i).heap.size (f i) w'):Calls P F args (f i) fun e w'=>e=.returned v∧∃c,w'=f c:=
 h.mono fun _ _ ⟨d,g⟩=>⟨d,b _ ((a i).trans (g.mono (a i).size))⟩
end Go.Proofs.YtnjlbgolnbdkaaaGreat
