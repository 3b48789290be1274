/- All, with short names -/
import Derived.Test.YtnjlbgolnbdkaaaGreatP47
import Derived.OpenShut
import Derived.Deep.Slices
import Derived.Test.YtnjlbgolnbdkaaaGreatP46
set_option maxRecDepth 100000
set_option maxHeartbeats 16000000
namespace Go.Proofs.YtnjlbgolnbdkaaaGreat
open Go Go.RowKit
def kF0:Fl:=⟨oU [],-1,0,false,0⟩
def Fq:SF:=(cJ (bQ lN).1 kF0.bs,kF0)
def tQ:SF:=(bW 1 Fq).2
def uR:SF:=(bW 1 tQ).2
theorem Rv:(bW 1 Fq).1=(1,0):=by kernel_rfl
theorem Sc:(tQ.1.parts.getD 0 default).mode=2:=by kernel_rfl
theorem Sp:aX tQ.2.bs (0:Nat)=1:=by kernel_rfl
theorem Sy:(bW 1 tQ).1=(1,0):=by kernel_rfl
theorem Ss:(uR.1.parts.getD 0 default).mode=3:=by kernel_rfl
theorem Kl:(bT uR.2.bs).length=2:=by kernel_rfl
theorem Sh:((bT uR.2.bs).getD 1 (fun _=>0)) 4=6:=by kernel_rfl
theorem Sq:Fq.1.parts.length=1:=by kernel_rfl
theorem wI:Fq.1.now=0:=rfl
theorem Kn.mono{w w':World}{kb:Nat}{a:bN}{g:Nat}{st:aQ}{F:Fl}(h:Kn w kb a g st F)(b:Below w.heap.size w w'):Kn w' kb a g st F:=⟨eT b h.box,h.mo.mono b⟩
theorem Aq(w:World):Calls Tryz.prog 15 #[] w fun e w'=>e=.returned (.bool true)∧Below w.heap.size w w':=by
 have a9:=aI (pA none 0 0 [] w ⟨rfl,by omega,by omega,fun z f5=>by simp at f5,fun _=>rfl,fun ad e=>by simp at e,fun ad e=>by simp at e⟩ (by omega))
 go_enter Tryz.func15,Tryz.ntmps15
 go_wp2_with fail
 refine a9.out.mono ?_;rintro e f6 ⟨g,rfl,b0,hF,b1⟩;have R:=aI hF;have f7:=aI b0;have b2:=aI b1;have b3:=aI (Hy f6);clear hF b0 b1 a9;go_wp2_with fail
 refine b3.out.mono ?_;rintro e b4 ⟨x,rfl,b5,S⟩;have b6:Below w.heap.size w b4:=b2.out.trans (S.mono b2.out.size);have T:=R.out.below S;have b7:=aI (Ba (some ⟨x,0,none⟩) 27 27 lN g _ _ _ _ _ b4 b5 (by omega) T);have U:=aI T;have V:=aI b6;clear b5 S b3 b6 T;go_wp2_with fail
 refine b7.out.mono ?_;rintro e o ⟨⟨h,_⟩| ⟨_,kb,a,rfl,p,b8⟩,E⟩
 ·exact absurd Dr h
 have b9:Below w.heap.size w o:=V.out.trans (E.mono V.out.size);have c0:gU kF0:=⟨by simp[kF0,oU],R.out.bytes,⟨by show(-1:Int)≤-1;decide,by show(-1:Int)≤1000000;decide⟩,⟨by show(0:Int)≤0;decide,by show(0:Int)≤255;decide⟩⟩;have F:Kn o kb a g Fq.1 Fq.2:=⟨p.box,p.mach,p.lay,p.ok,U.out.below E,c0⟩;have X:cS Fq:=⟨xY _ _ p.ok,p.ok⟩;have f8:=(U.out.below E).lt;have f9:=V.out.size;have Y:Hid (∀b,Dm a g Fq.1 b→w.heap.size≤b∧b<o.heap.size):=fun b d=>by
  refine⟨?_,F.mo.lt b d⟩;rcases Dm.blk (kx:=kb) d with i| i
  ·have:=b8 b i;omega
  ·rw[i];exact f7.out
 have l:Tk Fq tQ 1000:=nK 1 Fq X (by rw[wI];decide);have c3:∀b,Dm a g tQ.1 b→Dm a g Fq.1 b:=fun b d=>Dm.same l.cf l.len d
 have G:=aI (uE kb a g Fq.1 Fq.2 1 o F X.1 (by rw[wI];decide));have c4:Calls Tryz.prog 19 #[.pointer (some ⟨kb,0,none⟩),.int .i64 1] o fun e w'=>e=.returned (.tuple #[.int .i64 1,.int .i64 0])∧Kn w' kb a g tQ.1 tQ.2∧aH (Dm a g Fq.1) o w':=by
  refine G.out.mono ?_;rintro e w' ⟨i,Z,a0⟩;have a1:(bW 1 (Fq.1,Fq.2)).1=(1,0):=Rv;rw[a1]at i;exact⟨i,Z,a0⟩
 have G:=aI c4;have c5:tQ.1.parts.length=1:=l.len.trans Sq;have c6:Tk tQ uR 1000:=nK 1 tQ l.run (by have:=l.now.2;rw[wI]at this;omega);have g0:uR.1.parts.length=1:=c6.len.trans c5;have c7:Hid (∀W,Kn W kb a g tQ.1 tQ.2→Calls Tryz.prog 20 #[.pointer (some ⟨kb,0,none⟩),.int .i64 0] W fun e w'=>∃j q c1 k r c2,e=.returned (.tuple #[.agg #[.int .i64 2,.int .i64 1,.slice j q c1,.slice k r c2],.int .i64 0])∧Below W.heap.size W w'):=fun W f=>by
  refine(uN kb a g tQ.1 tQ.2.bs tQ.2.left tQ.2.res tQ.2.dead tQ.2.done 0 W f.kern f.mo.fl (by omega)).mono ?_;rintro e w' ⟨v,rfl,⟨j,g1,k,g2,rfl,_,_⟩,d⟩;rw[Sc,Sp];exact⟨_,_,_,_,_,_,rfl,d⟩
 have c8:Hid (∀W,Kn W kb a g uR.1 uR.2→Calls Tryz.prog 20 #[.pointer (some ⟨kb,0,none⟩),.int .i64 0] W fun e w'=>∃H j q c1 k r c2,e=.returned (.tuple #[.agg #[.int .i64 3,.int .i64 H,.slice j q c1,.slice k r c2],.int .i64 0])∧Below W.heap.size W w'):=fun W f=>by
  refine(uN kb a g uR.1 uR.2.bs uR.2.left uR.2.res uR.2.dead uR.2.done 0 W f.kern f.mo.fl (by omega)).mono ?_;rintro e w' ⟨v,rfl,⟨j,g1,k,g2,rfl,_,_⟩,d⟩;rw[Ss];exact⟨_,_,_,_,_,_,_,rfl,d⟩
 have c9:Hid (∀W,Kn W kb a g tQ.1 tQ.2→Calls Tryz.prog 19 #[.pointer (some ⟨kb,0,none⟩),.int .i64 1] W fun e w'=>e=.returned (.tuple #[.int .i64 1,.int .i64 0])∧Kn w' kb a g uR.1 uR.2∧aH (Dm a g Fq.1) W w'):=fun W f=>by
  refine(uE kb a g tQ.1 tQ.2 1 W f l.run.1 (by have:=l.now.2;rw[wI]at this;omega)).mono ?_;rintro e w' ⟨i,Z,a0⟩;have a1:(bW 1 (tQ.1,tQ.2)).1=(1,0):=Sy;rw[a1]at i;exact⟨i,Z,a0.to c3⟩
 have d0:Hid (∀W,Kn W kb a g uR.1 uR.2→Calls Tryz.prog 21 #[.pointer (some ⟨kb,0,none⟩)] W fun e w'=>∃gl d1,e=.returned (.slice (some ⟨gl,0,none⟩) 2 d1)∧w'.cell? ⟨gl,9,none⟩=some (.int .i64 6)∧Below W.heap.size W w'):=fun W f=>by
  refine(Dw kb a g uR.1 uR.2.bs uR.2.left uR.2.res uR.2.dead uR.2.done W f.kern f.mo.fl).mono ?_;rintro e w' ⟨v,rfl,⟨g3,_⟩,d⟩;obtain⟨ad,c,rfl,g4⟩:=iE g3;obtain⟨gl,rfl,_,_,_,_,_,d2⟩:=g4 1 ((bT uR.2.bs).getD 1 (fun _=>0)) (mM _ 1 _ (by rw[Kl];omega));rw[Sh]at d2;rw[Kl];exact⟨gl,c,rfl,d2,d⟩
 have h6:=aI F;have d3:=aI b9;clear p b8 E b9 F X l c6 c4 c3 c5 g0 c0 b7 R U f8 f9;generalize tQ.1=h7 at *;generalize tQ.2=h8 at *;generalize uR.1=h9 at *;generalize uR.2=i0 at *;go_wp2_with fail
 refine G.out.mono ?_;rintro e I ⟨rfl,a2,d4⟩;have d5:=aI (c7.out I a2);have d6:=aI a2;have d7:=aI d4;clear a2 d4 G c7;go_wp2_with fail
 refine d5.out.mono ?_;rintro e y ⟨j,q,c1,k,r,c2,rfl,J⟩;obtain⟨s,L⟩:∃s,s=y.alloc (.cells #[.int .i64 2,.int .i64 1,.slice j q c1,.slice k r c2] 43):=⟨_,rfl⟩;have d8:Below y.heap.size y s:=aE L;have A:s.heap[y.heap.size]?=some (.cells #[.int .i64 2,.int .i64 1,.slice j q c1,.slice k r c2] 43 (0,0)):=aF L;have a3:Below I.heap.size I s:=J.trans (d8.mono J.size);have d9:=aI (c9.out s (d6.out.mono a3));have g5:=aI A;have g6:=aI a3;have i1:o.heap.size≤y.heap.size:=Nat.le_trans d7.out.size J.size;have g7:=aI L;obtain⟨m,e0⟩:∃m,m=y.heap.size:=⟨_,rfl⟩;have a4:=aI e0;clear L d8 A a3 J d5 c9 d6 e0;go_wp2_with fail
 rw[←g7.out,←a4.out];refine d9.out.mono ?_;rintro e C ⟨rfl,a5,M⟩;have e1:=aI (c8.out C a5);have g8:Hid (C.heap[m]?=some (.cells #[.int .i64 2,.int .i64 1,.slice j q c1,.slice k r c2] 43 (0,0))∧m<C.heap.size):=by
  have N:=g5.out;rw[←a4.out]at N;refine⟨(M.block m (lt_of_block N) (fun e=>?_)).trans N,Nat.lt_of_lt_of_le (lt_of_block N) M.size⟩;have:=(Y.out m e).2;have:=a4.out;omega
 have e2:=aI a5;have g9:=aI M;clear a5 M c8 d9;go_wp2_with fail
 refine e1.out.mono ?_;rintro e D ⟨H,z1,e3,e4,z2,e5,e6,rfl,a6⟩;obtain⟨u,O⟩:∃u,u=D.alloc (.cells #[.int .i64 3,.int .i64 H,.slice z1 e3 e4,.slice z2 e5 e6] 43):=⟨_,rfl⟩;have e7:Below D.heap.size D u:=aE O;have n:u.heap[D.heap.size]?=some (.cells #[.int .i64 3,.int .i64 H,.slice z1 e3 e4,.slice z2 e5 e6] 43 (0,0)):=aF O;have a7:Below C.heap.size C u:=a6.trans (e7.mono a6.size);have h0:=aI (d0.out u (e2.out.mono a7));have h1:=aI n;have e8:=aI a7;have h2:=aI O;obtain⟨a8,e9⟩:∃a8,a8=D.heap.size:=⟨_,rfl⟩;have f0:=aI e9;clear O e7 n a7 a6 e1 d0 e2 e9;go_wp2_with fail
 rw[←h2.out,←f0.out];refine h0.out.mono ?_;rintro e P ⟨gl,d1,rfl,i2,Q⟩;have A:=eT Q (eT e8.out g8.out.1);have n:=h1.out;rw[←f0.out]at n;have n:=eT Q n;have i3:P.cell? ⟨m,0,none⟩=some (.int .i64 2):=aD A;have i4:P.cell? ⟨m,1,none⟩=some (.int .i64 1):=aD A;have i5:P.cell? ⟨a8,0,none⟩=some (.int .i64 3):=aD n;have h3:Hid (Below w.heap.size w P):=by
  have h4:=d7.out.below (B:=w.heap.size) d3.out.size (fun b d=>(Y.out b d).1);have f1:Below w.heap.size w I:=d3.out.trans h4;have f2:Below w.heap.size w s:=f1.trans (g6.out.mono f1.size);have h5:=g9.out.below (B:=w.heap.size) f2.size (fun b d=>(Y.out b d).1);have f3:Below w.heap.size w C:=f2.trans h5;have f4:Below w.heap.size w u:=f3.trans (e8.out.mono f3.size);exact f4.trans (Q.mono f4.size)
 clear A n Q;go_wp2
 go_ret
 exact⟨rfl,h3.out⟩
noncomputable def Fb:Array Field:=match Tryz.prog.underlying 96 with| some (.struct fs)=>fs| _=>#[]
theorem Qq:Tryz.prog.underlying 96=some (.struct Fb):=by kernel_rfl
theorem Dl:Tryz.prog.underlying 32=some (.slice 96):=by kernel_rfl
theorem Ef:Tryz.prog.cellsOf 96=4:=by kernel_rfl
theorem Lq:Tryz.prog.cellsOf 3=1:=by kernel_rfl
theorem Oj:Tryz.prog.underlying 3=some (.int .i64):=by kernel_rfl
theorem Sx:Fb.size=4:=by kernel_rfl
theorem op_f0:(Fb[0]?).map (fun f=>(f.offset,f.type))=some (0,3):=by kernel_rfl
theorem op_f1:(Fb[1]?).map (fun f=>(f.offset,f.type))=some (1,3):=by kernel_rfl
theorem op_f2:(Fb[2]?).map (fun f=>(f.offset,f.type))=some (2,3):=by kernel_rfl
theorem op_f3:(Fb[3]?).map (fun f=>(f.offset,f.type))=some (3,3):=by kernel_rfl
theorem uU{s:Type}{enc:TypeId×Value→s}{W:World}{u:Option Addr}{len cap:Nat}{q:DataW s}{p:List MemPlace}(h:DataW.Trod enc Tryz.prog W 0 (fun _=>true) true 32 (.slice u len cap) q p)
 (I:∀v J,q=.slice v J→v.length≤1048576):qF W u len:=by
 obtain⟨a4,L⟩:=h;rcases Go.Deep.open_slice Dl L with⟨m,_⟩| ⟨a,l,c,x,n,y,a5,m,a6,a7,a8,M,N,A⟩
 ·simp[Value.cells]at m;obtain⟨rfl,rfl,rfl⟩:=m;exact⟨by omega,fun i O=>by omega⟩
 ·simp[Value.cells]at m;obtain⟨rfl,rfl,rfl⟩:=m;have P:q=.slice ((List.range len).map y) ((List.range (x-len)).map fun d=>y (len+d)):=congrArg Prod.fst N;have B:=I _ _ P;simp only[List.length_map,List.length_range]at B;have a9:x=cap:=by rw[M];simp
  refine⟨B,fun i O=>?_⟩;have Q:a.spot=none:=by
   obtain⟨b0,C,_⟩:=A 0 (by omega);rw[Ef]at C;obtain⟨_,b1,R⟩:=World.cells?_some C;have:=R 0 (by omega);rw[List.getElem?_eq_getElem (by omega)]at this
   simpa[Addr.add]using World.cell?_spot this
  obtain⟨D,E,S⟩:=A i (by omega);rw[Ef]at E;obtain⟨_,b2,o⟩:=World.cells?_some E;obtain⟨b3,k,_,_,_,T,U⟩:=DataW.trod_struct Qq S;rw[Sx]at T;have one:∀d,d<4→(Fb[d]?).map (fun f=>(f.offset,f.type))=some (d,3)→∃z:Int,D[d]?=some (.int .i64 z)∧(-9223372036854775808≤z∧z≤9223372036854775807):=fun d b4 j=>by
   cases hg:Fb[d]? with
   | none=>rw[hg]at j;cases j
   | some f=>
    rw[hg]at j;simp at j;have g:=U d f hg;rw[j.1,j.2,Lq,List.getElem?_eq_getElem (by omega)]at g;obtain⟨z,V,_,X⟩:=DataW.trod_int Oj g;refine⟨z,?_,by simpa[Lit.wf,IntKind.min,IntKind.max,IntKind.signed,IntKind.bits]using X⟩;have e:(List.take 1 (List.drop d D))[0]?=some (.int .i64 z):=by rw[V];rfl
    rw[List.getElem?_take,if_pos (by omega),List.getElem?_drop,Nat.add_zero]at e;exact e
  obtain⟨z0,Y,_⟩:=one 0 (by omega) op_f0;obtain⟨z1,Z,r1⟩:=one 1 (by omega) op_f1;obtain⟨z2,a0,_⟩:=one 2 (by omega) op_f2;obtain⟨z3,a1,_⟩:=one 3 (by omega) op_f3;have r:=(o 0 (by omega)).trans Y;have F:=(o 1 (by omega)).trans Z;have G:=(o 2 (by omega)).trans a0;have H:=(o 3 (by omega)).trans a1;obtain⟨b,a2,spot⟩:=a;have a3:spot=none:=Q;subst a3;simp only[Addr.add_lit]at r F G H;refine⟨b,a2,z0,z1,z2,z3,rfl,?_,by simpa using r,F,G,H,r1⟩;exact World.block_lt_of_cell? W _ r
section
open Go.RowKit
def pH(base:Nat)(h:Value)(hb:Nat)(n:Int)(A:Nat→List eI)(fx gx:Nat)(st:aQ)(w w':World):Prop:=
 ∃c L' a i d j k l m g F',We base c L' hb a i d j fx gx k l m g F' w'∧c 4=h∧(0≤a∧a≤n+2)∧(∀f,(d f).length≤(A f).length+8)∧g.now≤st.now+1000∧aH (fun b=>base≤b) w w'
theorem kY.any{base:Nat}{p:Nat→Value}{hb:Nat}{n:Int}{A:Nat→List eI}{kx fx gx:Nat}{M:bN}{D:eZ}{st:aQ}{w w':World}{a:Value}(h:kY base p hb n A kx fx gx M D st w w')(b:p 4=a):pH base a hb n A fx gx st w w':=by
 obtain⟨L',c,d,f,g,i,F',j,k,l,m,o⟩:=h;exact⟨p,L',c,d,f,kx,M,D,g,i,F',j,b,k,l,m,o⟩
section
variable {base:Nat} {p:Nat→Value} {L:Nat→Nat} {hb:Nat} {n:Int} {vs:Nat→Value} {A:Nat→List eI} {kx fx gx:Nat} {M:bN} {D:eZ} {Q:Nat→Value} {st:aQ} {F F':Fl} {w w' w1 w2:World}
theorem We.start{cf:Cf}{d i j:Nat}{l:bN}(h:We base p L hb n vs A kx fx gx M D Q st F w)(R:base≤w.heap.size)(m:aH (·=hb) w w')
 (o:w'.heap[hb]?=some (.cells (bU (pset p d i) (.slice none 0 0) (.slice none 0 0) n vs) 94 (0,0))) (a:eP w' d l fx (cJ cf F.bs)) (S:w.heap.size≤j) (z:∀b,mH d l (cJ cf F.bs) b→w.heap.size≤b∧b<j) (B:lZ j i gx (cJ cf F.bs) w'):
 ∃q r,We base (pset p d i) (fun k=>if k<w.heap.size then L k else 100) hb n vs A d fx gx l q r (cJ cf F.bs) F w':=by
 have c:∀b,b<w.heap.size→(if b<w.heap.size then L b else 100)=L b:=fun b o=>by simp[o]
 have s:=h.kn.mo.fl.lt;have u:=h.ro.fl.lt;have v:=lt_of_block h.hnd.blk;have C:fx≠hb:=fun e=>by have f:=h.fl.1;rw[e,h.hnd.lab]at f;omega
 have E:gx≠hb:=fun e=>by have f:=h.gl.1;rw[e,h.hnd.lab]at f;omega
 obtain⟨q,r,G,H,I,x⟩:=B.lay a.ok (fun y J=>by
  have N:y<cf.chans.length:=by simpa[cJ]using J
  show(List.replicate cf.chans.length []).getD y []=[]
  simp[List.getD_eq_getElem?_getD,N])
 refine⟨q,r,⟨o,(c hb v).trans h.hnd.lab,(h.hnd.fam.relabel (fun k a _ _=>c k a)).touch m (fun k a O=>?_)⟩,rfl,h.p1,by rw[G];rfl,h.p3,⟨a.box,a.mach,a.lay,a.ok,h.kn.mo.fl.keep (m.block fx s C),h.kn.mo.flok⟩,fun b g=>?_,⟨H,I,a.ok,h.ro.fl.keep (m.block gx u E),h.kn.mo.flok⟩,fun b g=>?_,⟨by rw[c fx s];exact h.fl.1,h.fl.2⟩,⟨by rw[c gx u];exact h.gl.1,h.gl.2⟩,h.fg,fun b g=>by rw[c b (by omega)];exact h.lb b g,xY cf F.bs a.ok⟩
 ·have e:k=hb:=O;rw[e];exact .inl ((c hb v).trans h.hnd.lab)
 ·have f:=z b g;refine⟨by rw[if_neg (by omega)];omega,by omega,by omega,fun P=>?_⟩;have:=x b P;omega
 ·have f:=x b g;exact⟨by rw[if_neg (by omega)];omega,by omega,by omega⟩
theorem Jd{d:Option Addr}{c cap:Nat}{zs:List Int}(h:We base p L hb n vs A kx fx gx M D Q st F w)(k:base≤w.heap.size)(l:0≤n)(i:p 4=.slice d c cap)(o:gV w d c cap zs)(q:c≤140737488351232)(r:∀ad,d=some ad→0<c→ad.block<base):
 Calls Tryz.prog 31 #[.pointer (some ⟨hb,0,none⟩)] w fun e w'=>e=.returned (.bool true)∧pH base (.slice d c cap) hb n A fx gx st w w':=by
 have s:fx≠hb:=fun e=>by have g:=h.fl.1;rw[e,h.hnd.lab]at g;omega
 have u:gx≠hb:=fun e=>by have g:=h.gl.1;rw[e,h.hnd.lab]at g;omega
 have N:=h.hbase;have O:=h.run.now;refine(xL p hb n vs d c cap zs fx gx F.bs F.left F.res F.dead F.done F.left F.res F.dead F.done w h.hnd.blk h.p1 h.p3 i o q s u (fun ad e g=>by have:=r ad e g;omega) h.kn.mo.fl h.ro.fl).mono ?_;rintro e w' ⟨rfl,a,⟨_,j⟩| ⟨_,m,v,x,P,j,y,⟨z,B⟩,C⟩⟩
 ·have E:Below w.heap.size w w':=⟨a.os,a.tape,a.output,a.size,fun b G=>by
   by_cases e:b=hb
   ·rw[e,j,h.hnd.blk]
   ·exact a.block b G e⟩
  have:=h.below k E;exact⟨rfl,p,_,n,vs,A,kx,M,D,Q,st,F,this.1,i,⟨l,by omega⟩,fun f=>by omega,by omega,this.2⟩
 ·obtain⟨H,I,J⟩:=h.start k a j y z B C;refine⟨rfl,pset p m x,_,n,vs,A,m,v,H,I,_,F,J,i,⟨l,by omega⟩,fun f=>by omega,?_,a.mono (fun b e=>by have R:b=hb:=e;omega)⟩;show(0:Int)≤st.now+1000
  omega
theorem We.flash(h:We base p L hb n vs A kx fx gx M D Q st F w)(g:base≤w.heap.size)(c:gU F')(i:fO w1 fx F')(d:aH (·=fx) w w1)(j:fO w2 gx F')(f:aH (·=gx) w1 w2):
 We base p (fun k=>if k<w.heap.size then L k else 100) hb n vs A kx fx gx M D Q st F' w2∧aH (fun b=>base≤b) w w2:=by
 have a:aH (Dm M fx st) w w1:=d.mono (fun b e=>.inr (.inr (.inr (.inr e))));have l:aH (Rm D Q gx st) w1 w2:=f.mono (fun b e=>.inr (.inr (.inr (.inr (.inr e)))));have m:=h.mid a;exact h.step g (h.kn.next (h.kn.mo.flash d i c) a) a (m.1.flash f j c) l (fun o b e=>.inl e) rfl rfl h.run
theorem We.apart(h:We base p L hb n vs A kx fx gx M D Q st F w):fx≠hb∧gx≠hb∧fx<w.heap.size∧gx<w.heap.size∧hb<w.heap.size:=
 ⟨fun e=>by have a:=h.fl.1;rw[e,h.hnd.lab]at a;omega,fun e=>by have a:=h.gl.1;rw[e,h.hnd.lab]at a;omega,h.kn.mo.fl.lt,h.ro.fl.lt,lt_of_block h.hnd.blk⟩
end
end
theorem Pj(base:Nat)(p:Nat→Value)(a8:Nat→Nat)(m:Nat)(n:Int)(X:Nat→Value)(x:Nat→List eI)(kx i j:Nat)(B:bN)(C:eZ)(Q:Nat→Value)(st:aQ)(F:Fl)(a b c:Int)(w:World)
 (h:We base p a8 m n X x kx i j B C Q st F w) (Y:base≤w.heap.size) (a9:0≤n) (b0:-9223372036854775808≤a∧a≤9223372036854775807):
 Calls Tryz.prog 33 #[.pointer (some ⟨m,0,none⟩),.agg #[.int .i64 6,.int .i64 a,.int .i64 b,.int .i64 c]] w fun e w'=>e=.returned (.bool true)∧kY base p m n x kx i j B C st w w':=by
 obtain⟨g,D⟩:∃g,g=w.alloc (.cells #[.int .i64 6,.int .i64 a,.int .i64 b,.int .i64 c] 96):=⟨_,rfl⟩;have J:Below w.heap.size w g:=aE D;have y:g.heap[w.heap.size]?=some (.cells #[.int .i64 6,.int .i64 a,.int .i64 b,.int .i64 c] 96 (0,0)):=aF D;have s:=h.below Y J;have b1:base≤g.heap.size:=Nat.le_trans Y J.size;have b2:g.cell? ⟨w.heap.size,0,none⟩=some (.int .i64 6):=aD y;have b3:g.cell? ⟨w.heap.size,1,none⟩=some (.int .i64 a):=aD y;have E:g.cell? ⟨w.heap.size,2,none⟩=some (.int .i64 b):=aD y;have L:=s.1.cells.1;have Z:=s.1.cells.2.2.1;have M:=h.apart;have G:=s.1.apart;have a0:=lt_of_block y;obtain⟨r,N⟩:∃r,r=IntKind.u8.wrap b:=⟨_,rfl⟩;have a1:0≤r∧r≤255:=by rw[N,IntKind.wrap_u8];omega
 have a2:Hid (∀k:Nat,Calls Tryz.prog 25 #[.pointer (some ⟨i,0,none⟩),.int .i64 k,.int .u8 r] g.drew fun e w'=>e=.returned (.tuple #[])∧fO w' i (F.cut k r)∧aH (·=i) g w'):=fun k=>by
  refine(Kv i F k r g.drew (s.1.kn.mo.fl.keep rfl) (by omega)).mono ?_;rintro e w' ⟨O,P,R⟩;exact⟨O,P,(aH.ofDrew g).andThen R⟩
 have a3:Hid (∀ (k:Nat) (W:World),aH (·=i) g W→Calls Tryz.prog 25 #[.pointer (some ⟨j,0,none⟩),.int .i64 k,.int .u8 r] W.drew fun e w'=>e=.returned (.tuple #[])∧fO w' j (F.cut k r)∧aH (·=j) W w'):=fun k W b4=>by
  refine(Kv j F k r W.drew ((s.1.ro.fl.keep (b4.block j G.2.2.2.1 (fun e=>h.fg e.symm))).keep rfl) (by omega)).mono ?_;rintro e w' ⟨O,P,R⟩;exact⟨O,P,(aH.ofDrew W).andThen R⟩
 have H:Hid (∀l,aH (·=i) g l→l.heap[m]?=g.heap[m]?∧l.heap[w.heap.size]?=g.heap[w.heap.size]?):=fun l z=>⟨z.block _ G.2.2.2.2 (fun e=>M.1 e.symm),z.block _ a0 (by omega)⟩
 have a4:Hid (∀l d,aH (·=i) g l→aH (·=j) l d→d.heap[m]?=l.heap[m]?∧d.heap[w.heap.size]?=l.heap[w.heap.size]?):=fun l d z I=>⟨I.block _ (Nat.lt_of_lt_of_le G.2.2.2.2 z.size) (fun e=>M.2.1 e.symm),I.block _ (Nat.lt_of_lt_of_le a0 z.size) (by omega)⟩
 have a5:Hid (∀ (k:Nat) l d,(k:Int)<401→fO l i (F.cut k r)→aH (·=i) g l→fO d j (F.cut k r)→aH (·=j) l d→kY base p m n x kx i j B C st w d):=fun k l d S b5 b6 T U=>by
  have:=s.1.flash b1 (show gU (F.cut k r)from⟨h.kn.mo.flok.len,h.kn.mo.flok.bytes,⟨by show(-1:Int)≤(k:Int);omega,by show(k:Int)≤1000000;omega⟩,a1⟩) b5 b6 T U;exact⟨_,n,X,x,Q,st,_,this.1,⟨a9,by omega⟩,fun f=>by omega,by omega,s.2.andThen this.2⟩
 have b7:=aI (fun W=>Aw a 401 W b0 (by omega));have b8:=aI D;have c4:IntKind.u8.wrap b=r:=N.symm;clear D s J y h M G N a1
 go_enter Tryz.func33,Tryz.ntmps33
 go_wp2_with fail
 rw[←b8.out];generalize w.heap.size=u at *;refine(b7.out _).mono ?_;rintro e l ⟨k,S,rfl,b9⟩;obtain rfl:=b9.symm;have c0:=aI S;clear S;go_wp2_with fail
 go_cut [72]from 64 to 72 (fun v a6=>v=.tuple #[]∧fO a6 i (F.cut k r)∧aH (·=i) g a6)
 case first=>
  go_region_held (fun W:World=>W.cell? ⟨m,1,none⟩=some (.pointer (some ⟨i,0,none⟩))∧W.cell? ⟨u,2,none⟩=some (.int .i64 b))
   ((first| (with_reducible assumption)| exact⟨L,E⟩))
   (first| (go_at_call 25;refine(a2.out k).mono ?_;rintro e q ⟨rfl,A,o⟩;have c1:q.cell? ⟨m,1,none⟩=some (.pointer (some ⟨i,0,none⟩))∧q.cell? ⟨u,2,none⟩=some (.int .i64 b):=⟨(World.cell?_of_block (H.out q o).1).trans L,(World.cell?_of_block (H.out q o).2).trans E⟩))
  all_goals (go_wp2_with fail;go_meet;exact⟨by first| rfl| simp,A,o⟩)
 case rest=>
  obtain⟨rfl,A,o⟩:=hcut;have V:=H.out wc o;have z3:=(World.cell?_of_block V.1).trans Z;have z2:=(World.cell?_of_block V.2).trans E;have c2:=aI (a3.out k wc o);have a7:Hid (∀d,aH (·=j) wc d→d.heap[m]?=wc.heap[m]?∧d.heap[u]?=wc.heap[u]?):=fun d I=>a4.out wc d o I
  have c3:Hid (∀d,fO d j (F.cut k r)→aH (·=j) wc d→kY base p m n x kx i j B C st w d):=fun d T U=>a5.out k wc d c0.out A o T U
  clear A o V a5 a4 a3 a2 H b2 b3 E L Z;go_wp2_with fail
  go_region_held (fun W:World=>W.cell? ⟨m,3,none⟩=some (.pointer (some ⟨j,0,none⟩))∧W.cell? ⟨u,2,none⟩=some (.int .i64 b))
   ((first| (with_reducible assumption)| exact⟨z3,z2⟩))
   (first| (go_at_call 25;refine c2.out.mono ?_;rintro e q ⟨rfl,A,o⟩;have c1:q.cell? ⟨m,3,none⟩=some (.pointer (some ⟨j,0,none⟩))∧q.cell? ⟨u,2,none⟩=some (.int .i64 b):=⟨(World.cell?_of_block (a7.out q o).1).trans z3,(World.cell?_of_block (a7.out q o).2).trans z2⟩))
  all_goals (go_wp2;go_ret;exact⟨by first| rfl| simp,c3.out _ (by assumption) (by assumption)⟩)
theorem Jr(base:Nat)(p:Nat→Value)(a0:Nat→Nat)(j:Nat)(n:Int)(u:Nat→Value)(m:Nat→List eI)(kx i d:Nat)(v:bN)(x:eZ)(Q:Nat→Value)(st:aQ)(F:Fl)(y:Option Addr)(s cap:Nat)(zs:List Int)(k a b c:Int)(w:World)
 (h:We base p a0 j n u m kx i d v x Q st F w) (C:base≤w.heap.size) (D:0≤n) (a1:n+1≤100000000000) (P:∀f,(m f).length+4≤100000000000) (R:st.now+1000≤1000000000000) (a8:-9223372036854775808≤a∧a≤9223372036854775807)
 (E:p 4=.slice y s cap) (S:gV w y s cap zs) (b9:s≤140737488351232) (G:∀ad,y=some ad→0<s→ad.block<base):
 Calls Tryz.prog 33 #[.pointer (some ⟨j,0,none⟩),.agg #[.int .i64 k,.int .i64 a,.int .i64 b,.int .i64 c]] w fun e w'=>e=.returned (.bool true)∧pH base (.slice y s cap) j n m i d st w w':=by
 by_cases T:k≤5
 ·exact(Ee base p a0 j n u m kx i d v x Q st F k a b c w h C D a1 P R T a8).mono (fun e w' H=>⟨H.1,H.2.any E⟩)
 by_cases U:k=6
 ·subst U;exact(Pj base p a0 j n u m kx i d v x Q st F a b c w h C D a8).mono (fun e w' H=>⟨H.1,H.2.any E⟩)
 have f3:(k == 1)=false:=by simp;omega
 have f4:(k == 2)=false:=by simp;omega
 have f5:(k == 3)=false:=by simp;omega
 have f6:(k == 4)=false:=by simp;omega
 have f7:(k == 5)=false:=by simp;omega
 have f8:(k == 6)=false:=by simp;omega
 obtain⟨l,z⟩:∃l,l=w.alloc (.cells #[.int .i64 k,.int .i64 a,.int .i64 b,.int .i64 c] 96):=⟨_,rfl⟩;have I:Below w.heap.size w l:=aE z;have B:l.heap[w.heap.size]?=some (.cells #[.int .i64 k,.int .i64 a,.int .i64 b,.int .i64 c] 96 (0,0)):=aF z;have o:=h.below C I;have c0:base≤l.heap.size:=Nat.le_trans C I.size;have a9:Hid (pH base (.slice y s cap) j n m i d st w l):=⟨p,_,n,u,m,kx,v,x,Q,st,F,o.1,E,⟨D,by omega⟩,fun f=>by omega,by omega,o.2⟩;have V:Hid (∀W,aH (fun b=>base≤b) w W→gV W y s cap zs):=fun W q=>S.touch q (fun ad e a1 f9=>by have:=G ad e a1;omega)
 have J:Hid (∀b0 b1 W,We base p b0 j n u m kx i d v x Q st b1 W→aH (fun b=>base≤b) w W→Calls Tryz.prog 31 #[.pointer (some ⟨j,0,none⟩)] W fun e w'=>e=.returned (.bool true)∧pH base (.slice y s cap) j n m i d st w w'):=fun b0 b1 W L q=>by
  refine(Jd L (Nat.le_trans C q.size) D E (V.out W q) b9 G).mono ?_;rintro e w' ⟨rfl,c1,L',c2,c3,c4,c5,c6,c7,c8,c9,d0,X,M,d1,d2,d3,d4⟩;exact⟨rfl,c1,L',c2,c3,c4,c5,c6,c7,c8,c9,d0,X,M,d1,d2,d3,q.andThen d4⟩
 have d5:l.cell? ⟨w.heap.size,0,none⟩=some (.int .i64 k):=aD B;have b2:l.cell? ⟨w.heap.size,1,none⟩=some (.int .i64 a):=aD B
 by_cases Y:k=8
 ·subst Y;have d6:=aI (J.out _ F l o.1 o.2);have N:=aI z;clear z o I h R P J V S G B T U
  go_enter Tryz.func33,Tryz.ntmps33
  go_wp2_with fail
  rw[←N.out];refine d6.out.mono ?_;rintro e g ⟨rfl,O⟩;have a2:=aI O;clear O;go_wp2
  go_ret
  exact⟨rfl,a2.out⟩
 have g0:(k == 8)=false:=by simp[Y]
 by_cases a3:k=7
 ·subst a3;have b3:=o.1.cells.1;have b4:=o.1.cells.2.2.1;have b5:=h.apart;have a4:=o.1.apart;have b6:=lt_of_block B;have b7:=aI (uW i F l o.1.kn.mo.fl);have d7:Hid (∀W,aH (·=i) l W→Calls Tryz.prog 27 #[.pointer (some ⟨d,0,none⟩)] W fun e w'=>e=.returned (.tuple #[])∧fO w' d F.restore∧aH (·=d) W w'):=fun W d8=>uW d F W (o.1.ro.fl.keep (d8.block d a4.2.2.2.1 (fun e=>h.fg e.symm)))
  have d9:Hid (∀g r,fO g i F.restore→aH (·=i) l g→fO r d F.restore→aH (·=d) g r→(∃A,We base p A j n u m kx i d v x Q st F.restore r)∧aH (fun b=>base≤b) w r):=fun g r e0 e1 e2 e3=>by
   have:=o.1.flash c0 (show gU F.restore from⟨h.kn.mo.flok.len,h.kn.mo.flok.bytes,⟨by show(-1:Int)≤-1;decide,by show(-1:Int)≤1000000;decide⟩,h.kn.mo.flok.res⟩) e0 e1 e2 e3;exact⟨⟨_,this.1⟩,o.2.andThen this.2⟩
  have e4:Hid (∀g,aH (·=i) l g→g.heap[j]?=l.heap[j]?∧g.heap[w.heap.size]?=l.heap[w.heap.size]?):=fun g q=>⟨q.block _ a4.2.2.2.2 (fun e=>b5.1 e.symm),q.block _ b6 (by omega)⟩
  have e5:Hid (∀g r,aH (·=i) l g→aH (·=d) g r→r.heap[w.heap.size]?=g.heap[w.heap.size]?):=fun g r q e6=>e6.block _ (Nat.lt_of_lt_of_le b6 q.size) (by omega)
  have e7:Hid (∀W,(∃A,We base p A j n u m kx i d v x Q st F.restore W)→aH (fun b=>base≤b) w W→pH base (.slice y s cap) j n m i d st w W):=fun W ⟨A,L⟩ q=>⟨p,_,n,u,m,kx,v,x,Q,st,_,L,E,⟨D,by omega⟩,fun f=>by omega,by omega,q⟩
  have e8:Hid (∀W,(∃A,We base p A j n u m kx i d v x Q st F.restore W)→aH (fun b=>base≤b) w W→Calls Tryz.prog 31 #[.pointer (some ⟨j,0,none⟩)] W fun e w'=>e=.returned (.bool true)∧pH base (.slice y s cap) j n m i d st w w'):=fun W ⟨A,L⟩ q=>J.out A _ W L q
  have e9:(w.alloc (.cells #[.int .i64 7,.int .i64 a,.int .i64 b,.int .i64 c] 96)).cell? ⟨j,1,none⟩=some (.pointer (some ⟨i,0,none⟩)):=by rw[←z];exact b3
  have N:=aI z;clear z o I h R P J V S G B T U Y a9 b5 a4
  go_enter Tryz.func33,Tryz.ntmps33
  go_wp2_with fail
  rw[←N.out];generalize w.heap.size=g1 at *;refine b7.out.mono ?_;rintro e g ⟨rfl,b8,a5⟩;have a6:=e4.out g a5;have z3:=(World.cell?_of_block a6.1).trans b4;have z1:=(World.cell?_of_block a6.2).trans b2;have f0:=aI b8;have a7:=aI a5;clear b8 a5 a6 d5 b2 b3 e9 b4 b7;go_wp2_with fail
  refine(d7.out g a7.out).mono ?_;rintro e r ⟨rfl,X,M⟩;have g2:=(World.cell?_of_block (e5.out g r a7.out M)).trans z1;have Z:=aI (d9.out g r f0.out a7.out X M);clear X M z1 z3
  by_cases g3:Int.tmod a 2=0
  ·have f1:=aI (e7.out r Z.out.1 Z.out.2);go_wp2
   go_ret
   exact⟨rfl,f1.out⟩
  ·have f2:=aI (e8.out r Z.out.1 Z.out.2);go_wp2_with fail
   refine f2.out.mono ?_;rintro e g4 ⟨rfl,O⟩;have a2:=aI O;clear O;go_wp2
   go_ret
   exact⟨rfl,a2.out⟩
 have g5:(k == 7)=false:=by simp[a3]
 have N:=aI z;clear z o I h R P J V S G B T U a3 Y
 go_enter Tryz.func33,Tryz.ntmps33
 go_wp2
 rw[←N.out]
 go_ret
 exact⟨rfl,a9.out⟩
end Go.Proofs.YtnjlbgolnbdkaaaGreat
