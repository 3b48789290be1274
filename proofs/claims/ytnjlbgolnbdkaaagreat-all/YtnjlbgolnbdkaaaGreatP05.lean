/- All, with short names -/
import Derived.Test.YtnjlbgolnbdkaaaGreatP03
import Derived.Deep.CutBlock
set_option maxRecDepth 100000
set_option maxHeartbeats 16000000
namespace Go.Proofs.YtnjlbgolnbdkaaaGreat
open Go Go.RowKit
section
open Go.RowKit
def bJ(f a:Int)(b vW vC:Value):Array Value:=#[.int .i64 f,.int .i64 a,b,vW,vC]
structure Mk(ao:Option Addr)(n cap:Nat)(zs:List Int)(w:World)(cells:Array Value)(r:Rd)(wr:World):Prop where
 zero:wr.heap[w.heap.size]?=some (.cells (bJ 0 0 (.slice none 0 0) (.slice none 0 0) (.slice none 0 0)) 71 (0,0))
 cur:wr.heap[w.heap.size+2]?=some (.cells cells 71 (0,0))
 rd:nY (w.heap.size+1) ao n cap zs r wr
 bel:Below w.heap.size w wr
section
variable {ao:Option Addr} {n cap:Nat} {zs:List Int} {w:World} {cells:Array Value} {r r':Rd} {wr w':World}
theorem Mk.byte(h:Mk ao n cap zs w cells r wr)(b:nY (w.heap.size+1) ao n cap zs r' w')(a:aH (·=w.heap.size+1) wr w'):Mk ao n cap zs w cells r' w':=
 ⟨(a.block _ (lt_of_block h.zero) (by omega)).trans h.zero,(a.block _ (lt_of_block h.cur) (by omega)).trans h.cur,b,h.bel.trans (a.below h.bel.size (fun k c=>by omega))⟩
theorem Mk.set(h:Mk ao n cap zs w cells r wr)(a:∀ad,ao=some ad→0<n→ad.block<w.heap.size)(o:Nat)(v:Value):Mk ao n cap zs w (cells.setIfInBounds o v) r (wr.setCell ⟨w.heap.size+2,o,none⟩ v):=by
 have t:aH (·=w.heap.size+2) wr (wr.setCell ⟨w.heap.size+2,o,none⟩ v):=aH.ofSet wr _ o v rfl;exact⟨(t.block _ (lt_of_block h.zero) (by omega)).trans h.zero,aK h.cur o v,⟨(t.block _ (lt_of_block h.rd.obj) (by omega)).trans h.rd.obj,h.rd.held.touch t (fun ad e b c=>by have:=a ad e b;omega),h.rd.apart,h.rd.small,h.rd.pos⟩,h.bel.trans (t.below h.bel.size (fun k d=>by omega))⟩
theorem Mk.below(h:Mk ao n cap zs w cells r wr)(a:∀ad,ao=some ad→0<n→ad.block<w.heap.size)(b:Below (w.heap.size+3) wr w'):Mk ao n cap zs w cells r w':=
 ⟨(b.block _ (by omega)).trans h.zero,(b.block _ (by omega)).trans h.cur,h.rd.touch b (by omega) (fun ad e c=>by have:=a ad e c;omega),h.bel.trans (b.mono (by omega))⟩
theorem Mk.fin(h:Mk ao n cap zs w cells r wr)(x:Int):Mk ao n cap zs w cells { r with fin:=x } wr:=⟨h.zero,h.cur,⟨h.rd.obj,h.rd.held,h.rd.apart,h.rd.small,h.rd.pos⟩,h.bel⟩
theorem Mk.setHigh(h:Mk ao n cap zs w cells r wr)(a:∀ad,ao=some ad→0<n→ad.block<w.heap.size)(B o:Nat)(v:Value)(b:w.heap.size+3≤B):Mk ao n cap zs w cells r (wr.setCell ⟨B,o,none⟩ v):=h.below a ((Below.refl _ _).setCell (by exact b) v)
theorem Mk.start(d:gV w ao n cap zs)(c:n≤140737488351232):Mk ao n cap zs w (bJ 0 0 (.slice none 0 0) (.slice none 0 0) (.slice none 0 0)) ⟨0,0,0,0⟩ (((w.alloc (.cells (bJ 0 0 (.slice none 0 0) (.slice none 0 0) (.slice none 0 0)) 71)).alloc (uX (.slice ao n cap) ⟨0,0,0,0⟩)).alloc (.cells (bJ 0 0 (.slice none 0 0) (.slice none 0 0) (.slice none 0 0)) 71)):=by
 generalize f:Obj.cells (bJ 0 0 (.slice none 0 0) (.slice none 0 0) (.slice none 0 0)) 71=a;have b:Below w.heap.size w (((w.alloc a).alloc (uX (.slice ao n cap) ⟨0,0,0,0⟩)).alloc a):=((aG _ _).alloc (by simp) _).alloc (by simp;omega) _;have g:=heap_alloc_new (w.alloc a) (uX (.slice ao n cap) ⟨0,0,0,0⟩);rw[show(w.alloc a).heap.size=w.heap.size+1 from by simp]at g;have h:=heap_alloc_new ((w.alloc a).alloc (uX (.slice ao n cap) ⟨0,0,0,0⟩)) a;rw[show((w.alloc a).alloc (uX (.slice ao n cap) ⟨0,0,0,0⟩)).heap.size=w.heap.size+2 from by simp]at h;refine⟨?_,by rw[h,f],⟨?_,d.touch (aH.ofBelow (S:=fun _=>False) b) (fun _ _ _=>id),fun ad e c=>by have:=d.lt ad e c;omega,c,Nat.zero_le _⟩,b⟩
 ·rw[Below.heap_alloc _ _ _ (by simp;omega),Below.heap_alloc _ _ _ (by simp),heap_alloc_new,f]
 ·rw[Below.heap_alloc _ _ _ (by simp),g]
end
theorem Tryz.info124:(Tryz.prog.info? 124).map (fun i=>(i.zero,i.size,i.bytes))=some (some (.agg #[.bool false,.int .i64 0,.int .i64 0,.int .i64 0,.int .i64 0,.int .i64 0,.int .i64 0,.int .i64 0,.int .i64 0,.slice none 0 0]),10,96):=by kernel_rfl
theorem Tryz.info131:(Tryz.prog.info? 131).map (fun i=>(i.zero,i.size,i.bytes))=some (some (.agg #[.int .i64 0,.int .i64 0,.int .i64 0]),3,24):=by kernel_rfl
theorem Tryz.info142:(Tryz.prog.info? 142).map (fun i=>(i.zero,i.size,i.bytes))=some (some (.agg #[.int .i64 0,.int .i64 0,.int .i64 0]),3,24):=by kernel_rfl
theorem Hi(B:Nat)(W:World)(a:Nat)(b c d f g:Value):aH (·=B) W ((((((W.drewN a).setCell ⟨B,0,none⟩ b).setCell ⟨B,1,none⟩ c).setCell ⟨B,2,none⟩ d).setCell ⟨B,3,none⟩ f).setCell ⟨B,4,none⟩ g):=
 aH.trans (T:=(·=B)) (aH.trans (T:=(·=B)) (aH.trans (T:=(·=B)) (aH.trans (T:=(·=B)) (aH.trans (T:=(·=B)) (aH.ofDrewN W a) (aH.ofSet _ B 0 b rfl) (fun _ h=>.inl h)) (aH.ofSet _ B 1 c rfl) (fun _ h=>.inl h)) (aH.ofSet _ B 2 d rfl) (fun _ h=>.inl h)) (aH.ofSet _ B 3 f rfl) (fun _ h=>.inl h)) (aH.ofSet _ B 4 g rfl) (fun _ h=>.inl h)
theorem Hk(ao:Option Addr)(n cap:Nat)(zs:List Int)(w:World)(h7:gV w ao n cap zs)(w7:n≤140737488351232):
 Calls Tryz.prog 96 #[.slice ao n cap] w fun e w'=>∃q4 vW vC,e=.returned (.tuple #[.agg (bJ (bQ zs).1.frame (bQ zs).1.watch q4 vW vC),.int .i64 (bQ zs).2.1,.int .i64 (bQ zs).2.2])∧kA w.heap.size q4 vW vC (bQ zs).1 w'∧Below w.heap.size w w':=by
 obtain⟨w8,n1,w9,x0,x1⟩:=info_parts Tryz.info124;obtain⟨x2,x3,x4,x5,x6⟩:=info_parts Tryz.info131;obtain⟨x7,x8,x9,k4,g9⟩:=info_parts Tryz.info142;have a8:Hid (∀ad,ao=some ad→0<n→ad.block<w.heap.size):=h7.lt;have k5:=aI h7.bytes;have y0:=aI h7.len;have n2:=aI (Mk.start h7 w7);clear h7;have n3:=aI (eJ _ ao n cap zs ⟨0,0,0,0⟩ 72 72 _ n2.out.rd);simp only[bJ,uX]at n3
 go_enter Tryz.func96,Tryz.ntmps96
 go_wp2_with fail
 refine n3.out.mono ?_;rintro e bh ⟨rfl,q5,q6⟩;have k6:=aI (n2.out.byte q5 q6);clear q5 q6 n2 n3;generalize q7:(bS zs 72 72 ⟨0,0,0,0⟩).2=r1 at k6;have k7:=aI (eJ _ ao n cap zs r1 1 4 _ k6.out.rd);have y1:=jF zs 1 4 r1 (by omega);generalize q8:(bS zs 1 4 r1).1=a at k7 y1;generalize q9:(bS zs 1 4 r1).2=k8 at k7;have y2:=aI (And.intro q7 (And.intro q8 q9));clear q7 q8 q9;go_wp2_with fail
 refine k7.out.mono ?_;rintro e bi ⟨rfl,r0,r2⟩;have n4:=aI (k6.out.byte r0 r2);clear r0 r2 k6 k7;have k9:=aI (eJ _ ao n cap zs k8 1 64 _ n4.out.rd);have hF:=jF zs 1 64 k8 (by omega);generalize r3:(bS zs 1 64 k8).1=d at k9 hF;generalize r4:(bS zs 1 64 k8).2=l0 at k9;go_wp2_with fail
 refine k9.out.mono ?_;rintro e r5 ⟨rfl,r6,r7⟩;have l1:=aI (n4.out.byte r6 r7);have p0:r5.cell? ⟨w.heap.size+2,0,none⟩=some (.int .i64 0):=aD l1.out.cur;have y3:=aJ l1.out.cur 0;clear r6 r7 n4 k9;have n5:Hid (Mk ao n cap zs w (bJ d 0 (.slice none 0 0) (.slice none 0 0) (.slice none 0 0)) l0 (r5.setCell ⟨w.heap.size+2,0,none⟩ (.int .i64 d))):=l1.out.set a8.out 0 (.int .i64 d);have l2:=aI (eJ _ ao n cap zs l0 0 200 _ n5.out.rd);generalize r8:(bS zs 0 200 l0).1=F at l2;generalize r9:(bS zs 0 200 l0).2=V at l2;have y4:=aI (And.intro r3 (And.intro r4 (And.intro r8 r9)));clear r3 r4 r8 r9;go_wp2_with fail
 refine l2.out.mono ?_;rintro e s0 ⟨rfl,s1,s2⟩;have h8:=aI (n5.out.byte s1 s2);have p1:s0.cell? ⟨w.heap.size+2,1,none⟩=some (.int .i64 0):=aD h8.out.cur;have s3:=aJ h8.out.cur 1;clear s1 s2 n5 l2 l1 p0 y3;have n6:Hid (Mk ao n cap zs w (bJ d F (.slice none 0 0) (.slice none 0 0) (.slice none 0 0)) V (s0.setCell ⟨w.heap.size+2,1,none⟩ (.int .i64 F))):=h8.out.set a8.out 1 (.int .i64 F)
 go_upto_block 0 with fail
 go_cut [8,9]from 30 to 49 (fun s8 bj d0=>∃v,Mk ao n cap zs w (bJ d F v (.slice none 0 0) (.slice none 0 0)) (bH (dP zs) a.toNat V).2 d0∧fU (w.heap.size+3) v (bH (dP zs) a.toNat V).1 d0)
 case first=>
  go_wp2_with fail
  go_loopw [8] (fun i wr=>∃ (k:Nat) (v:Value),(k:Int)≤a∧i=.int .i64 k∧Mk ao n cap zs w (bJ d F v (.slice none 0 0) (.slice none 0 0)) (bH (dP zs) k V).2 wr∧fU (w.heap.size+3) v (bH (dP zs) k V).1 wr) (fun i _=>a.toNat-(intOf i).toNat)
  case atStart=>exact⟨0,_,by omega,rfl,n6.out,Bl _ _⟩
  case round=>
   obtain⟨k,v,n7,rfl,m,u⟩:=hrel;have h9:=lO (dP zs) k V;have c2:wr.cell? ⟨w.heap.size+1,2,none⟩=some (.int .i64 (bH (dP zs) k V).2.err):=aD m.rd.obj;have s4:w.heap.size+2<wr.heap.size:=lt_of_block m.cur
   by_cases a9:(k:Int)<a∧(bH (dP zs) k V).2.err=0
   ·obtain⟨s5,G⟩:=a9;have b5:=aI (jP (dP zs) k V G);have g2:((bH (dP zs) k V).2.err == 0)=true:=by simp[G]
    have l3:=aI (zU _ ao n cap zs (bH (dP zs) k V).2 wr m.rd);have d1:=aI (And.intro m u);clear G m u;generalize bH (dP zs) k V=Q at b5 g2 l3 d1 c2 h9;generalize dP zs Q.2=X at b5 l3;go_wp2_with fail
    refine l3.out.mono ?_;rintro e j ⟨b0,rfl,h0,f1,a0⟩;obtain⟨m,l,k4,g9,s6⟩:=d1.out;have s7:=a0.size;have y5:l.length=Q.1.length:=by rw[←k4,List.length_map]
    have bk:l.length≤100:=by omega
    clear y5;have b6:=m.byte f1 a0;have g3:j.ownsRow (w.heap.size+3) 124 10 v l.length (gO l):=aO g9 (fun b e=>a0.block b (World.ownsRow.lt g9 b e).2 (by have:=(World.ownsRow.lt g9 b e).1;omega));have i0:∀p∈l,lW (w.heap.size+3) p.2 p.1.procs j:=fun p e0=>(s6 p e0).keep (fun b o f _=>a0.block b f (by omega))
    have p2:j.cell? ⟨w.heap.size+2,2,none⟩=some v:=aD b6.cur;have s9:w.heap.size+2<j.heap.size:=by omega
    have f2:=aI (And.intro b6 (And.intro g3 (And.intro i0 h0)));have t0:=aI g3;have l4:Hid (∃ad i1 c,b0=.slice ad i1 c):=by
     obtain⟨y6,_,n8,_⟩:=h0;obtain⟨ad,c,h⟩:=bL n8;exact⟨_,_,_,h⟩
    obtain⟨i2,i3,i4,rfl⟩:=l4.out;clear m g9 s6 b6 g3 i0 h0 f1 a0 l4 d1 l3;simp only[aV];generalize t1:X.1.acts.getD 0 0=y7;generalize t2:X.1.acts.getD 1 0=y8;generalize t3:X.1.acts.getD 2 0=y9;generalize t4:X.1.acts.getD 3 0=z0;generalize t5:X.1.acts.getD 4 0=z1;generalize t6:X.1.acts.getD 5 0=z2;obtain⟨e1,i5⟩:∃e1:Array Value,e1=#[.bool X.1.sys,.int .i64 X.1.words,.int .i64 X.1.limit,.int .i64 y7,.int .i64 y8,.int .i64 y9,.int .i64 z0,.int .i64 z1,.int .i64 z2,.slice i2 i3 i4]:=⟨_,rfl⟩;have t7:Hid (e1=aV X.1.sys X.1.words X.1.limit (fun i=>X.1.acts.getD i 0) (.slice i2 i3 i4)):=by show _=_;rw[i5,←t1,←t2,←t3,←t4,←t5,←t6];rfl
    have t8:=aI i5;have e4:Hid (∀W:World,∀f3 b7,e1.toList[f3]?=some b7→((W.alloc (.cells e1 124)).alloc (.cells e1 124)).cell? ((⟨W.heap.size+1,0,none⟩:Addr).add f3)=some b7):=by
     intro W;have:=dA (W.alloc (.cells e1 124)) e1 124;rw[show(W.alloc (.cells e1 124)).heap.size=W.heap.size+1 from by simp]at this;exact this
    have n9:Hid (∀b7∈e1.toList,b7.oneCell'=true):=by
     intro b7 e5;rw[i5]at e5;simp at e5;rcases e5 with rfl| rfl| rfl| rfl| rfl| rfl| rfl| rfl| rfl| rfl<;>rfl
    rw[i5]at e4 n9;clear i5 t1 t2 t3 t4 t5 t6;go_wp2_with (at_builtin;go_must (refine wpList_append_lies _ rfl (.tmp 45) (.tmp 47) 67 rfl (w.heap.size+3) 124 w8 _ 10 96 Tryz.underlying67 n1 w9 x0 x1 rfl (by decide) v l.length (gO l) rfl ((t0.out.alloc _).alloc _) ⟨j.heap.size+1,0,none⟩ 1 1 _ (by rfl) rfl (e4.out j) n9.out (by omega) (by unfold maxLen;omega) (by omega) (by simp;omega) _ rfl ?_))
    intro g c I R f4 _ _;obtain⟨b6,g3,i0,h0⟩:=f2.out;have a4:=aZ (aZ f4);have t9:∀b,v.ownBlock=some b→w.heap.size+3≤b:=fun b e=>(World.ownsRow.lt g3 b e).1
    have f5:Below (w.heap.size+3) j I:=(Below.refl _ _).grown a4 (by omega) (fun k e=>t9 k e);have S:=b6.below a8.out f5;have u0:=a4.size;have o0:∀b,b<j.heap.size→(∃cur t,(t=210∨t=190)∧j.heap[b]?=some (.cells cur t (0,0)))→I.heap[b]?=j.heap[b]?:=by
     intro b b8 ⟨cur,t,Y,i6⟩;refine a4.block b b8 (fun e=>?_);obtain⟨o1,g4⟩:=cV g3 e.symm;rw[g4]at i6;rcases Y with rfl| rfl<;>simp at i6
    have l5:∀p∈l++[(X.1,Value.slice i2 i3 i4)],lW (w.heap.size+3) p.2 p.1.procs I:=by
     intro p e0;rcases List.mem_append.1 e0 with e0| e0
     ·exact(i0 p e0).keep (fun b _ f g5=>o0 b f g5)
     ·simp at e0;subst e0;exact(h0.base (show w.heap.size+3≤wr.heap.size from by omega)).keep (fun b _ f g5=>o0 b f g5)
    have u1:I.cell? ⟨w.heap.size+2,2,none⟩=some v:=aD S.cur;have bl:=aJ S.cur 2;have u2:I.ownsRow (w.heap.size+3) 124 10 (.slice (some ⟨g,0,none⟩) (l.length+1) c) (l.length+1) (gO l++(aV X.1.sys X.1.words X.1.limit (fun i=>X.1.acts.getD i 0) (.slice i2 i3 i4)).toList):=by rw[←t7.out,t8.out];exact R
    have i7:=aI (And.intro S (And.intro u2 l5));clear b6 g3 i0 h0 a4 t9 f5 S o0 l5 R u2 f4 f2 t0 p2 e4 n9 t7 t8;go_wp2
    go_roundw
    case rel=>
     obtain⟨S,R,l5⟩:=i7.out;have i8:=S.set a8.out 2 (.slice (some ⟨g,0,none⟩) (l.length+1) c);have e6:aH (·=w.heap.size+2) I (I.setCell ⟨w.heap.size+2,2,none⟩ (.slice (some ⟨g,0,none⟩) (l.length+1) c)):=aH.ofSet I _ 2 _ rfl;refine⟨k+1,.slice (some ⟨g,0,none⟩) (l.length+1) c,by omega,by go_num,by rw[b5.out];exact i8,?_⟩;rw[b5.out];refine⟨l++[(X.1,Value.slice i2 i3 i4)],by simp[k4],?_,fun p e0=>(l5 p e0).keep (fun b o f _=>e6.block b f (by omega))⟩;rw[rU,List.length_append];exact aO R (fun b e=>e6.block b (World.ownsRow.lt R b e).2 (by have:=(World.ownsRow.lt R b e).1;omega))
    case measure=>simp[intOf];omega
   ·have i9:((k:Int)<a∧((bH (dP zs) k V).2.err == 0)=false)∨¬ (k:Int)<a:=by
     by_cases J:(k:Int)<a
     ·exact .inl ⟨J,by simp;exact fun G=>a9 ⟨J,G⟩⟩
     ·exact .inr J
    have d2:bH (dP zs) a.toNat V=bH (dP zs) k V:=by
     by_cases J:(k:Int)<a
     ·exact fT (dP zs) k V (fun G=>a9 ⟨J,G⟩) a.toNat (by omega)
     ·obtain rfl:k=a.toNat:=by omega
      rfl
    have j0:Hid (∃v,Mk ao n cap zs w (bJ d F v (.slice none 0 0) (.slice none 0 0)) (bH (dP zs) a.toNat V).2 wr∧fU (w.heap.size+3) v (bH (dP zs) a.toNat V).1 wr):=⟨v,by rw[d2];exact m,by rw[d2];exact u⟩;clear a9 d2 m u n6 h8 p1 s3;rcases i9 with⟨J,u3⟩| J
    all_goals
     go_wp2_with fail
     go_meet
     exact j0.out
 case rest=>
 obtain⟨v,m,u⟩:=hcut;clear h8 n6 p1 s3;have u4:Hid (∃ad i1 c,v=.slice ad i1 c):=by
  obtain⟨y6,_,n8,_⟩:=u;obtain⟨ad,c,h⟩:=bL n8;exact⟨_,_,_,h⟩
 obtain⟨z,A,B,rfl⟩:=u4.out;generalize u5:bH (dP zs) a.toNat V=P at *;have o2:=aI m;have u6:=aI u;clear u4 m u;have l6:=aI (eJ _ ao n cap zs P.2 1 8 _ o2.out.rd);have z3:=jF zs 1 8 P.2 (by omega);generalize u7:(bS zs 1 8 P.2).1=a5 at l6 z3;generalize u8:(bS zs 1 8 P.2).2=z4 at l6;have z5:=aI (And.intro u5 (And.intro u7 u8));clear u5 u7 u8;go_wp2_with fail
 refine l6.out.mono ?_;rintro e z6 ⟨rfl,u9,o3⟩;have v0:=aI (o2.out.byte u9 o3);have v1:=aI (u6.out.keep (fun b o f _=>o3.block b f (by omega)));clear u9 o3 o2 u6 l6
 go_upto_block 2 with fail
 obtain⟨H,l7⟩:∃H:Rd,H={ z4 with fin:=0 }:=⟨_,rfl⟩;have o4:Hid (Mk ao n cap zs w (bJ d F (.slice z A B) (.slice none 0 0) (.slice none 0 0)) H z6):=by rw[l7];exact v0.out.fin 0
 have v2:H.fin=0:=by rw[l7]
 have z7:=aI l7;have o5:=aI v2;clear l7 v2 v0
 go_cut [11,12,13]from 52 to 94 (fun bm bn bo d0=>∃v,Mk ao n cap zs w (bJ d F (.slice z A B) v (.slice none 0 0)) (bH (cX zs a d) a5.toNat H).2 d0∧fU (w.heap.size+3) (.slice z A B) P.1 d0∧kF (w.heap.size+3) v (bH (cX zs a d) a5.toNat H).1 d0)
 case first=>
  go_wp2_with fail
  go_loopw [11,12] (fun s i wr=>∃ (k:Nat) (v:Value),(k:Int)≤a5∧i=.int .i64 k∧s=.int .i64 (bH (cX zs a d) k H).2.fin∧Mk ao n cap zs w (bJ d F (.slice z A B) v (.slice none 0 0)) (bH (cX zs a d) k H).2 wr∧fU (w.heap.size+3) (.slice z A B) P.1 wr∧kF (w.heap.size+3) v (bH (cX zs a d) k H).1 wr) (fun _ i _=>a5.toNat-(intOf i).toNat)
  case atStart=>exact⟨0,_,by omega,rfl,mS o5.out.symm,o4.out,v1.out,World.ownsRow_nil _ _ _ _⟩
  case round=>
   obtain⟨k,v,n7,rfl,rfl,m,L,u⟩:=hrel;have h9:=lO (cX zs a d) k H;have c2:wr.cell? ⟨w.heap.size+1,2,none⟩=some (.int .i64 (bH (cX zs a d) k H).2.err):=aD m.rd.obj;have s4:w.heap.size+2<wr.heap.size:=lt_of_block m.cur
   by_cases a9:(k:Int)<a5∧(bH (cX zs a d) k H).2.err=0
   ·obtain⟨s5,G⟩:=a9;have b5:=aI (jP (cX zs a d) k H G);have v3:=St zs a d H o5.out (by omega) k G;have g2:((bH (cX zs a d) k H).2.err == 0)=true:=by simp[G]
    have d3:=aI (eJ _ ao n cap zs (bH (cX zs a d) k H).2 0 (a-1) wr m.rd);have d1:=aI (And.intro m (And.intro L u));clear G m u L;generalize bH (cX zs a d) k H=Q at b5 g2 d3 d1 c2 h9 v3;have Z:Hid (cX zs a d Q.2=(⟨(bS zs 0 (a-1) Q.2).1,(bS zs Q.2.fin (d-1) (bS zs 0 (a-1) Q.2).2).1,(bS zs 1 (d-(bS zs Q.2.fin (d-1) (bS zs 0 (a-1) Q.2).2).1) (bS zs Q.2.fin (d-1) (bS zs 0 (a-1) Q.2).2).2).1⟩,
     { (bS zs 1 (d-(bS zs Q.2.fin (d-1) (bS zs 0 (a-1) Q.2).2).1) (bS zs Q.2.fin (d-1) (bS zs 0 (a-1) Q.2).2).2).2 with fin:=(bS zs Q.2.fin (d-1) (bS zs 0 (a-1) Q.2).2).1+(bS zs 1 (d-(bS zs Q.2.fin (d-1) (bS zs 0 (a-1) Q.2).2).1) (bS zs Q.2.fin (d-1) (bS zs 0 (a-1) Q.2).2).2).1 })):=rfl
    generalize (bS zs 0 (a-1) Q.2).1=M at Z d3;generalize (bS zs 0 (a-1) Q.2).2=f6 at Z d3;go_wp2_with fail
    refine d3.out.mono ?_;rintro e j ⟨rfl,f1,a0⟩;obtain⟨m,L,u⟩:=d1.out;have s7:=a0.size;have b6:=m.byte f1 a0;have c7:=L.keep (fun b o f _=>a0.block b f (by omega));have b9:j.ownsRow (w.heap.size+3) 131 3 v Q.1.length (gK Q.1):=eO u (fun b o f _=>a0.block b f (by omega));have j1:Below j.heap.size j (j.alloc (.cells #[.int .i64 M,.int .i64 0,.int .i64 0] 131)):=aG _ _;have c0:=b6.below a8.out (j1.mono (by omega));have z8:j.cell? ⟨w.heap.size+2,0,none⟩=some (.int .i64 d):=aD b6.cur;have s9:w.heap.size+2<j.heap.size:=by omega
    have e7:=aI (eJ _ ao n cap zs f6 Q.2.fin (d-1) _ c0.rd);have v4:=Az zs Q.2.fin (d-1) f6 k5.out v3.1 (by omega);generalize (bS zs Q.2.fin (d-1) f6).1=D at Z e7 v4;generalize (bS zs Q.2.fin (d-1) f6).2=e8 at Z e7;have f2:=aI (And.intro c0 (And.intro c7 b9));have c3:Hid (∀b,v.ownBlock=some b→w.heap.size+3≤b∧b<j.heap.size):=fun b e=>World.ownsRow.lt b9 b e
    clear m L u b6 c7 b9 j1 c0 f1 a0 d3 d1;go_wp2_with fail
    refine e7.out.mono ?_;rintro e y ⟨rfl,j2,d4⟩;obtain⟨c0,c7,b9⟩:=f2.out;have z9:j.heap.size+1≤y.heap.size:=by have:=d4.size;simp at this;exact this
    have h1:=c0.byte j2 d4;have f7:∀b,b<j.heap.size→b≠w.heap.size+1→y.heap[b]?=j.heap[b]?:=fun b o f=>(d4.block b (by simp;omega) f).trans (Below.heap_alloc _ _ _ o)
    have O:y.heap[j.heap.size]?=some (.cells #[.int .i64 M,.int .i64 0,.int .i64 0] 131 (0,0)):=(d4.block _ (by simp) (by omega)).trans (heap_alloc_new j _);have b1:=c7.keep (w':=y) (fun b o f _=>f7 b f (by omega));have c4:y.ownsRow (w.heap.size+3) 131 3 v Q.1.length (gK Q.1):=eO b9 (fun b o f _=>f7 b f (by omega));have aa:y.cell? ⟨w.heap.size+2,0,none⟩=some (.int .i64 d):=aD h1.cur;have o6:y.cell? ⟨j.heap.size,1,none⟩=some (.int .i64 0):=aD O;have o7:=aJ O 1;have ab:¬j.heap.size=w.heap.size+2:=by omega
    have ac:¬w.heap.size+2=j.heap.size:=by omega
    obtain⟨b2,a6⟩:∃b2,b2=y.setCell ⟨j.heap.size,1,none⟩ (.int .i64 D):=⟨_,rfl⟩;have a7:Mk ao n cap zs w (bJ d F (.slice z A B) v (.slice none 0 0)) e8 b2:=by rw[a6];exact h1.setHigh a8.out _ 1 _ (by omega)
    have c5:b2.heap[j.heap.size]?=some (.cells #[.int .i64 M,.int .i64 D,.int .i64 0] 131 (0,0)):=by rw[a6];exact aK O 1 _
    have c6:aH (·=j.heap.size) y b2:=by rw[a6];exact aH.ofSet y _ 1 _ rfl
    have ae:b2.heap.size=y.heap.size:=by rw[a6];simp
    have bp:0≤D∧D≤255:=v4;have e2:=aI (eJ _ ao n cap zs e8 1 (d-D) _ a7.rd);rw[a6]at e2;have l4:=Az zs 1 (d-D) e8 k5.out (by omega) (by omega);generalize (bS zs 1 (d-D) e8).1=b0 at Z e2 l4;generalize (bS zs 1 (d-D) e8).2=o8 at Z e2;have h2:=aI (And.intro a7 (And.intro c5 (And.intro c6 (And.intro b1 (And.intro c4 O)))));have j3:=aI a6;clear c0 c7 b9 h1 f7 O b1 c4 a6 a7 c5 c6 j2 d4 e7 f2;go_wp2_with fail
    refine e2.out.mono ?_;rintro e x ⟨rfl,j4,d5⟩;rw[←j3.out]at d5;obtain⟨a7,c5,c6,b1,c4,O⟩:=h2.out;have af:=d5.size;have g6:=a7.byte j4 d5;have b3:x.heap[j.heap.size]?=some (.cells #[.int .i64 M,.int .i64 D,.int .i64 0] 131 (0,0)):=(d5.block _ (by omega) (by omega)).trans c5;have f8:∀b,b<y.heap.size→b≠j.heap.size→b≠w.heap.size+1→x.heap[b]?=y.heap[b]?:=fun b o f g5=>(d5.block b (by omega) g5).trans (c6.block b o f)
    have h3:=b1.keep (w':=x) (fun b o f ⟨cur,t,Y,E⟩=>f8 b f (fun b8=>by rw[b8,O]at E;rcases Y with rfl| rfl| rfl<;>simp at E) (by omega));have j5:x.ownsRow (w.heap.size+3) 131 3 v Q.1.length (gK Q.1):=aO c4 (fun b e=>f8 b (by have:=(c3.out b e).2;omega) (by have:=(c3.out b e).2;omega) (by have:=(c3.out b e).1;omega));have o9:x.cell? ⟨j.heap.size,0,none⟩=some (.int .i64 M):=aD b3;have p3:x.cell? ⟨j.heap.size,1,none⟩=some (.int .i64 D):=aD b3;have p4:x.cell? ⟨j.heap.size,2,none⟩=some (.int .i64 0):=aD b3;have p5:=aJ b3 2;have ag:x.cell? ⟨w.heap.size+2,3,none⟩=some v:=aD g6.cur;obtain⟨N,d6⟩:∃N,N=x.setCell ⟨j.heap.size,2,none⟩ (.int .i64 b0):=⟨_,rfl⟩;have d7:Mk ao n cap zs w (bJ d F (.slice z A B) v (.slice none 0 0)) o8 N:=by rw[d6];exact g6.setHigh a8.out _ 2 _ (by omega)
    have f9:aH (·=j.heap.size) x N:=by rw[d6];exact aH.ofSet x _ 2 _ rfl
    have p6:N.heap.size=x.heap.size:=by rw[d6];simp
    have b4:N.ownsRow (w.heap.size+3) 131 3 v Q.1.length (gK Q.1):=aO j5 (fun b e=>f9.block b (by have:=(c3.out b e).2;omega) (by have:=(c3.out b e).2;omega));have c8:=h3.keep (w':=N) (fun b o f ⟨cur,t,Y,E⟩=>f9.block b f (fun b8=>by rw[b8,b3]at E;rcases Y with rfl| rfl| rfl<;>simp at E));have j6:=aI (And.intro d7 (And.intro c8 b4));have j7:=aI b4;have d8:=aI d6;have e4:Hid (∀f3 b7,[Value.int .i64 M,.int .i64 D,.int .i64 b0][f3]?=some b7→(N.alloc (.cells #[.int .i64 M,.int .i64 D,.int .i64 b0] 131)).cell? ((⟨x.heap.size,0,none⟩:Addr).add f3)=some b7):=by
     rw[←p6];exact dA N #[.int .i64 M,.int .i64 D,.int .i64 b0] 131
    clear a7 c5 c6 b1 c4 O g6 b3 f8 h3 j5 d6 d7 f9 b4 c8 j4 d5 e2 h2 j3 z8 aa o6 o7;go_wp2_with (at_builtin;go_must (refine wpList_append_lies _ rfl (.tmp 90) (.tmp 92) 68 rfl (w.heap.size+3) 131 x2 _ 3 24 Tryz.underlying68 x3 x4 x5 x6 rfl (by decide) v Q.1.length (gK Q.1) rfl (by rw[←d8.out];exact j7.out.alloc _) ⟨x.heap.size,0,none⟩ 1 1 [.int .i64 M,.int .i64 D,.int .i64 b0] (by rfl) rfl (by rw[←d8.out];exact e4.out) (by intro b7 e5;simp at e5;rcases e5 with rfl| rfl| rfl<;>rfl) (by omega) (by unfold maxLen;omega) (by omega) (by rw[←d8.out];simp;omega) _ rfl ?_))
    rw[←d8.out];intro g c I R f4 _ _;obtain⟨d7,c8,b4⟩:=j6.out;have a4:=aZ f4;have f5:Below (w.heap.size+3) N I:=(Below.refl _ _).grown a4 (by omega) (fun k e=>(c3.out k e).1);have S:=d7.below a8.out f5;have e3:=c8.keep (w':=I) (fun b o f ⟨cur,t,Y,E⟩=>a4.block b f (fun e=>by obtain⟨o1,g4⟩:=cV b4 e.symm;rw[g4]at E;rcases Y with rfl| rfl| rfl<;>simp at E));have v5:I.cell? ⟨w.heap.size+2,3,none⟩=some v:=aD S.cur;have ah:=aJ S.cur 3;have u0:=a4.size;have i7:=aI (And.intro S (And.intro e3 R));clear d7 c8 b4 a4 f5 S e3 R f4 j6 j7 e4 d8 o9 p3 p4 ag p5;go_wp2
    go_roundw
    case rel=>
     obtain⟨S,e3,R⟩:=i7.out;have i8:=(S.set a8.out 3 (.slice (some ⟨g,0,none⟩) (Q.1.length+1) c)).fin (D+b0);have e6:aH (·=w.heap.size+2) I (I.setCell ⟨w.heap.size+2,3,none⟩ (.slice (some ⟨g,0,none⟩) (Q.1.length+1) c)):=aH.ofSet I _ 3 _ rfl;refine⟨k+1,.slice (some ⟨g,0,none⟩) (Q.1.length+1) c,by omega,by go_num,by rw[b5.out,Z.out],by rw[b5.out,Z.out];exact i8,e3.keep (fun b o f _=>e6.block b f (by omega)),?_⟩;rw[b5.out,Z.out];show World.ownsRow _ _ _ _ _ _ _
     rw[rV,List.length_append];exact aO R (fun b e=>e6.block b (World.ownsRow.lt R b e).2 (by have:=(World.ownsRow.lt R b e).1;omega))
    case measure=>simp[intOf];omega
   ·have i9:((k:Int)<a5∧((bH (cX zs a d) k H).2.err == 0)=false)∨¬ (k:Int)<a5:=by
     by_cases J:(k:Int)<a5
     ·exact .inl ⟨J,by simp;exact fun G=>a9 ⟨J,G⟩⟩
     ·exact .inr J
    have d2:bH (cX zs a d) a5.toNat H=bH (cX zs a d) k H:=by
     by_cases J:(k:Int)<a5
     ·exact fT (cX zs a d) k H (fun G=>a9 ⟨J,G⟩) a5.toNat (by omega)
     ·obtain rfl:k=a5.toNat:=by omega
      rfl
    have j0:Hid (∃v,Mk ao n cap zs w (bJ d F (.slice z A B) v (.slice none 0 0)) (bH (cX zs a d) a5.toNat H).2 wr∧fU (w.heap.size+3) (.slice z A B) P.1 wr∧kF (w.heap.size+3) v (bH (cX zs a d) a5.toNat H).1 wr):=⟨v,by rw[d2];exact m,L,by rw[d2];exact u⟩;clear a9 d2 m u L o4;rcases i9 with⟨J,u3⟩| J
    all_goals
     go_wp2_with fail
     go_meet
     exact j0.out
 case rest=>
 obtain⟨v,m,L,u⟩:=hcut;clear o4;obtain⟨a1,a2,rfl⟩:=bL u;generalize v6:bH (cX zs a d) a5.toNat H=W at *;have p7:=aI m;have p8:=aI (And.intro L u);clear m L u v1 o5;have l8:=aI (eJ _ ao n cap zs W.2 0 4 _ p7.out.rd);have ai:=jF zs 0 4 W.2 (by omega);generalize v7:(bS zs 0 4 W.2).1=K at l8 ai;generalize v8:(bS zs 0 4 W.2).2=U at l8;have aj:=aI (And.intro v6 (And.intro v7 v8));clear v6 v7 v8;go_wp2_with fail
 refine l8.out.mono ?_;rintro e v9 ⟨rfl,w0,l9⟩;have p9:=aI (p7.out.byte w0 l9);have w1:Hid (fU (w.heap.size+3) (.slice z A B) P.1 v9∧kF (w.heap.size+3) (.slice a1 W.1.length a2) W.1 v9):=⟨p8.out.1.keep (fun b o f _=>l9.block b f (by omega)),eO p8.out.2 (fun b o f _=>l9.block b f (by omega))⟩;clear w0 l9 p7 p8 l8
 go_upto_block 4 with fail
 go_cut [14,15]from 97 to 133 (fun bq br d0=>∃v,Mk ao n cap zs w (bJ d F (.slice z A B) (.slice a1 W.1.length a2) v) (bH (fN zs a) K.toNat U).2 d0∧(fU (w.heap.size+3) (.slice z A B) P.1 d0∧kF (w.heap.size+3) (.slice a1 W.1.length a2) W.1 d0)∧yW (w.heap.size+3) v (bH (fN zs a) K.toNat U).1 d0)
 case first=>
  go_wp2_with fail
  go_loopw [14] (fun i wr=>∃ (k:Nat) (v:Value),(k:Int)≤K∧i=.int .i64 k∧Mk ao n cap zs w (bJ d F (.slice z A B) (.slice a1 W.1.length a2) v) (bH (fN zs a) k U).2 wr∧(fU (w.heap.size+3) (.slice z A B) P.1 wr∧kF (w.heap.size+3) (.slice a1 W.1.length a2) W.1 wr)∧yW (w.heap.size+3) v (bH (fN zs a) k U).1 wr) (fun i _=>K.toNat-(intOf i).toNat)
  case atStart=>exact⟨0,_,by omega,rfl,p9.out,w1.out,World.ownsRow_nil _ _ _ _⟩
  case round=>
   obtain⟨k,v,n7,rfl,m,L,u⟩:=hrel;have h9:=lO (fN zs a) k U;have c2:wr.cell? ⟨w.heap.size+1,2,none⟩=some (.int .i64 (bH (fN zs a) k U).2.err):=aD m.rd.obj;have s4:w.heap.size+2<wr.heap.size:=lt_of_block m.cur
   by_cases a9:(k:Int)<K∧(bH (fN zs a) k U).2.err=0
   ·obtain⟨s5,G⟩:=a9;have b5:=aI (jP (fN zs a) k U G);have g2:((bH (fN zs a) k U).2.err == 0)=true:=by simp[G]
    have d3:=aI (eJ _ ao n cap zs (bH (fN zs a) k U).2 0 (a-1) wr m.rd);have d1:=aI (And.intro m (And.intro L u));clear G m u L;generalize bH (fN zs a) k U=Q at b5 g2 d3 d1 c2 h9;have Z:Hid (fN zs a Q.2=(⟨(bS zs 0 (a-1) Q.2).1,(bS zs 0 (a-1) (bS zs 0 (a-1) Q.2).2).1,(bS zs 1 4 (gN (bS zs 0 (a-1) (bS zs 0 (a-1) Q.2).2).1 (bS zs 0 (a-1) Q.2).1 (bS zs 0 (a-1) (bS zs 0 (a-1) Q.2).2).2)).1⟩,
     (bS zs 1 4 (gN (bS zs 0 (a-1) (bS zs 0 (a-1) Q.2).2).1 (bS zs 0 (a-1) Q.2).1 (bS zs 0 (a-1) (bS zs 0 (a-1) Q.2).2).2)).2)):=rfl
    generalize (bS zs 0 (a-1) Q.2).1=M at Z d3;generalize (bS zs 0 (a-1) Q.2).2=f6 at Z d3;go_wp2_with fail
    refine d3.out.mono ?_;rintro e j ⟨rfl,f1,a0⟩;obtain⟨m,L,u⟩:=d1.out;have s7:=a0.size;have b6:=m.byte f1 a0;have c7:fU (w.heap.size+3) (.slice z A B) P.1 j∧kF (w.heap.size+3) (.slice a1 W.1.length a2) W.1 j:=⟨L.1.keep (fun b o f _=>a0.block b f (by omega)),eO L.2 (fun b o f _=>a0.block b f (by omega))⟩;have b9:j.ownsRow (w.heap.size+3) 142 3 v Q.1.length (fS Q.1):=eO u (fun b o f _=>a0.block b f (by omega));have j1:Below j.heap.size j (j.alloc (.cells #[.int .i64 M,.int .i64 0,.int .i64 0] 142)):=aG _ _;have c0:=b6.below a8.out (j1.mono (by omega));have s9:w.heap.size+2<j.heap.size:=by omega
    have e7:=aI (eJ _ ao n cap zs f6 0 (a-1) _ c0.rd);generalize (bS zs 0 (a-1) f6).1=D at Z e7;generalize (bS zs 0 (a-1) f6).2=e8 at Z e7;have f2:=aI (And.intro c0 (And.intro c7 b9));have c3:Hid (∀b,v.ownBlock=some b→w.heap.size+3≤b∧b<j.heap.size):=fun b e=>World.ownsRow.lt b9 b e
    clear m L u b6 c7 b9 j1 c0 f1 a0 d3 d1;go_wp2_with fail
    refine e7.out.mono ?_;rintro e y ⟨rfl,j2,d4⟩;obtain⟨c0,c7,b9⟩:=f2.out;have z9:j.heap.size+1≤y.heap.size:=by have:=d4.size;simp at this;exact this
    have h1:=c0.byte j2 d4;have f7:∀b,b<j.heap.size→b≠w.heap.size+1→y.heap[b]?=j.heap[b]?:=fun b o f=>(d4.block b (by simp;omega) f).trans (Below.heap_alloc _ _ _ o)
    have O:y.heap[j.heap.size]?=some (.cells #[.int .i64 M,.int .i64 0,.int .i64 0] 142 (0,0)):=(d4.block _ (by simp) (by omega)).trans (heap_alloc_new j _);have b1:fU (w.heap.size+3) (.slice z A B) P.1 y∧kF (w.heap.size+3) (.slice a1 W.1.length a2) W.1 y:=⟨c7.1.keep (fun b o f _=>f7 b f (by omega)),eO c7.2 (fun b o f _=>f7 b f (by omega))⟩;have c4:y.ownsRow (w.heap.size+3) 142 3 v Q.1.length (fS Q.1):=eO b9 (fun b o f _=>f7 b f (by omega));have ak:y.cell? ⟨j.heap.size,0,none⟩=some (.int .i64 M):=aD O;have o6:y.cell? ⟨j.heap.size,1,none⟩=some (.int .i64 0):=aD O;have o7:=aJ O 1;have ab:¬j.heap.size=w.heap.size+2:=by omega
    have ac:¬w.heap.size+2=j.heap.size:=by omega
    obtain⟨b2,a6⟩:∃b2,b2=y.setCell ⟨j.heap.size,1,none⟩ (.int .i64 D):=⟨_,rfl⟩;have a7:Mk ao n cap zs w (bJ d F (.slice z A B) (.slice a1 W.1.length a2) v) e8 b2:=by rw[a6];exact h1.setHigh a8.out _ 1 _ (by omega)
    have c5:b2.heap[j.heap.size]?=some (.cells #[.int .i64 M,.int .i64 D,.int .i64 0] 142 (0,0)):=by rw[a6];exact aK O 1 _
    have c6:aH (·=j.heap.size) y b2:=by rw[a6];exact aH.ofSet y _ 1 _ rfl
    have ae:b2.heap.size=y.heap.size:=by rw[a6];simp
    have m0:=aI (Ck _ ao n cap zs e8 D M _ a7.rd);rw[a6]at m0;generalize gN D M e8=q0 at Z m0;have h2:=aI (And.intro a7 (And.intro c5 (And.intro c6 (And.intro b1 (And.intro c4 O)))));have j3:=aI a6;clear c0 c7 b9 h1 f7 O b1 c4 a6 a7 c5 c6 j2 d4 e7 f2;go_wp2_with fail
    refine m0.out.mono ?_;rintro e bs ⟨rfl,w2,g0⟩;rw[←j3.out]at g0;obtain⟨a7,c5,c6,b1,c4,O⟩:=h2.out;have bt:=g0.size;have h4:=a7.byte w2 g0;have e2:=aI (eJ _ ao n cap zs q0 1 4 _ h4.rd);generalize (bS zs 1 4 q0).1=b0 at Z e2;generalize (bS zs 1 4 q0).2=o8 at Z e2;have w3:=aI (And.intro h4 g0);clear a7 c5 c6 b1 c4 O h4 w2 g0 m0;go_wp2_with fail
    refine e2.out.mono ?_;rintro e x ⟨rfl,j4,d5⟩;obtain⟨a7,c5,c6,b1,c4,O⟩:=h2.out;obtain⟨h4,g0⟩:=w3.out;have af:=d5.size;have g6:=h4.byte j4 d5;have q1:aH (·=w.heap.size+1) b2 x:=aH.trans (T:=(·=w.heap.size+1)) g0 d5 (fun i n1=>.inl n1);have b3:x.heap[j.heap.size]?=some (.cells #[.int .i64 M,.int .i64 D,.int .i64 0] 142 (0,0)):=(q1.block _ (by omega) (by omega)).trans c5;have f8:∀b,b<y.heap.size→b≠j.heap.size→b≠w.heap.size+1→x.heap[b]?=y.heap[b]?:=fun b o f g5=>(q1.block b (by omega) g5).trans (c6.block b o f)
    have h3:fU (w.heap.size+3) (.slice z A B) P.1 x∧kF (w.heap.size+3) (.slice a1 W.1.length a2) W.1 x:=⟨b1.1.keep (fun b o f ⟨cur,t,Y,E⟩=>f8 b f (fun b8=>by rw[b8,O]at E;rcases Y with rfl| rfl| rfl<;>simp at E) (by omega)),eO b1.2 (fun b o f ⟨cur,t,Y,E⟩=>f8 b f (fun b8=>by rw[b8,O]at E;subst Y;simp at E) (by omega))⟩;have j5:x.ownsRow (w.heap.size+3) 142 3 v Q.1.length (fS Q.1):=aO c4 (fun b e=>f8 b (by have:=(c3.out b e).2;omega) (by have:=(c3.out b e).2;omega) (by have:=(c3.out b e).1;omega));have o9:x.cell? ⟨j.heap.size,0,none⟩=some (.int .i64 M):=aD b3;have p3:x.cell? ⟨j.heap.size,1,none⟩=some (.int .i64 D):=aD b3;have p4:x.cell? ⟨j.heap.size,2,none⟩=some (.int .i64 0):=aD b3;have p5:=aJ b3 2;have al:x.cell? ⟨w.heap.size+2,4,none⟩=some v:=aD g6.cur;obtain⟨N,d6⟩:∃N,N=x.setCell ⟨j.heap.size,2,none⟩ (.int .i64 b0):=⟨_,rfl⟩;have d7:Mk ao n cap zs w (bJ d F (.slice z A B) (.slice a1 W.1.length a2) v) o8 N:=by rw[d6];exact g6.setHigh a8.out _ 2 _ (by omega)
    have f9:aH (·=j.heap.size) x N:=by rw[d6];exact aH.ofSet x _ 2 _ rfl
    have p6:N.heap.size=x.heap.size:=by rw[d6];simp
    have b4:N.ownsRow (w.heap.size+3) 142 3 v Q.1.length (fS Q.1):=aO j5 (fun b e=>f9.block b (by have:=(c3.out b e).2;omega) (by have:=(c3.out b e).2;omega));have c8:fU (w.heap.size+3) (.slice z A B) P.1 N∧kF (w.heap.size+3) (.slice a1 W.1.length a2) W.1 N:=⟨h3.1.keep (fun b o f ⟨cur,t,Y,E⟩=>f9.block b f (fun b8=>by rw[b8,b3]at E;rcases Y with rfl| rfl| rfl<;>simp at E)),eO h3.2 (fun b o f ⟨cur,t,Y,E⟩=>f9.block b f (fun b8=>by rw[b8,b3]at E;subst Y;simp at E))⟩;have j6:=aI (And.intro d7 (And.intro c8 b4));have j7:=aI b4;have d8:=aI d6;have e4:Hid (∀f3 b7,[Value.int .i64 M,.int .i64 D,.int .i64 b0][f3]?=some b7→(N.alloc (.cells #[.int .i64 M,.int .i64 D,.int .i64 b0] 142)).cell? ((⟨x.heap.size,0,none⟩:Addr).add f3)=some b7):=by
     rw[←p6];exact dA N #[.int .i64 M,.int .i64 D,.int .i64 b0] 142
    clear a7 c5 c6 b1 c4 O h4 g0 g6 b3 f8 q1 h3 j5 d6 d7 f9 b4 c8 j4 d5 e2 h2 w3 j3 ak o6 o7;go_wp2_with (at_builtin;go_must (refine wpList_append_lies _ rfl (.tmp 129) (.tmp 131) 69 rfl (w.heap.size+3) 142 x7 _ 3 24 Tryz.underlying69 x8 x9 k4 g9 rfl (by decide) v Q.1.length (fS Q.1) rfl (by rw[←d8.out];exact j7.out.alloc _) ⟨x.heap.size,0,none⟩ 1 1 [.int .i64 M,.int .i64 D,.int .i64 b0] (by rfl) rfl (by rw[←d8.out];exact e4.out) (by intro b7 e5;simp at e5;rcases e5 with rfl| rfl| rfl<;>rfl) (by omega) (by unfold maxLen;omega) (by omega) (by rw[←d8.out];simp;omega) _ rfl ?_))
    rw[←d8.out];intro g c I R f4 _ _;obtain⟨d7,c8,b4⟩:=j6.out;have a4:=aZ f4;have f5:Below (w.heap.size+3) N I:=(Below.refl _ _).grown a4 (by omega) (fun k e=>(c3.out k e).1);have S:=d7.below a8.out f5;have e3:fU (w.heap.size+3) (.slice z A B) P.1 I∧kF (w.heap.size+3) (.slice a1 W.1.length a2) W.1 I:=⟨c8.1.keep (fun b o f ⟨cur,t,Y,E⟩=>a4.block b f (fun e=>by obtain⟨o1,g4⟩:=cV b4 e.symm;rw[g4]at E;rcases Y with rfl| rfl| rfl<;>simp at E)),eO c8.2 (fun b o f ⟨cur,t,Y,E⟩=>a4.block b f (fun e=>by obtain⟨o1,g4⟩:=cV b4 e.symm;rw[g4]at E;subst Y;simp at E))⟩;have w4:I.cell? ⟨w.heap.size+2,4,none⟩=some v:=aD S.cur;have am:=aJ S.cur 4;have u0:=a4.size;have i7:=aI (And.intro S (And.intro e3 R));clear d7 c8 b4 a4 f5 S e3 R f4 j6 j7 e4 d8 o9 p3 p4 al p5;go_wp2
    go_roundw
    case rel=>
     obtain⟨S,e3,R⟩:=i7.out;have i8:=S.set a8.out 4 (.slice (some ⟨g,0,none⟩) (Q.1.length+1) c);have e6:aH (·=w.heap.size+2) I (I.setCell ⟨w.heap.size+2,4,none⟩ (.slice (some ⟨g,0,none⟩) (Q.1.length+1) c)):=aH.ofSet I _ 4 _ rfl;refine⟨k+1,.slice (some ⟨g,0,none⟩) (Q.1.length+1) c,by omega,by go_num,by rw[b5.out,Z.out];exact i8,⟨e3.1.keep (fun b o f _=>e6.block b f (by omega)),eO e3.2 (fun b o f _=>e6.block b f (by omega))⟩,?_⟩;rw[b5.out,Z.out];show World.ownsRow _ _ _ _ _ _ _
     rw[qD,List.length_append];exact aO R (fun b e=>e6.block b (World.ownsRow.lt R b e).2 (by have:=(World.ownsRow.lt R b e).1;omega))
    case measure=>simp[intOf];omega
   ·have i9:((k:Int)<K∧((bH (fN zs a) k U).2.err == 0)=false)∨¬ (k:Int)<K:=by
     by_cases J:(k:Int)<K
     ·exact .inl ⟨J,by simp;exact fun G=>a9 ⟨J,G⟩⟩
     ·exact .inr J
    have d2:bH (fN zs a) K.toNat U=bH (fN zs a) k U:=by
     by_cases J:(k:Int)<K
     ·exact fT (fN zs a) k U (fun G=>a9 ⟨J,G⟩) K.toNat (by omega)
     ·obtain rfl:k=K.toNat:=by omega
      rfl
    have j0:Hid (∃v,Mk ao n cap zs w (bJ d F (.slice z A B) (.slice a1 W.1.length a2) v) (bH (fN zs a) K.toNat U).2 wr∧(fU (w.heap.size+3) (.slice z A B) P.1 wr∧kF (w.heap.size+3) (.slice a1 W.1.length a2) W.1 wr)∧yW (w.heap.size+3) v (bH (fN zs a) K.toNat U).1 wr):=⟨v,by rw[d2];exact m,L,by rw[d2];exact u⟩;clear a9 d2 m u L p9;rcases i9 with⟨J,u3⟩| J
    all_goals
     go_wp2_with fail
     go_meet
     exact j0.out
 case rest=>
 obtain⟨v,m,L,u⟩:=hcut;clear p9 w1;obtain⟨q2,q3,rfl⟩:=bL u;have an:Hid (pG zs=(⟨d,F,P.1,W.1,(bH (fN zs a) K.toNat U).1⟩,(bH (fN zs a) K.toNat U).2)):=by
  show _=_
  obtain⟨ap,u1,v5⟩:=y2.out;obtain⟨w4,aq,ar,au⟩:=y4.out;obtain⟨av,aw,ax⟩:=z5.out;have ay:=z7.out;obtain⟨az,ba,bb⟩:=aj.out;unfold pG;simp only[ap,u1,v5,w4,aq,ar,au,av,aw,ax,←ay,az,ba,bb]
 generalize bH (fN zs a) K.toNat U=C at *;have e9:Hid (bQ zs=if C.2.err≠0 then(nE,C.2.pl,C.2.err)else if zs.length<C.2.pos+4 then(nE,(zs.length:Int),2)else if bF 0 ((zs.drop C.2.pos).take 4)≠eN (zs.take C.2.pos)then(nE,(C.2.pos:Int),5)else if C.2.pos+4<zs.length then(nE,(C.2.pos:Int)+4,4)else(⟨d,F,P.1,W.1,C.1⟩,0,0)):=by
  show _=_
  unfold bQ;simp only[an.out]
 have d9:=m.zero;have i6:=m.cur;have m1:=m.rd.obj;have c1:wc.cell? ⟨w.heap.size+1,1,none⟩=some (.int .i64 C.2.pos):=aD m1;have c2:wc.cell? ⟨w.heap.size+1,2,none⟩=some (.int .i64 C.2.err):=aD m1;have bu:wc.cell? ⟨w.heap.size+1,3,none⟩=some (.int .i64 C.2.pl):=aD m1;have j8:wc.cell? ⟨w.heap.size,0,none⟩=some (.int .i64 0):=aD d9;have j9:wc.cell? ⟨w.heap.size,1,none⟩=some (.int .i64 0):=aD d9;have k0:wc.cell? ⟨w.heap.size,2,none⟩=some (.slice none 0 0):=aD d9;have k1:wc.cell? ⟨w.heap.size,3,none⟩=some (.slice none 0 0):=aD d9;have k2:wc.cell? ⟨w.heap.size,4,none⟩=some (.slice none 0 0):=aD d9;have bv:=aJ d9 0;have bw:=aJ d9 1;have bx:=aJ d9 2;have ah:=aJ d9 3;have am:=aJ d9 4;have bz:=m.rd.pos;have bc:=y0.out;have ca:=lt_of_block i6;have a3:=aI (And.intro m (And.intro L u));have cb:Hid (∀w',Below w.heap.size w w'→kA w.heap.size (.slice none 0 0) (.slice none 0 0) (.slice none 0 0) nE w'):=fun w' _=>pT _ _
 have m2:Hid (∀W (b:Below w.heap.size w W),Below w.heap.size w (((((W.setCell ⟨w.heap.size,0,none⟩ (.int .i64 0)).setCell ⟨w.heap.size,1,none⟩ (.int .i64 0)).setCell ⟨w.heap.size,2,none⟩ (.slice none 0 0)).setCell ⟨w.heap.size,3,none⟩ (.slice none 0 0)).setCell ⟨w.heap.size,4,none⟩ (.slice none 0 0))):=fun W b=>((((b.setCell (Nat.le_refl _) _).setCell (Nat.le_refl _) _).setCell (Nat.le_refl _) _).setCell (Nat.le_refl _) _).setCell (Nat.le_refl _) _
 clear m L u d9 i6 m1;have m3:wc.cell? ⟨w.heap.size+2,0,none⟩=some (.int .i64 d):=aD a3.out.1.cur;have m4:wc.cell? ⟨w.heap.size+2,1,none⟩=some (.int .i64 F):=aD a3.out.1.cur;have m5:wc.cell? ⟨w.heap.size+2,2,none⟩=some (.slice z A B):=aD a3.out.1.cur;have m6:wc.cell? ⟨w.heap.size+2,3,none⟩=some (.slice a1 W.1.length a2):=aD a3.out.1.cur;have m7:wc.cell? ⟨w.heap.size+2,4,none⟩=some (.slice q2 C.1.length q3):=aD a3.out.1.cur
 by_cases c9:C.2.err=0
 ·have g2:(C.2.err != 0)=false:=by simp[c9]
  by_cases g1:zs.length<C.2.pos+4
  ·have f0:Hid (bQ zs=(nE,(n:Int),2)):=by show _=_;rw[e9.out,if_neg (by simpa using c9),if_pos g1,bc]
   have bd:(n:Int)<(C.2.pos:Int)+4:=by omega
   clear c9 g1 e9 m3 m4 m5 m6 m7;go_wp2
   refine bodyPost_ret (v:=.tuple #[.agg (bJ 0 0 (.slice none 0 0) (.slice none 0 0) (.slice none 0 0)),.int .i64 n,.int .i64 2]) (by simp[results,Tryz.results96,go_sem,bJ,j8,j9,k0,k1,k2]) rfl ?_;rw[f0.out];exact⟨_,_,_,rfl,pT _ _,m2.out _ a3.out.1.bel⟩
  ·have bd:(C.2.pos:Int)+4≤(n:Int):=by omega
   obtain⟨b,m8,be,k3⟩:=pY a3.out.1.rd.held (by omega);have cc:=a3.out.1.rd.held.cap1;have cd:=a3.out.1.rd.held.cap2;have ce:(C.2.pos:Int)+4≤(cap:Int):=by omega
   have cf:¬cap=C.2.pos:=by omega
   have cg:(0:Int)≤(C.2.pos:Int):=by omega
   have ch:(C.2.pos:Int)≤(C.2.pos:Int)+4:=by omega
   have ci:(C.2.pos:Int)≤(cap:Int):=by omega
   have h5:Hid (∀q c,Calls Tryz.prog 135 #[.slice (some ⟨b,m8+C.2.pos,none⟩) 4 c] (wc.drewN q) fun e w'=>e=.returned (.int .i64 (bF 0 ((zs.drop C.2.pos).take 4):Nat))∧∃i1,w'=(wc.drewN q).drewN i1):=fun q c=>rM b m8 C.2.pos c zs (wc.drewN q) k5.out (k3.drewN q) (by omega)
   have h6:Hid (∀q c,Calls Tryz.prog 136 #[.slice (some ⟨b,m8,none⟩) C.2.pos c] (wc.drewN q) fun e w'=>e=.returned (.int .i64 (eN (zs.take C.2.pos):Nat))∧w'=wc.drewN q):=fun q c=>by
    have:=pE b m8 0 C.2.pos c zs (wc.drewN q) k5.out (k3.drewN q) (by omega) (by omega)
    simpa using this
   subst be
   by_cases g7:bF 0 ((zs.drop C.2.pos).take 4)=eN (zs.take C.2.pos)
   ·have g8:(((bF 0 ((zs.drop C.2.pos).take 4):Nat):Int) != ((eN (zs.take C.2.pos):Nat):Int))=false:=by simp[g7]
    by_cases m9:C.2.pos+4<zs.length
    ·have f0:Hid (bQ zs=(nE,(C.2.pos:Int)+4,4)):=by show _=_;rw[e9.out,if_neg (by simpa using c9),if_neg g1,if_neg (by simpa using g7),if_pos m9]
     have bf:(C.2.pos:Int)+4<(n:Int):=by omega
     generalize bF 0 ((zs.drop C.2.pos).take 4)=w5 at h5 g8;generalize eN (zs.take C.2.pos)=w6 at h6 g8;clear c9 g1 g7 m9 e9 m3 m4 m5 m6 m7 k3;go_wp2
     go_quiet ((first| (go_at_call 135;exact Calls.quiet_of (h5.out _ _))| (go_at_call 136;exact Calls.quiet_of_same (h6.out _ _))))
     go_wp2
     go_region
     all_goals
      go_wp2
      refine bodyPost_ret (v:=.tuple #[.agg (bJ 0 0 (.slice none 0 0) (.slice none 0 0) (.slice none 0 0)),.int .i64 ((C.2.pos:Int)+4),.int .i64 4]) (by simp[results,Tryz.results96,go_sem,bJ,j8,j9,k0,k1,k2]) rfl ?_;rw[f0.out];exact⟨_,_,_,rfl,pT _ _,m2.out _ (below_drewN a3.out.1.bel _)⟩
    ·have f0:Hid (bQ zs=(⟨d,F,P.1,W.1,C.1⟩,0,0)):=by show _=_;rw[e9.out,if_neg (by simpa using c9),if_neg g1,if_neg (by simpa using g7),if_neg m9]
     have bf:¬ (C.2.pos:Int)+4<(n:Int):=by omega
     have bg:Hid (∀n0,aH (·=w.heap.size) wc n0→kA w.heap.size (.slice z A B) (.slice a1 W.1.length a2) (.slice q2 C.1.length q3) ⟨d,F,P.1,W.1,C.1⟩ n0∧Below w.heap.size w n0):=fun n0 t=>⟨((⟨a3.out.2.1.1,a3.out.2.1.2,a3.out.2.2⟩:kA (w.heap.size+3) _ _ _ ⟨d,F,P.1,W.1,C.1⟩ wc).keep (fun b o f=>t.block b f (by omega))).base (by omega),a3.out.1.bel.trans (t.below a3.out.1.bel.size (fun k n7=>by omega))⟩
     generalize bF 0 ((zs.drop C.2.pos).take 4)=w5 at h5 g8;generalize eN (zs.take C.2.pos)=w6 at h6 g8;clear c9 g1 g7 m9 e9 k3;go_wp2
     go_quiet ((first| (go_at_call 135;exact Calls.quiet_of (h5.out _ _))| (go_at_call 136;exact Calls.quiet_of_same (h6.out _ _))))
     go_wp2
     refine bodyPost_ret (v:=.tuple #[.agg (bJ d F (.slice z A B) (.slice a1 W.1.length a2) (.slice q2 C.1.length q3)),.int .i64 0,.int .i64 0]) (by simp[results,Tryz.results96,go_sem,bJ,j8,j9,k0,k1,k2]) rfl ?_;rw[f0.out];exact⟨_,_,_,rfl,bg.out _ (Hi _ _ _ _ _ _ _ _)⟩
   ·have g8:(((bF 0 ((zs.drop C.2.pos).take 4):Nat):Int) != ((eN (zs.take C.2.pos):Nat):Int))=true:=by rw[bne_iff_ne];omega
    have f0:Hid (bQ zs=(nE,(C.2.pos:Int),5)):=by show _=_;rw[e9.out,if_neg (by simpa using c9),if_neg g1,if_pos (by simpa using g7)]
    generalize bF 0 ((zs.drop C.2.pos).take 4)=w5 at h5 g8;generalize eN (zs.take C.2.pos)=w6 at h6 g8;clear c9 g1 g7 e9 m3 m4 m5 m6 m7 k3;go_wp2
    go_quiet ((first| (go_at_call 135;exact Calls.quiet_of (h5.out _ _))| (go_at_call 136;exact Calls.quiet_of_same (h6.out _ _))))
    go_wp2
    go_region
    all_goals
     go_wp2
     refine bodyPost_ret (v:=.tuple #[.agg (bJ 0 0 (.slice none 0 0) (.slice none 0 0) (.slice none 0 0)),.int .i64 (C.2.pos:Int),.int .i64 5]) (by simp[results,Tryz.results96,go_sem,bJ,j8,j9,k0,k1,k2]) rfl ?_;rw[f0.out];exact⟨_,_,_,rfl,pT _ _,m2.out _ (below_drewN a3.out.1.bel _)⟩
 ·have f0:Hid (bQ zs=(nE,C.2.pl,C.2.err)):=by show _=_;rw[e9.out,if_pos c9]
  have g2:(C.2.err != 0)=true:=by simpa using c9
  clear c9 m3 m4 m5 m6 m7;go_wp2
  go_region
  all_goals
   go_wp2
   refine bodyPost_ret (v:=.tuple #[.agg (bJ 0 0 (.slice none 0 0) (.slice none 0 0) (.slice none 0 0)),.int .i64 C.2.pl,.int .i64 C.2.err]) (by simp[results,Tryz.results96,go_sem,bJ,j8,j9,k0,k1,k2]) rfl ?_;rw[f0.out];exact⟨_,_,_,rfl,pT _ _,(m2.out _ a3.out.1.bel).drew⟩
end
section
open Go.RowKit
def xE(w:World)(ao:Option Addr)(a:List Int):Prop:=∀i,i<a.length→∃b c,ao=some ⟨b,c,none⟩∧w.cell? ⟨b,c+i,none⟩=some (.int .i64 (a.getD i 0))
theorem Nk(w:World):xE w none []:=fun i a=>by simp at a
theorem Oa(ao:Option Addr)(cap:Nat)(a:List Int)(x:Int)(w:World)(l:xE w ao a)(G:a.length≤140737488351232):
 Calls Tryz.prog 162 #[.slice ao a.length cap,.int .i64 x] w fun e w'=>(∃c:Int,e=.returned (.int .i64 c)∧(0≤c↔x∈a))∧w'=w:=by
 have q:=aI l;clear l
 go_enter Tryz.func162,Tryz.ntmps162
 go_wp2
 go_loop [8] (fun i=>∃k:Nat,k≤a.length∧i=.int .i64 k∧∀c,c<k→a.getD c 0≠x) (fun i=>a.length-(intOf i).toNat)
 case atStart=>exact⟨0,by omega,rfl,fun c s=>by omega⟩
 case round=>
  obtain⟨k,H,rfl,f⟩:=hrel
  by_cases m:k<a.length
  ·obtain⟨b,I,u,v⟩:=q.out k m;subst u;have y:=aI f;have o:Hid (a.getD k 0∈a):=by show _∈_;rw[List.getD_eq_getElem?_getD,List.getElem?_eq_getElem m];simp
   have p:Hid (∃z,z=a.getD k 0):=⟨_,rfl⟩;clear f;obtain⟨z,g⟩:=p.out;rw[←g]at v o;have A:=aI g;clear g p
   by_cases d:x=z
   ·have B:(x == z)=true:=by simp[d]
    have j:=aI d;clear d;go_wp2
    go_ret
    exact⟨⟨k,rfl,by rw[j.out];exact⟨fun _=>o.out,fun _=>by omega⟩⟩,rfl⟩
   ·have B:(x == z)=false:=by simpa using d
    have j:=aI d;clear d;go_wp2
    go_round
    case rel=>
     refine⟨k+1,by omega,by go_num,fun c s=>?_⟩;rcases Nat.lt_or_ge c k with h| h
     ·exact y.out c h
     ·obtain rfl:c=k:=by omega
      rw[←A.out];exact fun e=>j.out e.symm
    case measure=>simp[intOf];omega
  ·have C:Hid (x∉a):=by
    intro D;obtain⟨i,E,F⟩:=List.getElem_of_mem D;exact f i (by omega) (by rw[List.getD_eq_getElem?_getD,List.getElem?_eq_getElem E];simpa using F)
   clear f;go_wp2
   go_ret
   exact⟨⟨-1,rfl,⟨fun h=>by omega,fun h=>absurd h C.out⟩⟩,rfl⟩
theorem De(ao:Option Addr)(cap:Nat)(a:List Int)(x:Int)(w:World)(b:xE w ao a)(d:a.length≤140737488351232):
 Calls Tryz.prog 117 #[.slice ao a.length cap,.int .i64 x] w fun e w'=>e=.returned (.bool (decide (x∈a)))∧w'=w:=by
 have f:=aI (Oa ao cap a x w b d);clear b
 go_enter Tryz.func117,Tryz.ntmps117
 go_wp2_with fail
 refine f.out.mono ?_;rintro e h ⟨⟨i,rfl,c⟩,rfl⟩;have g:=aI c;clear c;go_wp2
 go_ret
 refine⟨yI ?_,rfl⟩;rw[Bool.eq_iff_iff];simp[g.out]
structure Rs where
 pos:Nat
 err:Int
def cN(zs:List Int)(a b:Int)(c:List Int)(s:Rs):Int×Rs:=
 if s.err≠0 then(0,s)
 else if zs.length≤s.pos then(0,{ s with err:=2 })
 else if zs.getD s.pos 0<a∨b<zs.getD s.pos 0∨zs.getD s.pos 0∈c then(0,{ s with err:=3 })
 else(zs.getD s.pos 0,{ s with pos:=s.pos+1 })
theorem eU(zs:List Int)(a b:Int)(c:List Int)(s:Rs)(d:cT zs):0≤(cN zs a b c s).1∧(cN zs a b c s).1≤255:=by
 unfold cN;split
 ·simp
 ·split
  ·simp
  ·split
   ·simp
   ·have:=d.getD s.pos;simp only;omega
theorem uJ(zs:List Int)(c a:Int)(d:List Int)(s:Rs)(b:0≤a):(cN zs c a d s).1≤a:=by
 unfold cN;split
 ·exact b
 ·split
  ·exact b
  ·split
   ·exact b
   ·simp only;omega
def Kk(a:Value)(s:Rs):Obj:=.cells #[a,.int .i64 s.pos,.int .i64 s.err] 104 (0,0)
structure eE(rb:Nat)(ao:Option Addr)(n cap:Nat)(zs:List Int)(s:Rs)(w:World):Prop where
 obj:w.heap[rb]?=some (Kk (.slice ao n cap) s)
 held:gV w ao n cap zs
 apart:∀ad,ao=some ad→0<n→ad.block≠rb
 small:n≤140737488351232
 pos:s.pos≤n
theorem eE.keep{a:Nat}{ao:Option Addr}{n cap:Nat}{zs:List Int}{s:Rs}{w w':World}(h:eE a ao n cap zs s w){S:Nat→Prop}(t:aH S w w')(b:¬S a)(c:∀ad,ao=some ad→0<n→¬S ad.block):eE a ao n cap zs s w':=
 ⟨(t.block a (lt_of_block h.obj) b).trans h.obj,h.held.touch t c,h.apart,h.small,h.pos⟩
theorem pD(c:Nat)(ao:Option Addr)(n cap:Nat)(zs:List Int)(s:Rs)(j d:Int)(B:Option Addr)(G:Nat)(a:List Int)(w:World)(h:eE c ao n cap zs s w)(M:xE w B a)(N:a.length≤2):
 Calls Tryz.prog 80 #[.pointer (some ⟨c,0,none⟩),.int .i64 j,.int .i64 d,.slice B a.length G] w fun e w'=>e=.returned (.int .i64 (cN zs j d a s).1)∧eE c ao n cap zs (cN zs j d a s).2 w'∧aH (·=c) w w':=by
 have p:=h.obj;have a2:w.cell? ⟨c,0,none⟩=some (.slice ao n cap):=aD p;have c1:w.cell? ⟨c,1,none⟩=some (.int .i64 s.pos):=aD p;have c2:w.cell? ⟨c,2,none⟩=some (.int .i64 s.err):=aD p;have a3:=aJ p 1;have a4:=aJ p 2;have H:=h.held.len;have C:=h.pos;have a5:=h.small;have a6:(0:Int)≤(n:Int):=by omega
 have q:=aI h;have y:Hid (∀ (I:Rs) (w':World),w'.heap[c]?=some (Kk (.slice ao n cap) I)→aH (·=c) w w'→I.pos≤n→eE c ao n cap zs I w'):=fun r' w' Q R S=>⟨Q,q.out.held.touch R (fun ad e U V=>q.out.apart ad e U V),q.out.apart,q.out.small,S⟩
 have k:Hid (∀nq o v,aH (·=c) w ((w.drewN nq).setCell ⟨c,o,none⟩ v)):=fun nq o v=>aH.trans (T:=(·=c)) (aH.ofDrewN w nq) (aH.ofSet _ c o v rfl) (fun i d=>.inl d)
 have D:Hid (∀nq x,Calls Tryz.prog 117 #[.slice B a.length G,.int .i64 x] (w.drewN nq) fun e w'=>e=.returned (.bool (decide (x∈a)))∧w'=w.drewN nq):=fun nq x=>De B G a x (w.drewN nq) (fun i d=>by obtain⟨b,u,f,m⟩:=M i d;exact⟨b,u,f,m⟩) (by omega)
 have A:=aI p;have a7:=aI N;clear h p M N
 by_cases f:s.err=0
 ·have W:(s.err != 0)=false:=by simp[f]
  by_cases m:zs.length≤s.pos
  ·have l:Hid (cN zs j d a s=(0,{ s with err:=2 })):=by show _=_;unfold cN;rw[if_neg (by simpa using f),if_pos m]
   have X:(n:Int)≤(s.pos:Int):=by omega
   clear f m H
   go_enter Tryz.func80,Tryz.ntmps80
   go_wp2
   go_quiet (fail)
   go_wp2
   go_ret
   rw[l.out];refine⟨rfl,y.out _ _ ?_ (k.out _ _ _) C,k.out _ _ _⟩;rw[aK (w:=w.drewN nq) A.out 2 _];rfl
  ·have X:(s.pos:Int)<(n:Int):=by omega
   obtain⟨ad,b,u,E,Y,O⟩:∃ad b u,ao=some ad∧(ad=⟨b,u,none⟩∧w.cell? ⟨b,u+s.pos,none⟩=some (.int .u8 (zs.getD s.pos 0)))∧(0≤zs.getD s.pos 0∧zs.getD s.pos 0<256):=by
    obtain⟨b,u,E,Z⟩:=pY q.out.held (by omega);exact⟨_,b,u,E,⟨rfl,Z s.pos (by omega)⟩,q.out.held.bytes.getD s.pos⟩
   obtain⟨rfl,P⟩:=Y
   by_cases g:zs.getD s.pos 0<j∨d<zs.getD s.pos 0∨zs.getD s.pos 0∈a
   ·have l:Hid (cN zs j d a s=(0,{ s with err:=3 })):=by show _=_;unfold cN;rw[if_neg (by simpa using f),if_neg m,if_pos g]
    subst E;clear f m H;generalize zs.getD s.pos 0=z at P O g
    by_cases J:z<j
    ·clear g D
     go_enter Tryz.func80,Tryz.ntmps80
     go_wp2
     go_quiet (fail)
     go_wp2
     go_quiet (fail)
     go_wp2
     go_ret
     rw[l.out];refine⟨rfl,y.out _ _ ?_ (k.out _ _ _) C,k.out _ _ _⟩;rw[aK (w:=w.drewN _) A.out 2 _];rfl
    ·by_cases L:d<z
     ·clear g D
      go_enter Tryz.func80,Tryz.ntmps80
      go_wp2
      go_quiet (fail)
      go_wp2
      go_quiet (fail)
      go_wp2
      go_ret
      rw[l.out];refine⟨rfl,y.out _ _ ?_ (k.out _ _ _) C,k.out _ _ _⟩;rw[aK (w:=w.drewN _) A.out 2 _];rfl
     ·have F:decide (z∈a)=true:=by simpa[J,L]using g
      clear g
      go_enter Tryz.func80,Tryz.ntmps80
      go_wp2
      go_quiet (fail)
      go_wp2
      go_quiet (fail)
      go_wp2_with fail
      refine(D.out _ _).mono ?_;rintro e a0 ⟨rfl,rfl⟩;rw[F];go_wp2
      go_ret
      rw[l.out];refine⟨rfl,y.out _ _ ?_ (k.out _ _ _) C,k.out _ _ _⟩;rw[aK (w:=w.drewN _) A.out 2 _];rfl
   ·have l:Hid (cN zs j d a s=(zs.getD s.pos 0,{ s with pos:=s.pos+1 })):=by show _=_;unfold cN;rw[if_neg (by simpa using f),if_neg m,if_neg g]
    have a1:s.pos+1≤n:=by omega
    subst E;have J:¬zs.getD s.pos 0<j:=fun h=>g (.inl h)
    have L:¬d<zs.getD s.pos 0:=fun h=>g (.inr (.inl h))
    have F:decide (zs.getD s.pos 0∈a)=false:=by simpa using fun h=>g (.inr (.inr h))
    clear f m H g;generalize zs.getD s.pos 0=z at P O J L F l
    go_enter Tryz.func80,Tryz.ntmps80
    go_wp2
    go_quiet (fail)
    go_wp2
    go_quiet (fail)
    go_wp2_with fail
    refine(D.out _ _).mono ?_;rintro e a0 ⟨rfl,rfl⟩;rw[F];go_wp2
    go_ret
    rw[l.out];refine⟨rfl,y.out _ _ ?_ (k.out _ _ _) a1,k.out _ _ _⟩;rw[aK (w:=w.drewN _) A.out 1 _];rfl
 ·have W:(s.err != 0)=true:=by simpa using f
  have l:Hid (cN zs j d a s=(0,s)):=by show _=_;unfold cN;rw[if_pos f]
  clear f
  go_enter Tryz.func80,Tryz.ntmps80
  go_wp2
  go_ret
  rw[l.out];exact⟨rfl,q.out,aH.refl _ _⟩
end
theorem Pv(p1 p2:Nat)(many:Nat)(X:many≤255)(S:Nat→Prop)(w:World)(u:∀b,S b→b<w.heap.size)(c:Nat→List (Int×Int)→World→Prop)
 (x:∀d l wr w',c d l wr→aH (fun b=>w.heap.size≤b∧iO wr b (·=210)) wr w'→c d l w')
 (y:∀d l wr,d<many→c d l wr→Calls Tryz.prog 164 #[.pointer (some ⟨p1,0,none⟩),.pointer (some ⟨p2,0,none⟩)] wr fun e w'=>∃ (a b:Int),e=.returned (.agg #[.int .i64 a,.int .i64 b])∧c (d+1) (l++[(a,b)]) w'∧aH S wr w')
 (z:c 0 [] w):Calls Tryz.prog 163 #[.int .i64 many,.func (.func 164) #[] #[.pointer (some ⟨p1,0,none⟩),.pointer (some ⟨p2,0,none⟩)]] w fun e w'=>∃v l,e=.returned v∧c many l w'∧l.length=many∧w'.ownsRow w.heap.size 210 2 v l.length (iJ l):=by
 obtain⟨J,L,M,N,O⟩:=info_parts Tryz.info210;have A:=aI x;have P:=aI u;have B:=aI y;have n:=aI z;clear x u y z
 go_enter Tryz.func163,Tryz.ntmps163
 go_wp2
 go_loopw [5,7] (fun v i wr=>∃ (k:Nat) (l:List (Int×Int)),k≤many∧i=.int .i64 k∧l.length=k∧c k l wr∧w.heap.size≤wr.heap.size∧wr.ownsRow w.heap.size 210 2 v l.length (iJ l)) (fun _ i _=>many-(intOf i).toNat)
 case atStart=>exact⟨0,[],by omega,rfl,rfl,n.out,Nat.le_refl _,World.ownsRow_nil _ _ _ _⟩
 case round=>
  obtain⟨k,l,Y,rfl,h,j,Z,m⟩:=hrel
  by_cases Q:k<many
  ·have C:=aI (B.out k l wr Q j);have o:=aI m;have p:=aI h;clear j m h n;go_wp2_with fail
   refine C.out.mono ?_;rintro e f ⟨a,b,rfl,D,q⟩;have a0:=q.size;have r:Hid (f.ownsRow w.heap.size 210 2 u5 l.length (iJ l)):=aO o.out (fun b e=>q.block b (World.ownsRow.lt o.out b e).2 (fun R=>by have:=(World.ownsRow.lt o.out b e).1;have:=P.out b R;omega));have T:=aI D;clear D q C;go_wp2_with (at_builtin;go_must (refine wpList_append_lies _ rfl (.tmp 9) (.tmp 12) 162 rfl w.heap.size 210 J _ 2 16 Tryz.underlying162 L M N O rfl (by decide) u5 l.length (iJ l) rfl (r.out.alloc _) ⟨f.heap.size,0,none⟩ 1 1 #[.int .i64 a,.int .i64 b].toList (by rfl) rfl (dA f #[.int .i64 a,.int .i64 b] 210) (by intro a1 E;simp at E;rcases E with rfl| rfl<;>rfl) (by omega) (by have:=p.out;unfold maxLen;omega) (by have:=p.out;omega) (by simp;omega) _ rfl ?_))
   intro g a2 U F G _ _;have s:=aZ G;have a3:=s.size;have H:aH (fun b=>w.heap.size≤b∧iO f b (·=210)) f U:=aH.ofGrown s (fun b e=>.inl ⟨(World.ownsRow.lt r.out b e).1,by obtain⟨cur,V⟩:=cV r.out e;exact⟨cur,210,rfl,V⟩⟩);have I:=aI (And.intro (A.out _ _ _ _ T.out H) F);clear F G s H;go_wp2
   go_roundw
   case rel=>
    refine⟨k+1,l++[(a,b)],by omega,by go_num,by rw[List.length_append,p.out];rfl,I.out.1,by omega,?_⟩;rw[rS,List.length_append];exact I.out.2
   case measure=>simp[intOf];omega
  ·obtain rfl:k=many:=by omega
   have W:=aI (And.intro j (And.intro h m));clear j h m n B A;go_wp2
   go_ret
   exact⟨u5,l,rfl,W.out⟩
theorem Oc(y:Nat)(many:Nat)(a0:many≤255)(S:Nat→Prop)(w:World)(z:∀b,S b→b<w.heap.size)(a:Nat→List (Pr×Value)→World→Prop)
 (A:∀d l wr w',a d l wr→aH (fun b=>w.heap.size≤b∧iO wr b (·=190)) wr w'→a d l w')
 (B:∀d l wr,d<many→a d l wr→Calls Tryz.prog 120 #[.pointer (some ⟨y,0,none⟩)] wr fun e w'=>∃ (p:Pr) (ad:Option Addr) (f c:Nat),e=.returned (.agg #[.int .i64 p.prio,.slice ad f c])∧a (d+1) (l++[(p,.slice ad f c)]) w'∧aH S wr w')
 (C:a 0 [] w):Calls Tryz.prog 119 #[.int .i64 many,.func (.func 120) #[.pointer (some ⟨y,0,none⟩)] #[]] w fun e w'=>∃v l,e=.returned v∧a many l w'∧l.length=many∧w'.ownsRow w.heap.size 190 2 v l.length (eV l):=by
 obtain⟨N,O,P,Q,R⟩:=info_parts Tryz.info190;have D:=aI A;have T:=aI z;have E:=aI B;have o:=aI C;clear A z B C
 go_enter Tryz.func119,Tryz.ntmps119
 go_wp2
 go_loopw [5,7] (fun v i wr=>∃ (k:Nat) (l:List (Pr×Value)),k≤many∧i=.int .i64 k∧l.length=k∧a k l wr∧w.heap.size≤wr.heap.size∧wr.ownsRow w.heap.size 190 2 v l.length (eV l)) (fun _ i _=>many-(intOf i).toNat)
 case atStart=>exact⟨0,[],by omega,rfl,rfl,o.out,Nat.le_refl _,World.ownsRow_nil _ _ _ _⟩
 case round=>
  obtain⟨k,l,a1,rfl,j,m,a2,n⟩:=hrel
  by_cases U:k<many
  ·have F:=aI (E.out k l wr U m);have q:=aI n;have r:=aI j;clear m n j o;go_wp2_with fail
   refine F.out.mono ?_;rintro e h ⟨p,ad,f,c,rfl,G,s⟩;have a3:=s.size;have u:Hid (h.ownsRow w.heap.size 190 2 u5 l.length (eV l)):=aO q.out (fun b e=>s.block b (World.ownsRow.lt q.out b e).2 (fun V=>by have:=(World.ownsRow.lt q.out b e).1;have:=T.out b V;omega));have W:=aI G;clear G s F;go_wp2_with (at_builtin;go_must (refine wpList_append_lies _ rfl (.tmp 9) (.tmp 12) 122 rfl w.heap.size 190 N _ 2 32 Tryz.underlying122 O P Q R rfl (by decide) u5 l.length (eV l) rfl (u.out.alloc _) ⟨h.heap.size,0,none⟩ 1 1 #[.int .i64 p.prio,.slice ad f c].toList (by rfl) rfl (dA h #[.int .i64 p.prio,.slice ad f c] 190) (by intro a4 H;simp at H;rcases H with rfl| rfl<;>rfl) (by omega) (by have:=r.out;unfold maxLen;omega) (by have:=r.out;omega) (by simp;omega) _ rfl ?_))
   intro g a5 X I J _ _;have x:=aZ J;have a6:=x.size;have L:aH (fun b=>w.heap.size≤b∧iO h b (·=190)) h X:=aH.ofGrown x (fun b e=>.inl ⟨(World.ownsRow.lt u.out b e).1,by obtain⟨cur,Y⟩:=cV u.out e;exact⟨cur,190,rfl,Y⟩⟩);have M:=aI (And.intro (D.out _ _ _ _ W.out L) I);clear I J x L;go_wp2
   go_roundw
   case rel=>
    refine⟨k+1,l++[(p,.slice ad f c)],by omega,by go_num,by rw[List.length_append,r.out];rfl,M.out.1,by omega,?_⟩;rw[pV,List.length_append];exact M.out.2
   case measure=>simp[intOf];omega
  ·obtain rfl:k=many:=by omega
   have Z:=aI (And.intro m (And.intro j n));clear m j n o E D;go_wp2
   go_ret
   exact⟨u5,l,rfl,Z.out⟩
theorem No(y:Nat)(many:Nat)(a0:many≤255)(S:Nat→Prop)(w:World)(z:∀b,S b→b<w.heap.size)(a:Nat→List (Pt×Value)→World→Prop)
 (A:∀d l wr w',a d l wr→aH (fun b=>w.heap.size≤b∧iO wr b (·=124)) wr w'→a d l w')
 (B:∀d l wr,d<many→a d l wr→Calls Tryz.prog 82 #[.pointer (some ⟨y,0,none⟩)] wr fun e w'=>∃ (p:Pt) (ad:Option Addr) (f c:Nat),e=.returned (.agg #[.bool p.sys,.int .i64 p.words,.int .i64 p.limit,.int .i64 (p.acts.getD 0 0),.int .i64 (p.acts.getD 1 0),.int .i64 (p.acts.getD 2 0),.int .i64 (p.acts.getD 3 0),.int .i64 (p.acts.getD 4 0),.int .i64 (p.acts.getD 5 0),.slice ad f c])∧a (d+1) (l++[(p,.slice ad f c)]) w'∧aH S wr w')
 (C:a 0 [] w):Calls Tryz.prog 81 #[.int .i64 many,.func (.func 82) #[.pointer (some ⟨y,0,none⟩)] #[]] w fun e w'=>∃v l,e=.returned v∧a many l w'∧l.length=many∧w'.ownsRow w.heap.size 124 10 v l.length (gO l):=by
 obtain⟨N,O,P,Q,R⟩:=info_parts Tryz.info124;have D:=aI A;have T:=aI z;have E:=aI B;have o:=aI C;clear A z B C
 go_enter Tryz.func81,Tryz.ntmps81
 go_wp2
 go_loopw [5,7] (fun v i wr=>∃ (k:Nat) (l:List (Pt×Value)),k≤many∧i=.int .i64 k∧l.length=k∧a k l wr∧w.heap.size≤wr.heap.size∧wr.ownsRow w.heap.size 124 10 v l.length (gO l)) (fun _ i _=>many-(intOf i).toNat)
 case atStart=>exact⟨0,[],by omega,rfl,rfl,o.out,Nat.le_refl _,World.ownsRow_nil _ _ _ _⟩
 case round=>
  obtain⟨k,l,a1,rfl,j,m,a2,n⟩:=hrel
  by_cases U:k<many
  ·have F:=aI (E.out k l wr U m);have q:=aI n;have r:=aI j;clear m n j o;go_wp2_with fail
   refine F.out.mono ?_;rintro e h ⟨p,ad,f,c,rfl,G,s⟩;have a3:=s.size;have u:Hid (h.ownsRow w.heap.size 124 10 u5 l.length (gO l)):=aO q.out (fun b e=>s.block b (World.ownsRow.lt q.out b e).2 (fun V=>by have:=(World.ownsRow.lt q.out b e).1;have:=T.out b V;omega));have W:=aI G;clear G s F;go_wp2_with (at_builtin;go_must (refine wpList_append_lies _ rfl (.tmp 9) (.tmp 12) 67 rfl w.heap.size 124 N _ 10 96 Tryz.underlying67 O P Q R rfl (by decide) u5 l.length (gO l) rfl (u.out.alloc _) ⟨h.heap.size,0,none⟩ 1 1 #[.bool p.sys,.int .i64 p.words,.int .i64 p.limit,.int .i64 (p.acts.getD 0 0),.int .i64 (p.acts.getD 1 0),.int .i64 (p.acts.getD 2 0),.int .i64 (p.acts.getD 3 0),.int .i64 (p.acts.getD 4 0),.int .i64 (p.acts.getD 5 0),.slice ad f c].toList (by rfl) rfl (dA h #[.bool p.sys,.int .i64 p.words,.int .i64 p.limit,.int .i64 (p.acts.getD 0 0),.int .i64 (p.acts.getD 1 0),.int .i64 (p.acts.getD 2 0),.int .i64 (p.acts.getD 3 0),.int .i64 (p.acts.getD 4 0),.int .i64 (p.acts.getD 5 0),.slice ad f c] 124) (by intro a4 H;simp at H;rcases H with rfl| rfl| rfl| rfl| rfl| rfl| rfl| rfl| rfl| rfl<;>rfl) (by omega) (by have:=r.out;unfold maxLen;omega) (by have:=r.out;omega) (by simp;omega) _ rfl ?_))
   intro g a5 X I J _ _;have x:=aZ J;have a6:=x.size;have L:aH (fun b=>w.heap.size≤b∧iO h b (·=124)) h X:=aH.ofGrown x (fun b e=>.inl ⟨(World.ownsRow.lt u.out b e).1,by obtain⟨cur,Y⟩:=cV u.out e;exact⟨cur,124,rfl,Y⟩⟩);have M:=aI (And.intro (D.out _ _ _ _ W.out L) I);clear I J x L;go_wp2
   go_roundw
   case rel=>
    refine⟨k+1,l++[(p,.slice ad f c)],by omega,by go_num,by rw[List.length_append,r.out];rfl,M.out.1,by omega,?_⟩;rw[rU,List.length_append];exact M.out.2
   case measure=>simp[intOf];omega
  ·obtain rfl:k=many:=by omega
   have Z:=aI (And.intro m (And.intro j n));clear m j n o E D;go_wp2
   go_ret
   exact⟨u5,l,rfl,Z.out⟩
theorem Qj(p1 p2 p3 u:Nat)(many:Nat)(Y:many≤255)(S:Nat→Prop)(w:World)(x:∀b,S b→b<w.heap.size)(a:Nat→List (Wn)→World→Prop)
 (y:∀c l wr w',a c l wr→aH (fun b=>w.heap.size≤b∧iO wr b (·=131)) wr w'→a c l w')
 (z:∀c l wr,c<many→a c l wr→Calls Tryz.prog 122 #[.pointer (some ⟨p1,0,none⟩),.pointer (some ⟨p2,0,none⟩),.pointer (some ⟨p3,0,none⟩),.pointer (some ⟨u,0,none⟩)] wr fun e w'=>∃ (p:Wn),e=.returned (.agg #[.int .i64 p.part,.int .i64 p.first,.int .i64 p.many])∧a (c+1) (l++[p]) w'∧aH S wr w')
 (A:a 0 [] w):Calls Tryz.prog 121 #[.int .i64 many,.func (.func 122) #[] #[.pointer (some ⟨p1,0,none⟩),.pointer (some ⟨p2,0,none⟩),.pointer (some ⟨p3,0,none⟩),.pointer (some ⟨u,0,none⟩)]] w fun e w'=>∃v l,e=.returned v∧a many l w'∧l.length=many∧w'.ownsRow w.heap.size 131 3 v l.length (gK l):=by
 obtain⟨L,M,N,O,P⟩:=info_parts Tryz.info131;have B:=aI y;have Q:=aI x;have C:=aI z;have m:=aI A;clear y x z A
 go_enter Tryz.func121,Tryz.ntmps121
 go_wp2
 go_loopw [5,7] (fun v i wr=>∃ (k:Nat) (l:List (Wn)),k≤many∧i=.int .i64 k∧l.length=k∧a k l wr∧w.heap.size≤wr.heap.size∧wr.ownsRow w.heap.size 131 3 v l.length (gK l)) (fun _ i _=>many-(intOf i).toNat)
 case atStart=>exact⟨0,[],by omega,rfl,rfl,m.out,Nat.le_refl _,World.ownsRow_nil _ _ _ _⟩
 case round=>
  obtain⟨k,l,Z,rfl,f,h,a0,j⟩:=hrel
  by_cases R:k<many
  ·have D:=aI (C.out k l wr R h);have n:=aI j;have o:=aI f;clear h j f m;go_wp2_with fail
   refine D.out.mono ?_;rintro e d ⟨p,rfl,E,q⟩;have a1:=q.size;have r:Hid (d.ownsRow w.heap.size 131 3 u5 l.length (gK l)):=aO n.out (fun b e=>q.block b (World.ownsRow.lt n.out b e).2 (fun T=>by have:=(World.ownsRow.lt n.out b e).1;have:=Q.out b T;omega));have U:=aI E;clear E q D;go_wp2_with (at_builtin;go_must (refine wpList_append_lies _ rfl (.tmp 9) (.tmp 12) 68 rfl w.heap.size 131 L _ 3 24 Tryz.underlying68 M N O P rfl (by decide) u5 l.length (gK l) rfl (r.out.alloc _) ⟨d.heap.size,0,none⟩ 1 1 #[.int .i64 p.part,.int .i64 p.first,.int .i64 p.many].toList (by rfl) rfl (dA d #[.int .i64 p.part,.int .i64 p.first,.int .i64 p.many] 131) (by intro a2 F;simp at F;rcases F with rfl| rfl| rfl<;>rfl) (by omega) (by have:=o.out;unfold maxLen;omega) (by have:=o.out;omega) (by simp;omega) _ rfl ?_))
   intro g a3 V G H _ _;have s:=aZ H;have a4:=s.size;have I:aH (fun b=>w.heap.size≤b∧iO d b (·=131)) d V:=aH.ofGrown s (fun b e=>.inl ⟨(World.ownsRow.lt r.out b e).1,by obtain⟨cur,W⟩:=cV r.out e;exact⟨cur,131,rfl,W⟩⟩);have J:=aI (And.intro (B.out _ _ _ _ U.out I) G);clear G H s I;go_wp2
   go_roundw
   case rel=>
    refine⟨k+1,l++[p],by omega,by go_num,by rw[List.length_append,o.out];rfl,J.out.1,by omega,?_⟩;rw[rV,List.length_append];exact J.out.2
   case measure=>simp[intOf];omega
  ·obtain rfl:k=many:=by omega
   have X:=aI (And.intro h (And.intro f j));clear h f j m C B;go_wp2
   go_ret
   exact⟨u5,l,rfl,X.out⟩
theorem Mm(p1 p2:Nat)(many:Nat)(X:many≤255)(S:Nat→Prop)(w:World)(u:∀b,S b→b<w.heap.size)(a:Nat→List (Ch)→World→Prop)
 (x:∀c l wr w',a c l wr→aH (fun b=>w.heap.size≤b∧iO wr b (·=142)) wr w'→a c l w')
 (y:∀c l wr,c<many→a c l wr→Calls Tryz.prog 85 #[.pointer (some ⟨p1,0,none⟩),.pointer (some ⟨p2,0,none⟩)] wr fun e w'=>∃ (p:Ch),e=.returned (.agg #[.int .i64 p.src,.int .i64 p.dst,.int .i64 p.depth])∧a (c+1) (l++[p]) w'∧aH S wr w')
 (z:a 0 [] w):Calls Tryz.prog 84 #[.int .i64 many,.func (.func 85) #[] #[.pointer (some ⟨p1,0,none⟩),.pointer (some ⟨p2,0,none⟩)]] w fun e w'=>∃v l,e=.returned v∧a many l w'∧l.length=many∧w'.ownsRow w.heap.size 142 3 v l.length (fS l):=by
 obtain⟨J,L,M,N,O⟩:=info_parts Tryz.info142;have A:=aI x;have P:=aI u;have B:=aI y;have m:=aI z;clear x u y z
 go_enter Tryz.func84,Tryz.ntmps84
 go_wp2
 go_loopw [5,7] (fun v i wr=>∃ (k:Nat) (l:List (Ch)),k≤many∧i=.int .i64 k∧l.length=k∧a k l wr∧w.heap.size≤wr.heap.size∧wr.ownsRow w.heap.size 142 3 v l.length (fS l)) (fun _ i _=>many-(intOf i).toNat)
 case atStart=>exact⟨0,[],by omega,rfl,rfl,m.out,Nat.le_refl _,World.ownsRow_nil _ _ _ _⟩
 case round=>
  obtain⟨k,l,Y,rfl,f,h,Z,j⟩:=hrel
  by_cases Q:k<many
  ·have C:=aI (B.out k l wr Q h);have n:=aI j;have o:=aI f;clear h j f m;go_wp2_with fail
   refine C.out.mono ?_;rintro e d ⟨p,rfl,D,q⟩;have a0:=q.size;have r:Hid (d.ownsRow w.heap.size 142 3 u5 l.length (fS l)):=aO n.out (fun b e=>q.block b (World.ownsRow.lt n.out b e).2 (fun R=>by have:=(World.ownsRow.lt n.out b e).1;have:=P.out b R;omega));have T:=aI D;clear D q C;go_wp2_with (at_builtin;go_must (refine wpList_append_lies _ rfl (.tmp 9) (.tmp 12) 69 rfl w.heap.size 142 J _ 3 24 Tryz.underlying69 L M N O rfl (by decide) u5 l.length (fS l) rfl (r.out.alloc _) ⟨d.heap.size,0,none⟩ 1 1 #[.int .i64 p.src,.int .i64 p.dst,.int .i64 p.depth].toList (by rfl) rfl (dA d #[.int .i64 p.src,.int .i64 p.dst,.int .i64 p.depth] 142) (by intro a1 E;simp at E;rcases E with rfl| rfl| rfl<;>rfl) (by omega) (by have:=o.out;unfold maxLen;omega) (by have:=o.out;omega) (by simp;omega) _ rfl ?_))
   intro g a2 U F G _ _;have s:=aZ G;have a3:=s.size;have H:aH (fun b=>w.heap.size≤b∧iO d b (·=142)) d U:=aH.ofGrown s (fun b e=>.inl ⟨(World.ownsRow.lt r.out b e).1,by obtain⟨cur,V⟩:=cV r.out e;exact⟨cur,142,rfl,V⟩⟩);have I:=aI (And.intro (A.out _ _ _ _ T.out H) F);clear F G s H;go_wp2
   go_roundw
   case rel=>
    refine⟨k+1,l++[p],by omega,by go_num,by rw[List.length_append,o.out];rfl,I.out.1,by omega,?_⟩;rw[qD,List.length_append];exact I.out.2
   case measure=>simp[intOf];omega
  ·obtain rfl:k=many:=by omega
   have W:=aI (And.intro h (And.intro f j));clear h f j m B A;go_wp2
   go_ret
   exact⟨u5,l,rfl,W.out⟩
end Go.Proofs.YtnjlbgolnbdkaaaGreat
