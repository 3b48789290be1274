/- All, with short names -/
import Derived.Test.YtnjlbgolnbdkaaaGreatP29
import Derived.Deep.RegionLaw
import Derived.Deep.RegionHeld
set_option maxRecDepth 100000
set_option maxHeartbeats 16000000
namespace Go.Proofs.YtnjlbgolnbdkaaaGreat
open Go Go.RowKit
section
open Go.RowKit Go.Shelf
attribute [local go_sem] Oper.semAt_some
theorem Ro.drewn{w:World}{a:eZ}{Q:Nat→Value}{g:Nat}{st:aQ}{F:Fl}(h:Ro w a Q g st F)(k:Nat):Ro (w.drewN k) a Q g st F:=h.keep (fun _ _=>rfl)
theorem Sj{w:World}{v:Value}{q:List Int}(h:Cm w v q):∃ad l c,v=.slice ad l c:=by
 obtain⟨ad,c,e⟩:=Cz h;exact⟨ad,_,c,e⟩
theorem Mw(f:eZ)(Q:Nat→Value)(g:Nat)(st:aQ)(F:Fl)(i n:Nat)(w:World)(h:Ro w f Q g st F)(k0:dY st)(y:i<st.parts.length)(T:n<(st.part i).procs.length)(c0:dO st i n=true):
 Calls Tryz.prog 181 #[.pointer (some ⟨f.kb,0,none⟩),.int .i64 i,.int .i64 n] w fun e w'=>e=.returned (.int .i64 (fR F.bs i n st).1)∧∃c1,Ro w' f c1 g (fR F.bs i n st).2 F∧aH (Rm f Q g st) w w'∧QG Q c1 w.heap.size:=by
 have a9:=k0.proc i n y T;have f0:(st.proc i n).stopped=false:=by
  cases e:(st.proc i n).stopped with
  | false=>rfl
  | true=>exfalso;unfold dO at c0;rw[e]at c0;simp at c0
 obtain⟨E,e2⟩:∃E:Nat,(st.proc i n).next=(E:Int):=⟨(st.proc i n).next.toNat,by have:=a9.next.1;omega⟩;have m4:E<(st.codeOf i n).length:=by
  rcases a9.next.2.2 with e| e
  ·rw[f0]at e;cases e
  ·rw[e2]at e;omega
 have q9:=h.ok.codeLen i n y T;obtain⟨op,a,m5,x1,x2,b7,r0,r2⟩:=h.ins i n E y T e2 m4;have k1:i<st.cf.parts.length:=by rw[←h.ok.len];exact y
 have r3:n<(st.cf.parts.getD i default).procs.length:=by rw[←(h.ok.part i y).2];exact T
 have r4:=h.ok.procsLen i y;have r5:=h.capR;have x3:=h.ok.good.few;have x4:(st.cf.parts.getD i default).procs.length≤2:=(h.ok.good.parts _ (dB k1)).few.2;have I:=h.ref.kAt 2;have X:=h.ref.kAt 6;simp only[cE,List.getElem?_toArray,List.getElem?_cons_succ,List.getElem?_cons_zero]at I X;have k2:=h.ref.rAt i 2 y (by omega);simp only[kK,List.getElem?_cons_succ,List.getElem?_cons_zero]at k2;have m6:=h.ref.conf.cAt i 9 k1 (by omega);simp only[vD,List.getElem?_cons_succ,List.getElem?_cons_zero]at m6;have h7:=h.ref.conf.qAt i n 1 k1 r3 (by omega);simp only[Ah,List.getElem?_cons_succ,List.getElem?_cons_zero]at h7;have m7:((st.cf.parts.getD i default).procs.getD n default).code.length=(st.codeOf i n).length:=rfl;rw[m7]at h7;have p0:=h.ref.pAt i n 0 y T (by omega);have p1:=h.ref.pAt i n 1 y T (by omega);have N:=h.ref.pAt i n 4 y T (by omega);simp only[bM,List.getElem?_cons_succ,List.getElem?_cons_zero,Nat.add_zero]at p0 p1 N;rw[e2]at p0;have r6:=dJ (h.ref.procs i y) (n*5);have f4:=dJ (h.ref.procs i y) (n*5+4);have x5:=fV (h.ref.procs i y);have x6:=lt_of_block h.ref.kern;have Y:=h.pset i n 0 (.int .i64 ((E:Int)+1)) { st.proc i n with next:=(E:Int)+1 } y T (by omega) rfl;obtain⟨d2,h8⟩:∃d2,d2=w.setCell ⟨f.pr i,n*5,none⟩ (.int .i64 ((E:Int)+1)):=⟨_,rfl⟩;have Y:Ro d2 f Q g (st.setProc i n { st.proc i n with next:=(E:Int)+1 }) F∧aH (Rm f Q g st) w d2:=by rw[h8];exact Y
 have m8:d2.heap.size=w.heap.size:=by rw[h8];simp[World.setCell]
 obtain⟨a4,f5⟩:∃a4,a4=d2.alloc (.cells #[.int .i64 op,.int .i64 a] 210):=⟨_,rfl⟩;have h9:Below d2.heap.size d2 a4:=aE f5;have i0:a4.heap[w.heap.size]?=some (.cells #[.int .i64 op,.int .i64 a] 210 (0,0)):=by rw[f5,←m8];exact heap_alloc_new d2 _
 have c9:=Y.1.mono h9;have m9:aH (Rm f Q g st) w a4:=Y.2.andThen (aH.ofBelow h9);have z:∀x,(st.setProc i n x).parts.length=st.parts.length∧(st.setProc i n x).cf=st.cf∧((st.setProc i n x).part i).procs.length=(st.part i).procs.length:=fun x=>⟨aQ.setPart_len _ _ _,rfl,by rw[aQ.part_setProc y];simp⟩
 have p:i<(st.setProc i n { st.proc i n with next:=(E:Int)+1 }).parts.length:=by rw[(z _).1];exact y
 have J:n<((st.setProc i n { st.proc i n with next:=(E:Int)+1 }).part i).procs.length:=by rw[(z _).2.2];exact T
 have i1:=c9.ref.pAt i n 0 p J (by omega);have i2:=c9.ref.pAt i n 1 p J (by omega);have f6:=c9.ref.pAt i n 4 p J (by omega);rw[aQ.proc_set y T]at i1 i2 f6;simp only[bM,List.getElem?_cons_succ,List.getElem?_cons_zero,Nat.add_zero]at i1 i2 f6;have r7:=dJ (c9.ref.procs i p) (n*5);have n0:=dJ (c9.ref.procs i p) (n*5+4);have C:a4.cell? ⟨w.heap.size,0,none⟩=some (.int .i64 op):=aD i0;obtain⟨d,f7⟩:∃d,d=st.setProc i n (st.follow i n (if(op:Int)=4∧(st.proc i n).acc≠0 then(a:Int)else(st.proc i n).next+1)):=⟨_,rfl⟩;obtain⟨P,k3⟩:∃P:World→Prop,P=fun W=>Ro W f Q g d F∧aH (Rm f Q g st) w W∧W.heap[w.heap.size]?=some (.cells #[.int .i64 op,.int .i64 a] 210 (0,0)):=⟨_,rfl⟩
 have i3:∀W,Ro W f Q g d F→aH (Rm f Q g st) a4 W→P W:=fun W A l=>by
  rw[k3];exact⟨A,m9.andThen l,(l.block _ (lt_of_block i0) (fun e=>by have:=h.lt _ e;omega)).trans i0⟩
 have i4:Hid (op=4→(st.proc i n).acc≠0→P (a4.setCell ⟨f.pr i,n*5,none⟩ (.int .i64 a))∧a<(st.codeOf i n).length∧(a4.setCell ⟨f.pr i,n*5,none⟩ (.int .i64 a)).cell? ⟨f.pr i,n*5,none⟩=some (.int .i64 a)∧(a4.setCell ⟨f.pr i,n*5,none⟩ (.int .i64 a)).cell? ⟨f.pr i,n*5+4,none⟩=some (.bool false)∧(a4.setCell ⟨f.pr i,n*5,none⟩ (.int .i64 a)).frozen? ⟨f.pr i,n*5+4,none⟩=false):=fun d3 f8=>by
  have l:=c9.pset i n 0 (.int .i64 a) { (st.setProc i n { st.proc i n with next:=(E:Int)+1 }).proc i n with next:=(a:Int) } p J (by omega) rfl;rw[aQ.setProc_set y,aQ.proc_set y T]at l;have c2:decide (((st.codeOf i n).length:Int)≤(a:Int))=false:=by have:=b7 d3;simp;omega
  have f9:=l.1.ref.pAt i n 0 (by rw[(z _).1];exact y) (by rw[(z _).2.2];exact T) (by omega);have f1:=l.1.ref.pAt i n 4 (by rw[(z _).1];exact y) (by rw[(z _).2.2];exact T) (by omega);rw[aQ.proc_set y T]at f9 f1;simp only[bM,List.getElem?_cons_succ,List.getElem?_cons_zero,Nat.add_zero]at f9 f1;rw[f0]at f1;have cf:=dJ (l.1.ref.procs i (by rw[(z _).1];exact y)) (n*5+4);have e:st.setProc i n { ({ st.proc i n with next:=(E:Int)+1 }:cQ)with next:=(a:Int) }=d:=by
   rw[f7,if_pos ⟨by omega,f8⟩]
   congr 1
   show(⟨(a:Int),(st.proc i n).acc,(st.proc i n).til,(st.proc i n).dl,(st.proc i n).stopped⟩:cQ)=⟨(a:Int),(st.proc i n).acc,(st.proc i n).til,(st.proc i n).dl,decide (((st.codeOf i n).length:Int)≤(a:Int))⟩
   rw[f0,c2]
  rw[e]at l;exact⟨i3 _ l.1 (l.2.to (fun b r=>(Rm.same (z _).1 (z _).2.1).1 r)),b7 d3,f9,f1,cf⟩
 have i5:Hid (¬ (op=4∧(st.proc i n).acc≠0)→(st.codeOf i n).length≤E+1→P (a4.setCell ⟨f.pr i,n*5+4,none⟩ (.bool true))):=fun d3 i6=>by
  have l:=c9.pset i n 4 (.bool true) { (st.setProc i n { st.proc i n with next:=(E:Int)+1 }).proc i n with stopped:=true } p J (by omega) rfl;rw[aQ.setProc_set y,aQ.proc_set y T]at l;have c2:decide (((st.codeOf i n).length:Int)≤(E:Int)+1)=true:=by simp;omega
  have e:st.setProc i n { ({ st.proc i n with next:=(E:Int)+1 }:cQ)with stopped:=true }=d:=by
   rw[f7,if_neg (fun h=>d3 ⟨by omega,h.2⟩),e2]
   congr 1
   show(⟨(E:Int)+1,(st.proc i n).acc,(st.proc i n).til,(st.proc i n).dl,true⟩:cQ)=⟨(E:Int)+1,(st.proc i n).acc,(st.proc i n).til,(st.proc i n).dl,decide (((st.codeOf i n).length:Int)≤(E:Int)+1)⟩
   rw[c2]
  rw[e]at l;exact i3 _ l.1 (l.2.to (fun b r=>(Rm.same (z _).1 (z _).2.1).1 r))
 have i7:Hid (¬ (op=4∧(st.proc i n).acc≠0)→E+1<(st.codeOf i n).length→P a4):=fun d3 i6=>by
  have c2:decide (((st.codeOf i n).length:Int)≤(E:Int)+1)=false:=by simp;omega
  have e:st.setProc i n { st.proc i n with next:=(E:Int)+1 }=d:=by
   rw[f7,if_neg (fun h=>d3 ⟨by omega,h.2⟩),e2]
   congr 1
   show(⟨(E:Int)+1,(st.proc i n).acc,(st.proc i n).til,(st.proc i n).dl,(st.proc i n).stopped⟩:cQ)=⟨(E:Int)+1,(st.proc i n).acc,(st.proc i n).til,(st.proc i n).dl,decide (((st.codeOf i n).length:Int)≤(E:Int)+1)⟩
   rw[c2,f0]
  rw[e]at c9;exact i3 _ c9 (aH.refl _ _)
 have n1:Hid (∀W,P W→Ro W f Q g d F∧aH (Rm f Q g st) w W∧W.heap[w.heap.size]?=some (.cells #[.int .i64 op,.int .i64 a] 210 (0,0))):=fun W G=>by rw[k3]at G;exact G
 have r8:=aI h8;have c3:=aI f7;have r9:=aI f5;have x7:=aI h;have s0:=aI k0;have i8:=aI m5;have x8:=aI e2;have s1:=aI c0;have n2:=aI z;have s2:=aI b7;clear i3 Y z c9 m9 i0 h9 f5 h8 m8 f7 m5 e2 a9 c0 k0 b7 h p J k3;obtain⟨u,j⟩:∃u,u=fR F.bs i n st:=⟨_,rfl⟩;rw[←j];have k4:=aI j;clear j;obtain⟨H,f8⟩:∃H,H=(st.proc i n).acc:=⟨_,rfl⟩;rw[←f8]at p1 i2 i4 i5 i7;obtain⟨len,k5⟩:∃len,len=(st.codeOf i n).length:=⟨_,rfl⟩;rw[←k5]at h7 i4 i5 i7 m4 q9 s2;obtain⟨i9,k6⟩:∃i9,i9=st.parts.length:=⟨_,rfl⟩;have x9:i<i9:=by omega
 have y0:i9≤4:=by omega
 rw[←k6]at X;obtain⟨j0,k7⟩:∃j0,j0=(st.part i).procs.length:=⟨_,rfl⟩;have y1:n<j0:=by omega
 have y2:j0≤2:=by omega
 rw[←k7]at k2;have s3:=aI f8;have y3:=aI k5;have s4:=aI k6;have y4:=aI k7;have s5:=aI y;have s6:=aI T;clear f8 k5 k6 k7 y T r5 r4;generalize st.cf.parts.length=y5 at *;generalize (st.cf.parts.getD i default).procs.length=y6 at *;rw[f0]at N f6;clear f0
 go_enter Tryz.func181,Tryz.ntmps181
 go_upto_region 6 with fail
 rw[←r8.out,←r9.out];clear p0 p1 N r6 f4
 go_cut [62]from 53 to 62 (fun v D=>v=.bool (decide (op=4∧H≠0))∧a4=D)
 case first=>
  by_cases b7:op=4
  ·subst b7
   by_cases d8:H=0
   ·subst d8;go_wp2_with fail
    go_meet
    exact⟨by simp,rfl⟩
   ·have s7:(H == 0)=false:=by simp[d8]
    have h9:(H != 0)=true:=by simp[d8]
    have k8:Hid (decide (4=4∧H≠0)=true):=by show _=_;simp[d8]
    clear d8;go_wp2_with fail
    go_meet
    exact⟨by rw[k8.out],rfl⟩
  ·have s7:((op:Int) == 4)=false:=by simp;omega
   have k8:Hid (decide (op=4∧H≠0)=false):=by show _=_;simp[b7]
   clear b7;go_wp2_with fail
   go_meet
   exact⟨by rw[k8.out],rfl⟩
 case rest=>
 obtain⟨rfl,rfl⟩:=hcut
 go_upto_if 62 with fail
 obtain⟨f2,j1⟩:∃f2:Nat→World→Prop,f2=fun a8 D=>D.cell? ⟨f.pr i,n*5,none⟩=some (.int .i64 a8)∧D.cell? ⟨f.pr i,n*5+4,none⟩=some (.bool false)∧D.frozen? ⟨f.pr i,n*5+4,none⟩=false∧(len≤a8→P (D.setCell ⟨f.pr i,n*5+4,none⟩ (.bool true)))∧(a8<len→P D):=⟨_,rfl⟩
 have n3:Hid (op=4∧H≠0→f2 a (a4.setCell ⟨f.pr i,n*5,none⟩ (.int .i64 a))):=fun b8=>by
  obtain⟨A,l,b0,b7,s9⟩:=i4.out b8.1 b8.2;rw[j1];exact⟨b0,b7,s9,fun i6=>by omega,fun _=>A⟩
 have n4:Hid (¬ (op=4∧H≠0)→f2 (E+1) a4):=fun b8=>by
  rw[j1];exact⟨by simpa using i1,f6,n0,fun i6=>i5.out b8 i6,fun g0=>i7.out b8 g0⟩
 have n5:Hid (∀a8 D,f2 a8 D→D.cell? ⟨f.pr i,n*5,none⟩=some (.int .i64 a8)∧D.cell? ⟨f.pr i,n*5+4,none⟩=some (.bool false)∧D.frozen? ⟨f.pr i,n*5+4,none⟩=false∧(len≤a8→P (D.setCell ⟨f.pr i,n*5+4,none⟩ (.bool true)))∧(a8<len→P D)):=fun a8 D a9=>by rw[j1]at a9;exact a9
 clear j1
 go_cut []from 53 to 66 (fun D=>∃a8:Nat,a8≤1000∧Hid (f2 a8 D))
 case first=>
  by_cases b8:op=4∧H≠0
  ·have e3:=aI (n3.out b8);rw[decide_eq_true b8];clear b8;go_wp2_with fail
   go_meet
   exact⟨a,by omega,e3⟩
  ·have e3:=aI (n4.out b8);rw[decide_eq_false b8];clear b8;go_wp2_with fail
   go_meet
   exact⟨E+1,by omega,e3⟩
 case rest=>
 obtain⟨a8,t0,n6⟩:=hcut;obtain⟨f9,f1,cf,n7,n8⟩:=n5.out a8 wc n6.out;have j2:=aI n7;have n9:=aI n8;clear n6 n7 n8 C i1 i2 f6 r7 n0 n3 n4 n5 i4 i5 i7
 go_upto_if 73 with fail
 go_cut []from 53 to 76 (fun D=>Hid (P D))
 case first=>
  by_cases g0:a8<len
  ·have e3:=aI (n9.out g0);go_wp2_with fail
   go_meet
   exact e3
  ·have e3:=aI (j2.out (by omega));go_wp2_with fail
   go_meet
   exact e3
 case rest=>
 have y:=s5.out;have T:=s6.out;obtain⟨j,O,j3⟩:=n1.out wc hcut.out;have C:wc.cell? ⟨w.heap.size,0,none⟩=some (.int .i64 op):=aD j3;have m7:wc.cell? ⟨w.heap.size,1,none⟩=some (.int .i64 a):=aD j3;have y7:=lt_of_block j3;clear f9 f1 cf j2 n9 I X k2 m6 h7 r0 r2 j3 hcut n1 t0;have k9:d.parts.length=st.parts.length:=by rw[c3.out];exact(n2.out _).1
 have j4:d.cf=st.cf:=by rw[c3.out];rfl
 have t1:(d.part i).procs.length=(st.part i).procs.length:=by rw[c3.out];exact(n2.out _).2.2
 have f5:(d.part i).words=(st.part i).words:=by rw[c3.out,aQ.part_setProc y]
 have e4:d.now=st.now:=by rw[c3.out];rfl
 have l0:d.queues=st.queues:=by rw[c3.out];rfl
 have R:d.proc i n=st.follow i n (if(op:Int)=4∧(st.proc i n).acc≠0 then(a:Int)else(st.proc i n).next+1):=by rw[c3.out];exact aQ.proc_set y T _
 have p:i<d.parts.length:=by rw[k9];exact y
 have J:n<(d.part i).procs.length:=by rw[t1];exact T
 have l1:∀ {b},Rm f Q g d b→Rm f Q g st b:=fun r=>(Rm.same k9 j4).1 r
 have b3:Hid (op≠4→(op=7→cZ st i a=false)→u=mO F.bs i n op a 0 d):=fun d3 t2=>by
  rw[k4.out,nH,i8.out];show oI F.bs i n (op:Int) (a:Int) st=_
  rw[←Lc F.bs i n a 0 st y T (op:Int) (fun h=>t2 (by omega))]
  congr 1
  rw[c3.out,Jg i n st (show(op:Int)≠4 by omega)]
 have t3:Hid (op=4→u=(-1,d)):=fun d3=>by
  rw[k4.out,nH,i8.out,c3.out];subst d3;rfl
 have S:(d.proc i n).acc=H:=by rw[R,s3.out];rfl
 have p1:=j.ref.pAt i n 1 p J (by omega);have p2:=j.ref.pAt i n 2 p J (by omega);have p3:=j.ref.pAt i n 3 p J (by omega);have N:=j.ref.pAt i n 4 p J (by omega);simp only[bM,List.getElem?_cons_succ,List.getElem?_cons_zero]at p1 p2 p3 N;rw[S]at p1;have L:=fun o=>dJ (j.ref.procs i p) o
 have I:=j.ref.kAt 2;have U:=j.ref.kAt 4;have X:=j.ref.kAt 6;have V:=j.ref.kAt 7;have Z:=j.ref.kAt 8;simp only[cE,List.getElem?_toArray,List.getElem?_cons_succ,List.getElem?_cons_zero]at I U X V Z;rw[k9,←s4.out]at X;rw[e4]at Z;have a5:=s0.out;have y8:=a5.now;have j5:Hid (∀k v x,k<5→(bM (d.proc i n)).set k v=bM x→Ro (wc.setCell ⟨f.pr i,n*5+k,none⟩ v) f Q g (d.setProc i n x) F∧aH (Rm f Q g st) w (wc.setCell ⟨f.pr i,n*5+k,none⟩ v)):=fun k v x j6 a9=>⟨(j.pset i n k v x p J j6 a9).1,O.andThen ((j.pset i n k v x p J j6 a9).2.to (fun b r=>l1 r))⟩
 have f3:=aI j;have b4:=aI O;have c4:Hid (∀b,Rm f Q g d b→Rm f Q g st b):=fun b r=>l1 r
 have t4:op=0∨op=1∨op=2∨op=3∨op=4∨op=5∨op=6∨op=7∨op=8∨op=9∨op=10∨op=11∨op=12∨op=13:=by omega
 clear l1;rcases t4 with rfl| rfl| rfl| rfl| rfl| rfl| rfl| rfl| rfl| rfl| rfl| rfl| rfl| rfl
 ·-- 0
  have C:wc.cell? ⟨w.heap.size,0,none⟩=some (.int .i64 0):=C;have m:Hid (u=(-1,d)):=(b3.out (by decide) (fun h=>by cases h)).trans rfl;clear j O p1 p2 p3 N L I U X V Z R;go_wp2
  go_ret
  rw[m.out];exact⟨rfl,Q,f3.out,b4.out,QG.refl _ _⟩
 ·-- 1
  have C:wc.cell? ⟨w.heap.size,0,none⟩=some (.int .i64 1):=C;have m:Hid (u=(-1,d.setProc i n { d.proc i n with acc:=IntKind.i64.wrap ((d.proc i n).acc+s8 a) })):=(b3.out (by decide) (fun h=>by cases h)).trans rfl;have y9:=L (n*5+1);have a6:Hid (∀v,Ro (wc.setCell ⟨f.pr i,n*5+1,none⟩ (.int .i64 v)) f Q g (d.setProc i n { d.proc i n with acc:=v }) F∧aH (Rm f Q g st) w (wc.setCell ⟨f.pr i,n*5+1,none⟩ (.int .i64 v))):=fun v=>j5.out 1 _ _ (by omega) rfl
  have g1:Hid (∀b5 v,Ro ((wc.setCell ⟨f.pr i,n*5+1,none⟩ (.int .i64 b5)).setCell ⟨f.pr i,n*5+1,none⟩ (.int .i64 v)) f Q g (d.setProc i n { d.proc i n with acc:=v }) F∧aH (Rm f Q g st) w ((wc.setCell ⟨f.pr i,n*5+1,none⟩ (.int .i64 b5)).setCell ⟨f.pr i,n*5+1,none⟩ (.int .i64 v))):=fun b5 v=>by
   have A:=a6.out b5;have z:=eK d i n { d.proc i n with acc:=b5 };have l:=A.1.pset i n 1 (.int .i64 v) { (d.setProc i n { d.proc i n with acc:=b5 }).proc i n with acc:=v } (by rw[z.2.1];exact p) (by rw[z.2.2];exact J) (by omega) rfl;rw[aQ.setProc_set p,aQ.proc_set p J]at l;exact⟨l.1,A.2.andThen (l.2.to (fun b r=>c4.out b ((Rm.same z.2.1 z.1).1 r)))⟩
  rw[S]at m
  by_cases t5:127<a
  ·have c2:decide (127<a)=true:=by simp[t5]
   have l2:Hid (IntKind.i64.wrap (H+s8 a)=wrap64 (wrap64 (H+a)-256)):=by
    show _=_
    unfold s8;rw[if_pos (by omega),uA];unfold wrap64;omega
   clear j O p2 p3 N L I U X V Z R S;go_wp2
   go_ret
   rw[m.out,l2.out];exact⟨rfl,Q,(g1.out _ _).1,(g1.out _ _).2,QG.refl _ _⟩
  ·have c2:decide (127<a)=false:=by simp;omega
   have l2:Hid (IntKind.i64.wrap (H+s8 a)=wrap64 (H+a)):=by
    show _=_
    unfold s8;rw[if_neg (by omega),uA]
   clear j O p2 p3 N L I U X V Z R S;go_wp2
   go_ret
   rw[m.out,l2.out];exact⟨rfl,Q,(a6.out _).1,(a6.out _).2,QG.refl _ _⟩
 ·-- 2
  have C:wc.cell? ⟨w.heap.size,0,none⟩=some (.int .i64 2):=C;have m:Hid (u=fH i n 2 a d):=(b3.out (by decide) (fun h=>by cases h)).trans rfl;have b1:=aI (uL f Q g d F i a wc j p);have r1:=j.ref.rAt i 1 p (by omega);simp only[kK,List.getElem?_cons_succ,List.getElem?_cons_zero]at r1
  by_cases B:a<(d.part i).words.length
  ·have g2:Hid (Calls Tryz.prog 205 #[.pointer (some ⟨f.kb,0,none⟩),.int .i64 i,.int .i64 2,.pointer (some ⟨f.pr i,n*5,none⟩),.pointer (some ⟨f.wd i,a,none⟩)] wc.drew fun e w'=>e=.returned (.int .i64 u.1)∧Ro w' f Q g u.2 F∧aH (Rm f Q g st) w w'):=by
    refine(sL f Q g d F i n 2 a wc.drew (j.keep (fun _ _=>rfl)) p J (by decide) B).mono ?_;rintro e w' ⟨rfl,A,l⟩;rw[m.out];exact⟨rfl,A,b4.out.andThen ((aH.ofDrew wc).andThen (l.to (fun b r=>c4.out b r)))⟩
   rw[decide_eq_true B]at b1;clear j O L I U V Z R S a5 p1 p2 p3 N m;generalize (d.part i).words.length=nw at *;go_wp2_with fail
   refine b1.out.mono ?_;rintro e M ⟨rfl,c5⟩;obtain rfl:=c5.symm;go_wp2_with fail
   go_region_with (go_at_call 205;refine g2.out.mono ?_;rintro e o0 ⟨rfl,d9,e0⟩;have g3:=aI d9;have g4:=aI e0;clear d9 e0)
   all_goals (
    go_wp2
    go_ret
    exact⟨rfl,Q,g3.out,g4.out,QG.refl _ _⟩)
  ·rw[decide_eq_false B]at b1;have d4:Hid (u=(0,d)):=by
    show _=_
    rw[m.out];unfold fH;rw[if_neg B]
   clear j O L I U V Z R S a5 p1 p2 p3 N m B;go_wp2_with fail
   refine b1.out.mono ?_;rintro e M ⟨rfl,c5⟩;obtain rfl:=c5.symm;go_wp2
   go_ret
   rw[d4.out];exact⟨rfl,Q,f3.out,b4.out,QG.refl _ _⟩
 ·-- 3
  have C:wc.cell? ⟨w.heap.size,0,none⟩=some (.int .i64 3):=C;have m:Hid (u=fH i n 3 a d):=(b3.out (by decide) (fun h=>by cases h)).trans rfl;have b1:=aI (uL f Q g d F i a wc j p);have r1:=j.ref.rAt i 1 p (by omega);simp only[kK,List.getElem?_cons_succ,List.getElem?_cons_zero]at r1
  by_cases B:a<(d.part i).words.length
  ·have g2:Hid (Calls Tryz.prog 205 #[.pointer (some ⟨f.kb,0,none⟩),.int .i64 i,.int .i64 3,.pointer (some ⟨f.pr i,n*5,none⟩),.pointer (some ⟨f.wd i,a,none⟩)] wc.drew fun e w'=>e=.returned (.int .i64 u.1)∧Ro w' f Q g u.2 F∧aH (Rm f Q g st) w w'):=by
    refine(sL f Q g d F i n 3 a wc.drew (j.keep (fun _ _=>rfl)) p J (by decide) B).mono ?_;rintro e w' ⟨rfl,A,l⟩;rw[m.out];exact⟨rfl,A,b4.out.andThen ((aH.ofDrew wc).andThen (l.to (fun b r=>c4.out b r)))⟩
   rw[decide_eq_true B]at b1;clear j O L I U V Z R S a5 p1 p2 p3 N m;generalize (d.part i).words.length=nw at *;go_wp2_with fail
   refine b1.out.mono ?_;rintro e M ⟨rfl,c5⟩;obtain rfl:=c5.symm;go_wp2_with fail
   go_region_with (go_at_call 205;refine g2.out.mono ?_;rintro e o0 ⟨rfl,d9,e0⟩;have g3:=aI d9;have g4:=aI e0;clear d9 e0)
   all_goals (
    go_wp2
    go_ret
    exact⟨rfl,Q,g3.out,g4.out,QG.refl _ _⟩)
  ·rw[decide_eq_false B]at b1;have d4:Hid (u=(0,d)):=by
    show _=_
    rw[m.out];unfold fH;rw[if_neg B]
   clear j O L I U V Z R S a5 p1 p2 p3 N m B;go_wp2_with fail
   refine b1.out.mono ?_;rintro e M ⟨rfl,c5⟩;obtain rfl:=c5.symm;go_wp2
   go_ret
   rw[d4.out];exact⟨rfl,Q,f3.out,b4.out,QG.refl _ _⟩
 ·-- 4
  have C:wc.cell? ⟨w.heap.size,0,none⟩=some (.int .i64 4):=C;have m:Hid (u=(-1,d)):=t3.out rfl;clear j O p1 p2 p3 N L I U X V Z R;go_wp2
  go_ret
  rw[m.out];exact⟨rfl,Q,f3.out,b4.out,QG.refl _ _⟩
 ·-- 5
  have C:wc.cell? ⟨w.heap.size,0,none⟩=some (.int .i64 5):=C;have m:Hid (u=(-1,d.setProc i n { d.proc i n with til:=d.now+a })):=(b3.out (by decide) (fun h=>by cases h)).trans rfl;rw[e4]at m;have z0:=L (n*5+2);have a6:=aI (j5.out 2 (.int .i64 (st.now+a)) { d.proc i n with til:=st.now+a } (by omega) rfl);clear j O L I U X V R S a5 e4;generalize st.now=now at *;have t6:IntKind.i64.wrap (now+a)=now+a:=by rw[IntKind.wrap_i64];omega
  generalize d.proc i n=o1 at *;go_wp2
  go_ret
  rw[m.out];exact⟨rfl,Q,a6.out.1,a6.out.2,QG.refl _ _⟩
 ·-- 6
  have C:wc.cell? ⟨w.heap.size,0,none⟩=some (.int .i64 6):=C;have m:Hid (u=mQ i n a d):=(b3.out (by decide) (fun h=>by cases h)).trans rfl;have d5:=uI f Q g d F i a true wc j;rw[if_pos rfl]at d5;have d6:=aI d5;have g5:Hid (∀W,Below wc.heap.size wc W→Ro W f Q g d F∧aH (Rm f Q g st) w W):=fun W G=>⟨j.mono G,b4.out.andThen (aH.ofBelow G)⟩
  have t7:=j.ok.good.nchans;cases hmi:fI d i a with
  | false=>
   rw[hmi]at d6;have d4:Hid (u=(4,d)):=by
    show _=_
    rw[m.out];unfold mQ;rw[hmi];rfl
   clear j O L I U X V Z R S a5 p1 p2 p3 N m d5 hmi;go_wp2_with fail
   refine d6.out.mono ?_;rintro e M ⟨rfl,c6⟩;have a0:=aI (g5.out M c6);clear c6;go_wp2
   go_ret
   rw[d4.out];exact⟨rfl,Q,a0.out.1,a0.out.2,QG.refl _ _⟩
  | true=>
   rw[hmi]at d6;have B:a<d.cf.chans.length:=by
    unfold fI at hmi;simp at hmi;omega
   obtain⟨q,Y⟩:∃q,q=d.queues.getD a []:=⟨_,rfl⟩;obtain⟨d7,l3⟩:∃d7,d7=(d.cf.chans.getD a default).depth:=⟨_,rfl⟩;have b2:q.length≤4:=by
    have A:=a5.queue a (by rw[←j4];exact B);have l:=j.ok.good.chans (d.cf.chans.getD a default) (dB B);rw[Y,l0];rw[j4]at l;omega
   obtain⟨e5,a2,b6⟩:=Cz (j.ref.queue a B);rw[←Y]at b6;obtain⟨o2,t8,l4,_⟩:=j.ref.conf.chans_at;have e6:Hid (∀W,Ro W f Q g d F→W.cell? ⟨f.kb,7,none⟩=some (sl f.qb d.cf.chans.length f.qc)∧W.cell? ⟨f.kb,4,none⟩=some (.slice o2 d.cf.chans.length t8)∧W.cell? ⟨f.qb,a,none⟩=some (.slice e5 q.length a2)∧W.cell? ⟨f.pr i,n*5+1,none⟩=some (.int .i64 H)∧(∃b,o2=some ⟨b,0,none⟩∧W.cell? ⟨b,a*3+2,none⟩=some (.int .i64 d7))∧f.kb<W.heap.size∧f.qb<W.heap.size∧f.pr i<W.heap.size):=fun W G=>by
    have b9:=G.ref.kAt 7;have g6:=G.ref.kAt 4;simp only[cE,List.getElem?_toArray,List.getElem?_cons_succ,List.getElem?_cons_zero]at b9 g6;rw[l4]at g6;have c7:=G.ref.qsAt a B;rw[b6]at c7;have z1:=G.ref.pAt i n 1 p J (by omega);simp only[bM,List.getElem?_cons_succ,List.getElem?_cons_zero]at z1;rw[S]at z1;obtain⟨z2,z3,l5,t9⟩:=G.ref.conf.chans_at;rw[l4]at l5;simp at l5;obtain⟨rfl,rfl⟩:=l5;obtain⟨b,r,_,_,c2⟩:=t9 a B;exact⟨b9,g6,c7,z1,⟨b,r,by rw[l3];exact c2⟩,lt_of_block G.ref.kern,fV G.ref.qs,fV (G.ref.procs i p)⟩
   have l6:Hid (u=(-1,{ d with queues:=if(q.length:Int)<d7 then d.queues.set a (q++[H])else d.queues })):=by
    show _=_
    rw[m.out];unfold mQ;rw[if_pos hmi,S,←Y,←l3]
   have o3:Hid (∀W,Ro W f Q g d F→Cm W (.slice e5 q.length a2) q):=fun W G=>by
    have:=G.ref.queue a B;rw[b6,←Y]at this;exact this
   have u0:Hid (∀W d0,Ro W f Q g d F→aH (Rm f Q g st) w W→∃a1,a1=W.drewN d0∧Ro a1 f Q g d F∧aH (Rm f Q g st) w a1):=fun W d0 A l=>⟨_,rfl,A.drewn d0,l.drewN2 d0⟩
   have o4:Hid (∀a1 d1 c8,Ro a1 f Q g d F→aH (Rm f Q g st) w a1→Cm c8 d1 (q++[H])→(a1.alloc (.cells #[.int .i64 H] 3)).grownBy c8 (Value.slice e5 q.length a2).ownBlock→(d1.ownBlock=(Value.slice e5 q.length a2).ownBlock∨∃b,d1.ownBlock=some b∧(a1.alloc (.cells #[.int .i64 H] 3)).heap.size≤b)→c8.cell? ⟨f.kb,7,none⟩=some (sl f.qb d.cf.chans.length f.qc)∧c8.cell? ⟨f.qb,a,none⟩=some (.slice e5 q.length a2)∧c8.frozen? ⟨f.qb,a,none⟩=false∧((q.length:Int)<d7→∃c1,Ro (c8.setCell ⟨f.qb,a,none⟩ d1) f c1 g u.2 F∧aH (Rm f Q g st) w (c8.setCell ⟨f.qb,a,none⟩ d1)∧QG Q c1 w.heap.size)):=fun a1 d1 c8 c0 o5 g7 e1 g8=>by
    have l7:=aZ e1;rw[←b6]at l7 g8;obtain⟨b9,_,c7,_,_,u1,u2,_⟩:=e6.out a1 c0;have b0:∀ {x:Nat} {c:Array Value} {t:TypeId},a1.heap[x]?=some (.cells c t (0,0))→t≠3→c8.heap[x]?=a1.heap[x]?:=fun{x c t} a9 u3=>l7.block x (lt_of_block a9) (fun e=>by
     obtain⟨z4,u4⟩:=qA (c0.ref.queue a B) e.symm;exact bG a9 u4 u3 rfl)
    obtain⟨z5,o6⟩:=jN c0.ref.qs;have u5:=b0 c0.ref.kern (by decide);have o7:=b0 o6 (by decide);refine⟨(World.cell?_of_block u5).trans b9,(World.cell?_of_block o7).trans c7,(World.frozen?_of_block o7).trans (aJ o6 a),fun g0=>?_⟩;have u6:d1.ownBlock=(Q a).ownBlock∨∃b,d1.ownBlock=some b∧a1.heap.size≤b:=by
     rcases g8 with h| ⟨b,A,l⟩
     ·exact .inl h
     ·exact .inr ⟨b,A,by simp at l;omega⟩
    have l8:=c0.qset a B d1 (q++[H]) l7 g7 u6;refine⟨pN Q a d1,?_,o5.andThen (l8.2.1.to (fun b r=>c4.out b r)),fun g9 b r=>?_⟩
    ·rw[l6.out,if_pos g0];exact l8.1
    ·rcases l8.2.2 g9 b r with A| A
     ·exact .inl A
     ·exact .inr (Nat.le_trans o5.size A)
   have e7:Hid (u.1=-1∧(¬ (q.length:Int)<d7→u.2=d)):=by
    rw[l6.out];exact⟨rfl,fun h=>by simp only;rw[if_neg h]⟩
   have o8:Hid (∀D:World,Ro D f Q g d F→Cm (D.alloc (.cells #[.int .i64 H] 3)) (.slice e5 q.length a2) q):=fun D a9=>uH (o3.out D a9) (fun x _ o9=>Below.heap_alloc D _ x o9)
   have u7:Hid (∀D:World,(D.alloc (.cells #[.int .i64 H] 3)).cell? ⟨D.heap.size,0,none⟩=some (.int .i64 H)):=fun D=>aD (heap_alloc_new D _)
   clear j O L I U X V Z R S a5 p1 p2 p3 N m d5 hmi Y l3 l4 b6 l6 o3;generalize d.cf.chans.length=u8 at *;obtain⟨e8,l9⟩:∃e8,e8=q.length:=⟨_,rfl⟩;rw[←l9]at b2 e6 o4 e7 o8;have u9:=aI l9;clear l9;go_wp2_with fail
   refine d6.out.mono ?_;rintro e M ⟨rfl,c6⟩;have a0:=aI (g5.out M c6);obtain⟨b9,g6,c7,z1,⟨z6,rfl,v0⟩,_⟩:=e6.out M a0.out.1;clear c6
   by_cases j7:(e8:Int)<d7
   ·have v1:decide ((e8:Int)<d7)=true:=by simp[j7]
    have v2:=aI j7;clear j7;go_wp2_with fail
    go_quiet (fail)
    go_wp2_with fail
    obtain⟨a1,p4,m0,p5⟩:=u0.out M nq a0.out.1 a0.out.2;rw[←p4];obtain⟨v3,z7,v4,z8,_,u1,u2,z9⟩:=e6.out a1 m0;have p6:=aI m0;have v5:=aI p5;clear p4 m0 p5 b9 g6 c7 z1 v0
    go_region_law (refine zV rfl (.tmp 174) (.tmp 179) rfl (.slice e5 e8 a2) q (by rfl) (by exact o8.out a1 p6.out) H ⟨a1.heap.size,0,none⟩ 1 (by rfl) (by exact u7.out a1) (by rw[←u9.out];exact b2) ?_;intro aa c8 g7 e1 g8;obtain⟨ab,ac,ad,v6⟩:=Sj g7;subst v6;obtain⟨ae,af,ag,p7⟩:=o4.out a1 _ c8 p6.out v5.out g7 ⟨e1.os,e1.tape,e1.output,e1.size,e1.block⟩ g8;have v7:=aI (p7 v2.out);clear g7 e1 g8 p7)
    all_goals (
     go_wp2
     go_ret
     obtain⟨h0,h1,a3,h2⟩:=v7.out;exact⟨by rw[e7.out.1];rfl,h0,h1.keep (fun _ _=>rfl),⟨a3.os,a3.tape,a3.output,a3.size,a3.block⟩,h2⟩)
   ·have v1:decide ((e8:Int)<d7)=false:=by simp;omega
    have v8:=aI (e7.out.2 (by omega));have p8:Hid (∀d0,Ro (M.drewN d0) f Q g d F∧aH (Rm f Q g st) w (M.drewN d0)):=fun d0=>⟨a0.out.1.drewn d0,a0.out.2.drewN2 d0⟩
    clear j7;go_wp2_with fail
    go_quiet (fail)
    go_wp2
    go_ret
    rw[v8.out,e7.out.1];exact⟨rfl,Q,(p8.out _).1,(p8.out _).2,QG.refl _ _⟩
 ·-- 7
  have C:wc.cell? ⟨w.heap.size,0,none⟩=some (.int .i64 7):=C;have h3:cZ d i a=cZ st i a:=by rw[c3.out];rfl
  have d5:=uI f Q g d F i a false wc j;rw[if_neg (by decide)]at d5;have d6:=aI d5;have g5:Hid (∀W,Below wc.heap.size wc W→Ro W f Q g d F∧aH (Rm f Q g st) w W):=fun W G=>⟨j.mono G,b4.out.andThen (aH.ofBelow G)⟩
  have t7:=j.ok.good.nchans;cases hmi:cZ d i a with
  | false=>
   rw[hmi]at d6;have d4:Hid (u=(4,d)):=by
    show _=_
    rw[b3.out (by decide) (fun _=>by rw[←h3];exact hmi)];show(if cZ d i a=true then _ else(4,d))=_
    rw[hmi];rfl
   clear j O L I U X V Z R S a5 p1 p2 p3 N d5 hmi h3;go_wp2_with fail
   refine d6.out.mono ?_;rintro e M ⟨rfl,c6⟩;have a0:=aI (g5.out M c6);clear c6;go_wp2
   go_ret
   rw[d4.out];exact⟨rfl,Q,a0.out.1,a0.out.2,QG.refl _ _⟩
  | true=>
   rw[hmi]at d6;have B:a<d.cf.chans.length:=by
    unfold cZ at hmi;simp at hmi;omega
   obtain⟨q,Y⟩:∃q,q=d.queues.getD a []:=⟨_,rfl⟩;have b2:0<q.length:=by
    have j8:=s1.out;unfold dO at j8;rw[i8.out]at j8;simp only[Bool.and_eq_true,Bool.or_eq_true]at j8;rcases j8.2 with(h| h)| h
    ·simp at h
    ·rw[←h3,hmi]at h;cases h
    ·rw[Y,l0]
     simpa using h
   have m:Hid (u=(-1,{ d.setProc i n { d.proc i n with acc:=q.headD 0 }with queues:=d.queues.set a q.tail })):=by
    show _=_
    rw[k4.out,nH,i8.out];have e:oI F.bs i n (((7:Nat)):Int) (a:Int) st=if cZ st i (a:Int)=true then(-1,{ st.setProc i n { st.follow i n (if(((7:Nat)):Int)=4∧(st.proc i n).acc≠0 then(a:Int)else(st.proc i n).next+1)with acc:=(st.queues.getD (a:Int).toNat []).headD 0 }with queues:=st.queues.set (a:Int).toNat (st.queues.getD (a:Int).toNat []).tail })else(4,st.setProc i n (st.follow i n (if(((7:Nat)):Int)=4∧(st.proc i n).acc≠0 then(a:Int)else(st.proc i n).next+1))):=rfl
    rw[e,←h3,if_pos hmi,R,Int.toNat_natCast,Y,l0];rw[c3.out,aQ.setProc_set y]
   have j9:=j.ref.queue a B;rw[←Y]at j9;obtain⟨b,o,a2,b6⟩:∃b o a2,Q a=.slice (some ⟨b,o,none⟩) q.length a2:=by
    rcases j9 with⟨_,l⟩| ⟨b,o,c,_,a7,_⟩
    ·rw[l]at b2;simp at b2
    ·exact⟨b,o,c,a7⟩
   have ah:q.length≤a2:=by
    rcases j9 with⟨_,l⟩| ⟨p9,q0,q1,_,a7,_,o9,_⟩
    ·rw[l]at b2;simp at b2
    ·rw[b6]at a7;simp at a7;omega
   have e6:Hid (∀W s,Ro W f Q g s F→s.cf=d.cf→s.queues=d.queues→W.cell? ⟨f.kb,7,none⟩=some (sl f.qb d.cf.chans.length f.qc)∧W.cell? ⟨f.qb,a,none⟩=some (.slice (some ⟨b,o,none⟩) q.length a2)∧W.frozen? ⟨f.qb,a,none⟩=false∧W.cell? ⟨b,o,none⟩=some (.int .i64 (q.headD 0))):=fun W s G q2 v9=>by
    have h4:a<s.cf.chans.length:=by rw[q2];exact B
    have b9:=G.ref.kAt 7;simp only[cE,List.getElem?_toArray,List.getElem?_cons_succ,List.getElem?_cons_zero]at b9;rw[q2]at b9;have c7:=G.ref.qsAt a h4;rw[b6]at c7;have h5:=G.ref.queue a h4;rw[v9,←Y]at h5;refine⟨b9,c7,dJ G.ref.qs _,?_⟩;rcases h5 with⟨_,l⟩| ⟨p9,q0,q1,cur,a7,m1,_,_,_,b7⟩
    ·rw[l]at b2;simp at b2
    ·rw[b6]at a7;simp at a7;obtain⟨⟨rfl,rfl⟩,-⟩:=a7;have:=b7 0 b2;rw[cell_of_row _ _ _ _ _ _ m1];rw[Nat.add_zero]at this;rw[this];cases q with
     | nil=>simp at b2
     | cons ai aj=>rfl
   have w0:Hid (∀W,Ro W f Q g d F→aH (Rm f Q g st) w W→Ro (W.setCell ⟨f.pr i,n*5+1,none⟩ (.int .i64 (q.headD 0))) f Q g (d.setProc i n { d.proc i n with acc:=q.headD 0 }) F∧aH (Rm f Q g st) w (W.setCell ⟨f.pr i,n*5+1,none⟩ (.int .i64 (q.headD 0)))):=fun W A l=>by
    have:=A.pset i n 1 (.int .i64 (q.headD 0)) { d.proc i n with acc:=q.headD 0 } p J (by omega) rfl;exact⟨this.1,l.andThen (this.2.to (fun b r=>c4.out b r))⟩
   have j2:Hid (∀W,Ro W f Q g d F→W.cell? ⟨f.pr i,n*5+1,none⟩=some (.int .i64 H)∧W.frozen? ⟨f.pr i,n*5+1,none⟩=false):=fun W G=>by
    have z1:=G.ref.pAt i n 1 p J (by omega);simp only[bM,List.getElem?_cons_succ,List.getElem?_cons_zero]at z1;rw[S]at z1;exact⟨z1,dJ (G.ref.procs i p) _⟩
   have q3:Hid (∀W,Ro W f Q g (d.setProc i n { d.proc i n with acc:=q.headD 0 }) F→aH (Rm f Q g st) w W→∃c1,Ro (W.setCell ⟨f.qb,a,none⟩ (.slice (some ⟨b,o+1,none⟩) (q.length-1) (a2-1))) f c1 g u.2 F∧aH (Rm f Q g st) w (W.setCell ⟨f.qb,a,none⟩ (.slice (some ⟨b,o+1,none⟩) (q.length-1) (a2-1)))∧QG Q c1 w.heap.size):=fun W A l=>by
    have z:=eK d i n { d.proc i n with acc:=q.headD 0 };have e:(d.setProc i n { d.proc i n with acc:=q.headD 0 }).queues.getD a []=q:=Y.symm;have:=A.qpop a (by rw[z.1];exact B) b o a2 (by rw[e];exact b6) (by rw[e];exact b2);rw[e]at this;refine⟨pN Q a (.slice (some ⟨b,o+1,none⟩) (q.length-1) (a2-1)),?_,l.andThen (this.2.1.to (fun b r=>c4.out b ((Rm.same z.2.1 z.1).1 r))),fun g9 b r=>?_⟩
    ·rw[m.out];exact this.1
    ·rcases this.2.2 g9 b r with b0| b0
     ·exact .inl b0
     ·exact .inr (Nat.le_trans l.size b0)
   have q4:Hid (∀W,a2-1=0→Ro W f Q g (d.setProc i n { d.proc i n with acc:=q.headD 0 }) F→aH (Rm f Q g st) w W→∃c1,Ro (W.setCell ⟨f.qb,a,none⟩ (.slice (some ⟨b,o,none⟩) (q.length-1) 0)) f c1 g u.2 F∧aH (Rm f Q g st) w (W.setCell ⟨f.qb,a,none⟩ (.slice (some ⟨b,o,none⟩) (q.length-1) 0))∧QG Q c1 w.heap.size):=fun W j4 A l=>by
    have z:=eK d i n { d.proc i n with acc:=q.headD 0 };have h4:a<(d.setProc i n { d.proc i n with acc:=q.headD 0 }).cf.chans.length:=by rw[z.1];exact B
    have e:(d.setProc i n { d.proc i n with acc:=q.headD 0 }).queues.getD a []=q:=Y.symm;have h5:=A.ref.queue a h4;rw[e]at h5;have w1:q.tail=[]:=List.length_eq_zero_iff.1 (by rw[List.length_tail];omega);have:=A.qset a h4 (.slice (some ⟨b,o,none⟩) (q.length-1) 0) q.tail ⟨rfl,rfl,rfl,Nat.le_refl _,fun _ _ _=>rfl⟩ (by
     rw[w1];rcases h5 with⟨_,b0⟩| ⟨p9,q0,q1,cur,a7,m1,_,ak,_⟩
     ·rw[b0]at b2;simp at b2
     ·rw[b6]at a7;simp at a7;obtain⟨⟨rfl,rfl⟩,-⟩:=a7;refine .inr ⟨b,o,0,cur,?_,m1,Nat.le_refl _,by omega,by unfold maxLen;omega,fun k j6=>by simp at j6⟩;rw[show q.length-1=([]:List Int).length from by show q.length-1=0;omega]) (.inl (by rw[b6];rfl))
    refine⟨pN Q a (.slice (some ⟨b,o,none⟩) (q.length-1) 0),?_,l.andThen (this.2.1.to (fun b r=>c4.out b ((Rm.same z.2.1 z.1).1 r))),fun g9 b r=>?_⟩
    ·rw[m.out];exact this.1
    ·rcases this.2.2 g9 b r with b0| b0
     ·exact .inl b0
     ·exact .inr (Nat.le_trans l.size b0)
   have e7:Hid (u.1=-1):=by show _=_;rw[m.out]
   have q5:Hid ((d.setProc i n { d.proc i n with acc:=q.headD 0 }).cf=d.cf∧(d.setProc i n { d.proc i n with acc:=q.headD 0 }).queues=d.queues):=⟨rfl,rfl⟩;clear j O L I U X V Z R S a5 p1 p2 p3 N m d5 hmi Y b6 j9 h3;generalize d.setProc i n { d.proc i n with acc:=q.headD 0 }=w2 at *;generalize d.cf.chans.length=u8 at *;generalize q.headD 0=c2 at *;generalize q.length=e8 at *;go_wp2_with fail
   refine d6.out.mono ?_;rintro e M ⟨rfl,c6⟩;have a0:=aI (g5.out M c6);obtain⟨b9,c7,_,w3⟩:=e6.out M d a0.out.1 rfl rfl;obtain⟨z1,w4⟩:=j2.out M a0.out.1;have e9:=w0.out M a0.out.1 a0.out.2;obtain⟨h6,m2⟩:∃h6,h6=M.setCell ⟨f.pr i,n*5+1,none⟩ (.int .i64 c2):=⟨_,rfl⟩;rw[←m2]at e9;obtain⟨v3,v4,al,_⟩:=e6.out h6 w2 e9.1 q5.out.1 q5.out.2;have w5:=aI (q3.out h6 e9.1 e9.2);have w6:Hid (a2-1=0→_):=fun h=>q4.out h6 h e9.1 e9.2
   have w7:=aI m2;clear c6 m2 e9 q3 q4;go_wp2_with fail
   rw[←w7.out];clear b9 c7 w3 z1 w4
   go_region
   all_goals (
    go_wp2
    all_goals (
    go_ret
    first
    | (obtain⟨h0,h1,a3,h2⟩:=w5.out;exact⟨by rw[e7.out];rfl,h0,h1.keep (fun _ _=>rfl),⟨a3.os,a3.tape,a3.output,a3.size,a3.block⟩,h2⟩)
    | (obtain⟨h0,h1,a3,h2⟩:=w6.out (by omega);exact⟨by rw[e7.out];rfl,h0,h1.keep (fun _ _=>rfl),⟨a3.os,a3.tape,a3.output,a3.size,a3.block⟩,h2⟩)))
 ·-- 8
  have C:wc.cell? ⟨w.heap.size,0,none⟩=some (.int .i64 8):=C;have m:Hid (u=(3,d)):=(b3.out (by decide) (fun h=>by cases h)).trans rfl;clear j O p1 p2 p3 N L I U X V Z R;go_wp2
  go_ret
  rw[m.out];exact⟨rfl,Q,f3.out,b4.out,QG.refl _ _⟩
 ·-- 9
  have C:wc.cell? ⟨w.heap.size,0,none⟩=some (.int .i64 9):=C;have m:Hid (u=(-1,d.setPart i { d.part i with watch:=d.now })):=(b3.out (by decide) (fun h=>by cases h)).trans rfl;rw[e4]at m;have w8:=j.ref.rAt i 3 p (by omega);simp only[kK,List.getElem?_cons_succ,List.getElem?_cons_zero]at w8;have w9:=dJ j.ref.parts (i*4+3);have a7:=j.wtset i st.now p;have a6:Hid (Ro (wc.setCell ⟨f.rp,i*4+3,none⟩ (.int .i64 st.now)) f Q g (d.setPart i { d.part i with watch:=st.now }) F∧aH (Rm f Q g st) w (wc.setCell ⟨f.rp,i*4+3,none⟩ (.int .i64 st.now))):=⟨a7.1,b4.out.andThen (a7.2.to (fun b r=>c4.out b r))⟩;clear j O L I U V R S a5 e4 a7 p1 p2 p3 N;generalize st.now=now at *;generalize (d.part i).watch=am at *;go_wp2_with fail
  go_region
  all_goals (
   go_wp2
   go_ret
   rw[m.out];exact⟨rfl,Q,a6.out.1.keep (fun _ _=>rfl),a6.out.2.andThen ⟨rfl,rfl,rfl,Nat.le_refl _,fun _ _ _=>rfl⟩,QG.refl _ _⟩)
 ·-- 10
  have C:wc.cell? ⟨w.heap.size,0,none⟩=some (.int .i64 10):=C;have m:Hid (u=(-1,d.setProc i n { d.proc i n with stopped:=true })):=(b3.out (by decide) (fun h=>by cases h)).trans rfl;have f4:=L (n*5+4);have a6:=aI (j5.out 4 (.bool true) { d.proc i n with stopped:=true } (by omega) rfl);clear j O L I U X V Z R S;generalize d.proc i n=o1 at *;go_wp2
  go_ret
  rw[m.out];exact⟨rfl,Q,a6.out.1,a6.out.2,QG.refl _ _⟩
 ·-- 11
  have C:wc.cell? ⟨w.heap.size,0,none⟩=some (.int .i64 11):=C;have m:Hid (u=(-1,d.setProc i n { d.proc i n with dl:=if a=0 then -1 else d.now+a })):=(b3.out (by decide) (fun h=>by cases h)).trans rfl;rw[e4]at m;have w9:=L (n*5+3);have a6:Hid (∀v,Ro (wc.setCell ⟨f.pr i,n*5+3,none⟩ (.int .i64 v)) f Q g (d.setProc i n { d.proc i n with dl:=v }) F∧aH (Rm f Q g st) w (wc.setCell ⟨f.pr i,n*5+3,none⟩ (.int .i64 v))):=fun v=>j5.out 3 _ _ (by omega) rfl
  have g1:Hid (∀b5 v,Ro ((wc.setCell ⟨f.pr i,n*5+3,none⟩ (.int .i64 b5)).setCell ⟨f.pr i,n*5+3,none⟩ (.int .i64 v)) f Q g (d.setProc i n { d.proc i n with dl:=v }) F∧aH (Rm f Q g st) w ((wc.setCell ⟨f.pr i,n*5+3,none⟩ (.int .i64 b5)).setCell ⟨f.pr i,n*5+3,none⟩ (.int .i64 v))):=fun b5 v=>by
   have A:=a6.out b5;have z:=eK d i n { d.proc i n with dl:=b5 };have l:=A.1.pset i n 3 (.int .i64 v) { (d.setProc i n { d.proc i n with dl:=b5 }).proc i n with dl:=v } (by rw[z.2.1];exact p) (by rw[z.2.2];exact J) (by omega) rfl;rw[aQ.setProc_set p,aQ.proc_set p J]at l;exact⟨l.1,A.2.andThen (l.2.to (fun b r=>c4.out b ((Rm.same z.2.1 z.1).1 r)))⟩
  clear j O L I U X V R S a5 e4;generalize st.now=now at *;have t6:IntKind.i64.wrap (now+a)=now+a:=by rw[IntKind.wrap_i64];omega
  generalize an:d.proc i n=o1 at *
  by_cases d8:a=0
  ·subst d8;rw[if_pos rfl]at m;go_wp2
   go_ret
   rw[m.out];exact⟨rfl,Q,(g1.out _ _).1,(g1.out _ _).2,QG.refl _ _⟩
  ·rw[if_neg d8]at m;have ao:((a:Int) == 0)=false:=by simp;omega
   go_wp2
   go_ret
   rw[m.out];exact⟨rfl,Q,(a6.out _).1,(a6.out _).2,QG.refl _ _⟩
 ·-- 12
  have C:wc.cell? ⟨w.heap.size,0,none⟩=some (.int .i64 12):=C;have m:Hid (u=fH i n 12 a d):=(b3.out (by decide) (fun h=>by cases h)).trans rfl;have b1:=aI (uL f Q g d F i a wc j p);have r1:=j.ref.rAt i 1 p (by omega);simp only[kK,List.getElem?_cons_succ,List.getElem?_cons_zero]at r1
  by_cases B:a<(d.part i).words.length
  ·have g2:Hid (Calls Tryz.prog 205 #[.pointer (some ⟨f.kb,0,none⟩),.int .i64 i,.int .i64 12,.pointer (some ⟨f.pr i,n*5,none⟩),.pointer (some ⟨f.wd i,a,none⟩)] wc.drew fun e w'=>e=.returned (.int .i64 u.1)∧Ro w' f Q g u.2 F∧aH (Rm f Q g st) w w'):=by
    refine(sL f Q g d F i n 12 a wc.drew (j.keep (fun _ _=>rfl)) p J (by decide) B).mono ?_;rintro e w' ⟨rfl,A,l⟩;rw[m.out];exact⟨rfl,A,b4.out.andThen ((aH.ofDrew wc).andThen (l.to (fun b r=>c4.out b r)))⟩
   rw[decide_eq_true B]at b1;clear j O L I U V Z R S a5 p1 p2 p3 N m;generalize (d.part i).words.length=nw at *;go_wp2_with fail
   refine b1.out.mono ?_;rintro e M ⟨rfl,c5⟩;obtain rfl:=c5.symm;go_wp2_with fail
   go_region_with (go_at_call 205;refine g2.out.mono ?_;rintro e o0 ⟨rfl,d9,e0⟩;have g3:=aI d9;have g4:=aI e0;clear d9 e0)
   all_goals (
    go_wp2
    go_ret
    exact⟨rfl,Q,g3.out,g4.out,QG.refl _ _⟩)
  ·rw[decide_eq_false B]at b1;have d4:Hid (u=(0,d)):=by
    show _=_
    rw[m.out];unfold fH;rw[if_neg B]
   clear j O L I U V Z R S a5 p1 p2 p3 N m B;go_wp2_with fail
   refine b1.out.mono ?_;rintro e M ⟨rfl,c5⟩;obtain rfl:=c5.symm;go_wp2
   go_ret
   rw[d4.out];exact⟨rfl,Q,f3.out,b4.out,QG.refl _ _⟩
 ·-- 13
  have C:wc.cell? ⟨w.heap.size,0,none⟩=some (.int .i64 13):=C;have m:Hid (u=mR F.bs i n a d):=(b3.out (by decide) (fun h=>by cases h)).trans rfl;have q6:=aI (Ec f Q g d F i n a wc j p J);have m3:Hid (u.1=(if(d.cpart i).sys=true then -1 else 4)∧u.2=(if(d.cpart i).sys=true then d.setProc i n { d.proc i n with acc:=dU (bT F.bs) a }else d)):=by
   rw[m.out];unfold mR;split<;>exact⟨rfl,rfl⟩
  clear j O L I U X V Z R S a5 p1 p2 p3 N;go_wp2_with fail
  refine q6.out.mono ?_;rintro e M ⟨rfl,q7,q8⟩;have a0:Hid (Ro M f Q g u.2 F∧aH (Rm f Q g st) w M):=⟨by rw[m3.out.2];exact q7,b4.out.andThen (q8.to (fun b r=>c4.out b r))⟩;have x0:=aI m3.out.1;clear q7 q8 m3 q6;rw[x0.out.symm];go_wp2
  go_ret
  exact⟨rfl,Q,a0.out.1,a0.out.2,QG.refl _ _⟩
end
end Go.Proofs.YtnjlbgolnbdkaaaGreat
