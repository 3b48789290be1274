/- All, with short names -/
import Derived.Test.YtnjlbgolnbdkaaaGreatP19
set_option maxRecDepth 100000
set_option maxHeartbeats 16000000
namespace Go.Proofs.YtnjlbgolnbdkaaaGreat
open Go Go.RowKit
section
open Go.RowKit Go.Shelf
attribute [local go_sem] Oper.semAt_some
theorem sM{F:Fence}{n:Nat}{P:Program}{id:Nat}{Q:Exit→Act→World→Prop}{a:Act}{w:World}{l:List Oper}{ι:Type}(f:ι→World)(d:wK l=true)(g:P.follows .mixedOrders=true)(b:Region.lexB .any l.toArray=true)(j:∃i,w.drew=f i)
 (h:wpQuietIn F n P l.toArray (fun w'=>∃i,w'=f i) (fun c=>∀w',(∃i,w'=f i)→Q .normal c w') l a):(Code.region id l.toArray true).wpIn F n P Q a w:=by
 simp only[Region.lexB,Bool.and_eq_true]at b;refine wpIn_region_any g (nX (Q:=fun c=>∀w',(∃i,w'=f i)→Q .normal c w') (C:=fun w'=>∃i,w'=f i) (oT d) (fun _ w' k h=>h w' k) _ _ _ _ j ?_);have:=wpAnyQIn_lex (F:=F) (n:=n) (C:=fun w'=>∃i,w'=f i) (md:=.any) b.1 l 0 (Array.replicate l.toArray.size false) a (by simp) (by simpa using b.2) h
 simpa using this
def bK(st:aQ)(i q:Nat):Nat:=((fM (st.part i).procs.length (fD (st.cpart i))).getD q 0).toNat
theorem Gb(st:aQ)(h:eA st)(i q:Nat)(a:i<st.parts.length)(b:q<(st.part i).procs.length):bK st i q<(st.part i).procs.length∧(fM (st.part i).procs.length (fD (st.cpart i)))[q]?=some ((bK st i q:Nat):Int):=by
 have c:=h.one i a;unfold bK fM;generalize (st.part i).procs.length=np at *;obtain rfl| rfl:np=1∨np=2:=by omega
 ·obtain rfl:q=0:=by omega
  exact⟨show(0:Nat)<1 by decide,rfl⟩
 ·obtain rfl| rfl:q=0∨q=1:=by omega
  ·cases iU (fD (st.cpart i))<;>exact⟨by decide,rfl⟩
  ·cases iU (fD (st.cpart i))<;>exact⟨by decide,rfl⟩
def dS(i n:Nat)(st:aQ):Bool:=(!(st.proc i n).stopped&&decide ((st.proc i n).til≤st.now))&&(dI i n st).1.2
theorem Pn(i n:Nat)(st:aQ)(h:(dI i n st).1.2=false):(dI i n st).2=st:=by
 unfold dI at h ⊢;split
 ·rename_i a
  rw[if_pos a]at h;split at h
  ·rfl
  ·cases h
 ·rename_i a
  rfl
theorem uG(i n:Nat)(st:aQ):Lk st (dI i n st).2:=by
 unfold dI;split
 ·split
  ·exact Lk.refl _
  ·exact⟨rfl,rfl,rfl⟩
 ·exact Lk.refl _
theorem sA(i n:Nat)(st:aQ):(dI i n st).2.parts=st.parts:=by
 unfold dI;split
 ·split<;>rfl
 ·rfl
theorem Fs(i n:Nat)(st:aQ)(h:dY st):dY (dI i n st).2:=by
 have k:=sA i n st;have c:=uG i n st;have f:∀a,(dI i n st).2.part a=st.part a:=fun a=>by unfold aQ.part;rw[k]
 refine⟨by rw[c.now];exact h.now,fun a b=>?_,fun a d b j=>?_,fun a b=>?_⟩
 ·rw[c.now,f a];exact h.watch a (by rw[c.len]at b;exact b)
 ·rw[f a]at j;have l:(dI i n st).2.proc a d=st.proc a d:=by unfold aQ.proc;rw[f a]
  have g:(dI i n st).2.codeOf a d=st.codeOf a d:=by unfold aQ.codeOf aQ.cpart;rw[c.cf]
  rw[l,g,c.now];exact h.proc a d (by rw[c.len]at b;exact b) j
 ·rw[c.cf]at b ⊢;have:=h.queue a b;generalize (st.cf.chans.getD a default).depth=p at *;unfold dI;split
  ·split
   ·exact this
   ·rename_i v m o
    simp only[List.getD_eq_getElem?_getD,List.getElem?_set];split
    ·rename_i e
     split
     ·have g:st.queues.getD a []=v::m:=by rw[←e];exact o
      rw[g]at this;simp only[Option.getD_some];simp only[List.length_cons]at this;omega
     ·simp only[Option.getD_none,List.length_nil];omega
    ·simpa[List.getD_eq_getElem?_getD]using this
  ·exact this
def lS(i n:Nat)(s:SF):Bool×SF:=oG i n (dI i n s.1).1.1 ((dI i n s.1).2,s.2)
def gA(i:Nat)(s:SF):Bool×SF:=
 if(s.1.part i).mode=3 then(true,s)
 else match (List.range (s.1.part i).procs.length).find? (fun q=>dS i (bK s.1 i q) s.1)with
  | none=>(true,s)
  | some q=>lS i (bK s.1 i q) s
theorem Jy(i n:Nat)(rc:Int)(s:SF):Lk s.1 (oG i n rc s).2.1:=by
 have a:Lk s.1 (pU i n rc s).2:=(Lk.setProc _ _ _ _).trans (zD _ _ _ _ _ _ _);unfold oG;split
 ·exact a
 ·exact a.trans (Lk.fault i n _ (_,s.2))
theorem tT(i n:Nat)(s:SF):Lk s.1 (lS i n s).2.1:=(uG i n s.1).trans (Jy i n _ (_,s.2))
theorem Jn(i:Nat)(s:SF)(a:Nat)(b:a=(s.1.part i).procs.length)(c:(s.1.part i).mode≠3)(h:∀q∈upto a a,dS i (bK s.1 i q.1) s.1=false):gA i s=(true,s):=by
 unfold gA;rw[if_neg c,←b];have:(List.range a).find? (fun q=>dS i (bK s.1 i q) s.1)=none:=by
  rw[List.find?_eq_none];intro q d;have:=h ⟨q,by simpa using d⟩ (by unfold upto;rw[List.take_of_length_le (by simp)];exact List.mem_finRange _);rw[show dS i (bK s.1 i q) s.1=false from this]
  decide
 rw[this]
theorem Jm(i:Nat)(s:SF)(a:Nat)(c:a=(s.1.part i).procs.length)(d:(s.1.part i).mode≠3)(k:Nat)(b:List (Fin a))(x:Fin a)(f:upto a k=b++[x])(h:∀q∈b,dS i (bK s.1 i q.1) s.1=false)(g:dS i (bK s.1 i x.1) s.1=true):gA i s=lS i (bK s.1 i x.1) s:=by
 unfold gA;rw[if_neg d,←c];have j:List.range a=(upto a a).map Fin.val:=by
  unfold upto;rw[List.take_of_length_le (by simp)];exact List.ext_getElem (by simp) (fun k r u=>by simp)
 have l:upto a a=b++x::(List.finRange a).drop k:=by
  have:upto a a=upto a k++(List.finRange a).drop k:=by
   unfold upto;rw[List.take_of_length_le (by simp:(List.finRange a).length≤a),List.take_append_drop]
  rw[this,f];simp
 have:(List.range a).find? (fun q=>dS i (bK s.1 i q) s.1)=some x.1:=by
  rw[j,l];simp only[List.map_append,List.map_cons];rw[List.find?_append];have m:(b.map Fin.val).find? (fun q=>dS i (bK s.1 i q) s.1)=none:=by
   rw[List.find?_eq_none];intro q n;obtain⟨o,p,rfl⟩:=List.mem_map.1 n;rw[h o p]
   decide
  rw[m];simp[g]
 rw[this]
theorem Ow(a:bN)(g:Nat)(st:aQ)(F:Fl)(i:Nat)(w:World)(h:Mo w a g st F)(g3:dY st)(E:i<st.parts.length):
 Calls Tryz.prog 149 #[.pointer (some ⟨a.mb,0,none⟩),.pointer (some ⟨a.pb,i*14,none⟩)] w fun e w'=>e=.returned (.bool (gA i (st,F)).1)∧Mo w' a g (gA i (st,F)).2.1 (gA i (st,F)).2.2∧aH (Dm a g st) w w':=by
 have j1:Tryz.prog.follows .mixedOrders=true:=by kernel_rfl
 obtain⟨m,d5⟩:∃m,m=(st.part i).procs.length:=⟨_,rfl⟩;have j2:m≤1000:=by have:=h.ok.one i E;omega
 have b9:=h.mach.partAt i 9 E (by omega);have c0:=h.mach.partAt i 12 E (by omega);simp only[fK,List.getElem?_cons_succ,List.getElem?_cons_zero]at b9 c0;rw[←d5]at c0;have a5:=aI d5;have g4:=aN b9;clear d5;refine(callsIn_wide (n:=8)).1 ?_;refine callsIn_of_wp_marks Tryz.func149 rfl trivial ?_ rfl;simp only[Tryz.ntmps149,List.size_toArray,List.length_cons,List.length_nil,Nat.reduceAdd,Nat.reduceSub,Array.replicate_succ,Array.replicate_zero,List.push_toArray,List.append_toArray,List.nil_append,List.cons_append];obtain⟨G,a6⟩:∃G,G=gA i (st,F):=⟨_,rfl⟩;rw[←a6];have g5:=Boxed.new w 74 (.pointer (some ⟨a.mb,0,none⟩));have d6:=Boxed.new (w.alloc (.cells #[.pointer (some ⟨a.mb,0,none⟩)] 74)) 158 (.pointer (some ⟨a.pb,i*14,none⟩));have d7:=Boxed.new ((w.alloc (.cells #[.pointer (some ⟨a.mb,0,none⟩)] 74)).alloc (.cells #[.pointer (some ⟨a.pb,i*14,none⟩)] 158)) 4 (.bool false);simp only[World.size_alloc]at d6 d7;obtain⟨H,R⟩:∃H,H=((w.alloc (.cells #[.pointer (some ⟨a.mb,0,none⟩)] 74)).alloc (.cells #[.pointer (some ⟨a.pb,i*14,none⟩)] 158)).alloc (.cells #[.bool false] 4):=⟨_,rfl⟩;have S:Below w.heap.size w H:=by rw[R];exact((aG _ _).alloc (by simp) _).alloc (by simp;omega) _
 have c2:=h.mono S;have d8:H.heap.size=w.heap.size+3:=by rw[R];simp
 have j3:Hid (Calls Tryz.prog 77 #[.pointer (some ⟨a.pb,i*14,none⟩)] H fun e w'=>e=.returned (.bool ((st.part i).mode != 3))∧w'=H):=qM a.pb (i*14) _ H ((S.cell (p:=⟨a.pb,i*14+9,none⟩) g4).trans b9);have j4:=aI R;have g6:Boxed H w.heap.size 74 (.pointer (some ⟨a.mb,0,none⟩)):=by rw[R];exact(g5.alloc _).alloc _
 have d9:Boxed H (w.heap.size+1) 158 (.pointer (some ⟨a.pb,i*14,none⟩)):=by rw[R];exact d6.alloc _
 have V:Boxed H (w.heap.size+1+1) 4 (.bool false):=by rw[R];exact d7
 have e0:=aI d8;clear R g5 d6 d7
 gi_wp2_with fail
 rw[←j4.out];refine⟨trivial,?_⟩;refine(callsIn_wide.2 j3.out).mono ?_;rintro e w' ⟨rfl,rfl⟩
 by_cases X:(st.part i).mode=3
 ·have j5:((st.part i).mode != 3)=false:=by simp[X]
  have c3:Hid (G=(true,st,F)):=by show _=_;rw[a6];unfold gA;rw[if_pos X]
  have A:Hid (Mo (w'.setCell ⟨w.heap.size+1+1,0,none⟩ (.bool true)) a g st F∧aH (Dm a g st) w (w'.setCell ⟨w.heap.size+1+1,0,none⟩ (.bool true))∧(w'.setCell ⟨w.heap.size+1+1,0,none⟩ (.bool true)).cell? ⟨w.heap.size+1+1,0,none⟩=some (.bool true)):=by
   have u:aH (·=w.heap.size+1+1) w' (w'.setCell ⟨w.heap.size+1+1,0,none⟩ (.bool true)):=aH.ofSet w' _ _ _ rfl;exact⟨c2.box V (by decide) u,(aH.ofBelow S).trans u (fun i e=>.inr (by have L:i=w.heap.size+1+1:=e;omega)),(V.set (.bool true)).cell⟩
  have g7:=V.cell;have g8:=V.frozen;clear h c2 S a6 X d8
  gi_wp2
  rw[c3.out];exact⟨.bool true,by simp[results,Tryz.results149,go_sem,A.out.2.2],rfl,A.out.1,A.out.2.1⟩
 ·have j5:((st.part i).mode != 3)=true:=by simp[X]
  have j6:=d9.cell;have j7:w'.cell? ⟨a.pb,i*14+12,none⟩=some (.slice (some ⟨a.tn i,0,none⟩) m m):=(S.cell (p:=⟨a.pb,i*14+12,none⟩) g4).trans c0;have c3:=aI a6;have g9:=aI X;clear a6 X b9 c0 d8
  gi_wp2_with (refine⟨trivial,?_⟩;gi_at_call 187;refine(callsIn_wide.2 (Kd _ _ _)).mono ?_;rintro e l6 ⟨rfl,rfl⟩)
  have c4:=Boxed.new w' 115 (.slice (some ⟨a.tn i,0,none⟩) m m);have c5:Below w'.heap.size w' (w'.alloc (.cells #[.slice (some ⟨a.tn i,0,none⟩) m m] 115)):=aG _ _;have e1:=g6.alloc (.cells #[.slice (some ⟨a.tn i,0,none⟩) m m] 115);have e2:=d9.alloc (.cells #[.slice (some ⟨a.tn i,0,none⟩) m m] 115);have e3:=V.alloc (.cells #[.slice (some ⟨a.tn i,0,none⟩) m m] 115);have a7:=c2.mono c5;have e4:aH (Dm a g st) w (w'.alloc (.cells #[.slice (some ⟨a.tn i,0,none⟩) m m] 115)):=(aH.ofBelow S).andThen (aH.ofBelow c5);obtain⟨O,e5⟩:∃O,O=w'.alloc (.cells #[.slice (some ⟨a.tn i,0,none⟩) m m] 115):=⟨_,rfl⟩;have c6:O.heap.size=w'.heap.size+1:=by rw[e5];simp
  rw[←e5]at c4 c5 e1 e2 e3 a7 e4 ⊢;have c7:w.heap.size+3=w'.heap.size:=e0.out.symm;have a8:Hid (O.heap.size=w.heap.size+4):=by show _=_;omega
  have P:∀b,Dm a g st b→b<w.heap.size:=fun b r=>h.lt b r
  clear e5;refine wpIn_rangeFunc_ownG rfl (by omega) (gf:=208) (lb:=#[.pointer (some ⟨w'.heap.size,0,none⟩)]) rfl trivial (enters_of Tryz.func208 (by kernel_rfl) rfl)
   (Bp _ _ trivial rfl (by omega) m j2 w'.heap.size (a.tn i) O (by omega) c4) (fun h k=>k.trans h) (fun W l o l7 l8 _ _ _=>World.putObj_heap_other (by omega)) (Below.refl _ _) (fun _=>rfl)
   (fun M W=>(∀q∈M,dS i (bK st i q.1) st=false)∧Mo W a g st F∧Boxed W w.heap.size 74 (.pointer (some ⟨a.mb,0,none⟩))∧Boxed W (w.heap.size+1) 158 (.pointer (some ⟨a.pb,i*14,none⟩))∧Boxed W (w.heap.size+1+1) 4 (.bool false)∧Boxed W w'.heap.size 115 (.slice (some ⟨a.tn i,0,none⟩) m m)∧aH (Dm a g st) w W)
   (fun c M W=>(c=.ret∧∃N x,M=N++[x]∧(∀q∈N,dS i (bK st i q.1) st=false)∧dS i (bK st i x.1) st=true∧Mo W a g (lS i (bK st i x.1) (st,F)).2.1 (lS i (bK st i x.1) (st,F)).2.2∧Boxed W (w.heap.size+1+1) 4 (.bool (lS i (bK st i x.1) (st,F)).1))∧aH (Dm a g st) w W)
   (OwnFrom.and (ownFrom_pure _ _) (OwnFrom.and (gF (fun _=>st) (fun _=>F) (fun _ b r=>by have:=P b r;omega)) (OwnFrom.and (Own.from (boxed_own _ _ _) _) (OwnFrom.and (Own.from (boxed_own _ _ _) _) (OwnFrom.and (Own.from (boxed_own _ _ _) _) (OwnFrom.and (Own.from (boxed_own _ _ _) _) (dZ (by omega))))))))
   (fun c=>OwnFrom.and ?ownx (dZ (by omega)))
   ⟨fun q j8=>(List.not_mem_nil j8).elim,a7,e1,e2,e3,c4,e4⟩
   (fun q=>{ tmps:=#[.pointer (some ⟨a.mb,0,none⟩),.pointer (some ⟨a.pb,i*14,none⟩),.pointer (some ⟨w.heap.size,0,none⟩),.pointer (some ⟨w.heap.size+1,0,none⟩),.pointer (some ⟨w.heap.size+1+1,0,none⟩),undef,.pointer (some ⟨a.tn i,q.1,none⟩),undef,undef,undef,.pointer (some ⟨a.pb,i*14,none⟩),.bool true,.bool false,.pointer (some ⟨a.pb,i*14,none⟩),.pointer (some ⟨a.pb,i*14,none⟩),.pointer (some ⟨a.pb,i*14+12,none⟩),.agg #[.slice (some ⟨a.tn i,0,none⟩) m m],.func (.func 208) #[] #[.pointer (some ⟨w'.heap.size,0,none⟩)],.int .i64 q.1,.pointer (some ⟨a.tn i,q.1,none⟩),undef,undef,undef,undef,undef,undef,undef,undef,undef,undef,undef,undef,undef,undef,undef,undef,undef,undef,undef,undef,undef,undef,undef,undef,undef,undef,undef,undef],defers:=[] }) ?assign ?body ?done ?stop
  case ownx=>
   rintro M W j9 row ⟨Y,N,x,a9,L,b0,Z,a0⟩ a1 B;refine⟨Y,N,x,a9,L,b0,?_,a0.kept a1 (fun e=>?_)⟩
   ·exact gF (fun _:Unit=>(lS i (bK st i x.1) (st,F)).2.1) (fun _=>(lS i (bK st i x.1) (st,F)).2.2) (fun _ b r=>by have:=P b (Dm.like (tT i _ (st,F)) r);omega) () W j9 row Z a1 B
   ·obtain⟨o,h0,k0⟩:=(B _ e.symm).2;rw[show W.heap[w.heap.size+1+1]?=_ from a0]at h0;cases h0
    cases k0
  case assign=>
   intro l q W K s;clear c6 c7
   gi_wp2
   exact s
  case body=>
   rintro l M q W ⟨b1,a2,b2,r,B,Y,Q⟩ l9;have k1:q.1<(st.part i).procs.length:=by rw[←a5.out];exact q.2
   obtain⟨a3,e6⟩:=Gb st h.ok i q.1 E k1;have k2:Hid (∀b,dS i (bK st i q.1) st=b→dS i (bK st i q.1) st=b):=fun _ h=>h
   obtain⟨j,e7⟩:∃j,j=bK st i q.1:=⟨_,rfl⟩;rw[←e7]at a3 e6;have c8:=aI e7;obtain⟨ι,m0,f,b3,a1⟩:=lA W;have k3:Hid (∃i,W.drew=f i):=a1 _ (Below.refl _ _).drew;have T:Hid (∀d,Mo (f d) a g st F):=fun d=>a2.mono (b3 d)
   have h1:∀ {x:Nat} {t:TypeId} {v:Value},Boxed W x t v→∀d,Boxed (f d) x t v:=fun I d=>((b3 d).block _ I.lt).trans I
   have m1:∀d,(f d).cell? ⟨w.heap.size+1,0,none⟩=some (.pointer (some ⟨a.pb,i*14,none⟩)):=fun d=>(h1 r d).cell
   have a9:∀d,(f d).cell? ⟨w.heap.size,0,none⟩=some (.pointer (some ⟨a.mb,0,none⟩)):=fun d=>(h1 b2 d).cell
   have L:∀d,(f d).cell? ⟨a.pb,i*14+11,none⟩=some (.slice (some ⟨a.pr i,0,none⟩) m m):=fun d=>by
    have:=(T.out d).mach.partAt i 11 E (by omega);simp only[fK,List.getElem?_cons_succ,List.getElem?_cons_zero]at this;rw[←a5.out]at this;exact this
   have b0:∀d,(f d).cell? ⟨a.tn i,q.1,none⟩=some (.int .i64 j):=fun d=>by
    rw[cell_of_row _ _ _ _ _ _ ((T.out d).mach.turns i E),List.getElem?_toArray,List.getElem?_map];show Option.map _ ((fM (st.part i).procs.length (fD (st.cpart i)))[q.1]?)=_
    rw[e6];rfl
   have Z:∀d,(f d).cell? ⟨a.mb,6,none⟩=some (.int .i64 st.now):=fun d=>by
    have:=(T.out d).mach.machAt 6
    simpa using this
   have k4:Hid (∀d,Calls Tryz.prog 79 #[.agg #[.slice (some ⟨a.pr i,0,none⟩) m m],.int .i64 j] (f d) fun e w'=>e=.returned (.pointer (some ⟨a.pr i,j*6,none⟩))∧∃k,w'=f k):=fun d=>Calls.inClass b3 a1 d (sD _ _ j _ (by rw[a5.out];exact a3))
   have k5:Hid (∀d,Calls Tryz.prog 188 #[.pointer (some ⟨a.pr i,j*6,none⟩),.int .i64 st.now] (f d) fun e w'=>e=.returned (.bool (!(st.proc i j).stopped&&decide ((st.proc i j).til≤st.now)))∧w'=f d):=fun d=>by
    have p3:=(T.out d).mach.procAt i j 3 E a3 (by omega);have h2:=(T.out d).mach.procAt i j 4 E a3 (by omega);simp only[aY,List.getElem?_cons_succ,List.getElem?_cons_zero]at p3 h2;exact Oo (a.pr i) (j*6) _ _ st.now (f d) p3 h2
   have h3:Hid (∀d,aH (Dm a g st) W (f d)):=fun d=>aH.ofBelow (b3 d)
   have a4:=aI P;have h4:=aI b1;have m2:=aI a2;have h5:=aI b2;have h6:=aI r;have e8:=aI B;have h7:=aI Y;have h8:=aI Q;have m3:=aI h;have h9:=aI g3;have e9:Hid (∀z:World,dS i j st=false→aH (Dm a g st) W z→Mo z a g st F→KeepsFrom O.heap.size W z∧z.heap[w'.heap.size]?=W.heap[w'.heap.size]?∧(∀x∈M++[q],dS i (bK st i x.1) st=false)∧Mo z a g st F∧Boxed z w.heap.size 74 (.pointer (some ⟨a.mb,0,none⟩))∧Boxed z (w.heap.size+1) 158 (.pointer (some ⟨a.pb,i*14,none⟩))∧Boxed z (w.heap.size+1+1) 4 (.bool false)∧Boxed z w'.heap.size 115 (.slice (some ⟨a.tn i,0,none⟩) m m)∧aH (Dm a g st) w z):=fun z c9 d0 k6=>by
    have d1:∀ {x:Nat} {t:TypeId} {v:Value},w.heap.size≤x→Boxed W x t v→Boxed z x t v:=fun I b4=>(d0.block _ b4.lt (fun C=>by have:=a4.out _ C;omega)).trans b4
    refine⟨eY d0 (fun b r=>by have:=a4.out b r;have:=a8.out;omega),d0.block _ h7.out.lt (fun C=>by have:=a4.out _ C;have:=e0.out;omega),fun x I=>?_,k6,d1 (Nat.le_refl _) h5.out,d1 (by omega) h6.out,d1 (by omega) e8.out,d1 (by have:=e0.out;omega) h7.out,h8.out.andThen d0⟩;rcases List.mem_append.1 I with I| I
    ·exact h4.out x I
    ·rw[List.mem_singleton.1 I,←c8.out];exact c9
   have d2:Hid (dS i j st=((!(st.proc i j).stopped&&decide ((st.proc i j).til≤st.now))&&(dI i j st).1.2)):=rfl;clear b1 a2 b2 r B Y Q a7 b3 a1 e6 e7 P c6 c7 g6 d9 V e1 e2 e3 c4 c2 e4 S c5 j6 j7 k2 h g3
   gi_wp2_with fail
   refine sM f (by kernel_rfl) j1 (by kernel_rfl) k3.out ?_
   repeat (refine wpQuietIn_step (fun _ _ _ _=>trivial) (fun K s=>?_);go_simp;first| (refine s _ ?_;clear s K)| (apply Exists.intro;refine⟨fun _=>?_,s _ ?_⟩;(gi_at_call 79;exact CallsIn.inRound l (callsIn_wide.2 (k4.out _)));clear s K))
   refine wpQuietIn_nil ?_;rintro _ ⟨d,rfl⟩
   gi_wp2_with fail
   refine⟨trivial,?_⟩;refine(CallsIn.inRound l (callsIn_wide.2 (k5.out d))).mono ?_;rintro e m4 ⟨rfl,rfl⟩;cases haw:(!(st.proc i j).stopped&&decide ((st.proc i j).til≤st.now))with
   | false=>
    have f0:=aI (e9.out (f d) (by rw[d2.out,haw];rfl) (h3.out d) (T.out d));clear haw
    gi_wp2
    exact f0.out
   | true=>
    have i0:(st.proc i j).stopped=false:=by
     simp only[Bool.and_eq_true,Bool.not_eq_true']at haw;exact haw.1
    rw[haw,Bool.true_and]at d2;have i1:=aI (Co a g st F i j (f d) (T.out d) h9.out E a3 i0);clear haw
    gi_wp2_with fail
    refine⟨trivial,?_⟩;refine(CallsIn.inRound l (callsIn_wide.2 i1.out)).mono ?_;rintro e d3 ⟨rfl,b5,f1⟩;have b6:aH (Dm a g st) W d3:=(h3.out d).andThen f1;cases hrd:(dI i j st).1.2 with
    | false=>
     have i2:=Pn i j st hrd;rw[i2]at b5;have f0:=aI (e9.out d3 (by rw[d2.out,hrd]) b6 b5);clear b5 f1 b6 hrd i2;generalize (dI i j st).1.1=rc at *
     gi_wp2
     exact f0.out
    | true=>
     have i3:=uG i j st;have f2:(dI i j st).2.parts=st.parts:=sA i j st;have f3:(dI i j st).2.part i=st.part i:=by unfold aQ.part;rw[f2]
     have i4:(dI i j st).2.proc i j=st.proc i j:=by unfold aQ.proc;rw[f3]
     have f4:=aI (Ql a g (dI i j st).2 F i j (dI i j st).1.1 d3 b5 (Fs i j st h9.out) (by rw[f2];exact E) (by rw[f3];exact a3) (by rw[i4];exact i0));have k7:Hid (lS i j (st,F)=oG i j (dI i j st).1.1 ((dI i j st).2,F)):=rfl;rw[←k7.out]at f4;have k8:Hid (dS i j st=true):=by show _=_;rw[d2.out,hrd]
     have f5:∀ {x:Nat} {t:TypeId} {v:Value},w.heap.size≤x→Boxed W x t v→Boxed d3 x t v:=fun I b4=>(b6.block _ b4.lt (fun C=>by have:=a4.out _ C;omega)).trans b4
     have m5:=(f5 (Nat.le_refl _) h5.out).cell;have c1:=(f5 (by omega) h6.out).cell;have k9:=aI b6;have l0:=aI i3;clear b5 f1 b6 hrd i3 f2 f3 i4 f5 i1 e9;generalize (dI i j st).1.1=rc at *
     gi_wp2_with fail
     refine⟨trivial,?_⟩;refine(CallsIn.inRound l (callsIn_wide.2 f4.out)).mono ?_;rintro e J ⟨rfl,i5,i6⟩;have d4:aH (Dm a g st) W J:=k9.out.andThen (i6.to (fun b r=>Dm.like l0.out r));have b7:Boxed J (w.heap.size+1+1) 4 (.bool false):=(d4.block _ e8.out.lt (fun C=>by have:=a4.out _ C;omega)).trans e8.out;have g7:=b7.cell;have g8:=b7.frozen;have A:Hid (∀U,U=(lS i j (st,F)).1→KeepsFrom O.heap.size W (J.setCell ⟨w.heap.size+1+1,0,none⟩ (.bool U))∧(∃N x,M++[q]=N++[x]∧(∀y∈N,dS i (bK st i y.1) st=false)∧dS i (bK st i x.1) st=true∧Mo (J.setCell ⟨w.heap.size+1+1,0,none⟩ (.bool U)) a g (lS i (bK st i x.1) (st,F)).2.1 (lS i (bK st i x.1) (st,F)).2.2∧Boxed (J.setCell ⟨w.heap.size+1+1,0,none⟩ (.bool U)) (w.heap.size+1+1) 4 (.bool (lS i (bK st i x.1) (st,F)).1))∧aH (Dm a g st) w (J.setCell ⟨w.heap.size+1+1,0,none⟩ (.bool U))):=fun U l1=>by
      have u:aH (·=w.heap.size+1+1) J (J.setCell ⟨w.heap.size+1+1,0,none⟩ (.bool U)):=aH.ofSet J _ _ _ rfl;have f6:KeepsFrom O.heap.size W J:=eY d4 (fun b r=>by have:=a4.out b r;have:=a8.out;omega);refine⟨⟨Nat.le_trans f6.size u.size,fun x o c9 i7 i8=>(u.block x (aR (f6.same x o c9 i7 i8)) (by intro e;have L:x=w.heap.size+1+1:=e;have:=a8.out;omega)).trans (f6.same x o c9 i7 i8)⟩,⟨M,q,rfl,h4.out,by rw[←c8.out];exact k8.out,?_,?_⟩,(h8.out.andThen d4).trans u (fun i e=>.inr (by have L:i=w.heap.size+1+1:=e;omega))⟩
      ·rw[←c8.out];exact i5.box b7 (by decide) u
      ·rw[←c8.out,←l1];exact b7.set _
     clear i5 i6 d4 b7 f4;generalize m6:(lS i j (st,F)).1=l2 at *
     gi_wp2
     have f7:=A.out l2 rfl;exact⟨f7.1,⟨rfl,f7.2.1⟩,f7.2.2⟩
  case done=>
   rintro D m7 W l3 rfl ⟨b1,a2,b2,r,B,Y,Q⟩ s;have l4:Hid (G=(true,st,F)):=by show _=_;rw[c3.out];exact Jn i (st,F) m a5.out g9.out b1
   have g7:=B.cell;have g8:=B.frozen;have f8:=a8.out;have u:aH (·=w.heap.size+1+1) W (W.setCell ⟨w.heap.size+1+1,0,none⟩ (.bool true)):=aH.ofSet W _ _ _ rfl;have f9:(W.setCell ⟨w.heap.size+1+1,0,none⟩ (.bool true)).heap[D]?=some (.deferred (some [])):=(u.block D (aR s) (by omega)).trans s;have i9:=a2.box B (by decide) u;have A:Hid (Mo ((W.setCell ⟨w.heap.size+1+1,0,none⟩ (.bool true)).putObj D (.deferred none)) a g st F∧aH (Dm a g st) w ((W.setCell ⟨w.heap.size+1+1,0,none⟩ (.bool true)).putObj D (.deferred none))):=
    ⟨i9.put f9 rfl (fun C=>by have:=P D C;omega) _,(Q.trans u (fun i e=>.inr (by have L:i=w.heap.size+1+1:=e;omega))).put (by omega) _⟩
   have b8:((W.setCell ⟨w.heap.size+1+1,0,none⟩ (.bool true)).putObj D (.deferred none)).cell? ⟨w.heap.size+1+1,0,none⟩=some (.bool true):=by
    rw[World.cell?_of_block (World.putObj_heap_other (by dsimp only;omega))];exact(B.set (.bool true)).cell
   have g0:=aI f9;have g1:=aI b8;clear b1 a2 b2 B Y Q s f9 i9 u b8 a7 P h c6 c7 f8
   gi_wp2
   refine⟨by simp,.inl ⟨_,_,rfl,run_takeDeferred g0.out,?_⟩⟩;rw[l4.out];exact⟨.bool true,by simp[results,Tryz.results149,go_sem,g1.out],rfl,A.out.1,A.out.2⟩
  case stop=>
   rintro D c M W l3 ⟨k,m8,l5⟩ ⟨⟨rfl,N,x,a9,L,b0,Z,a0⟩,Q⟩ s;have g2:G=lS i (bK st i x.1) (st,F):=by
    rw[c3.out];exact Jm i (st,F) m a5.out g9.out k N x (by rw[←l5];exact a9) L b0
   rw[←g2]at Z a0;have j0:Lk st G.2.1:=by rw[g2];exact tT i (bK st i x.1) (st,F)
   have f8:=a8.out;have A:Hid (Mo (W.putObj D (.deferred none)) a g G.2.1 G.2.2∧aH (Dm a g st) w (W.putObj D (.deferred none))):=
    ⟨Z.put s rfl (fun C=>by have:=P D (Dm.like j0 C);omega) _,Q.put (by omega) _⟩
   have b8:(W.putObj D (.deferred none)).cell? ⟨w.heap.size+1+1,0,none⟩=some (.bool G.1):=by
    rw[World.cell?_of_block (World.putObj_heap_other (by dsimp only;omega))];exact a0.cell
   have g0:=aI s;have g1:=aI b8;clear a9 L b0 Z a0 Q s b8 a7 P h c6 c7 f8 g2 j0
   gi_wp2
   refine⟨by simp,.inl ⟨_,_,rfl,run_takeDeferred g0.out,?_⟩⟩;exact⟨.bool G.1,by simp[results,Tryz.results149,go_sem,g1.out],rfl,A.out.1,A.out.2⟩
end
end Go.Proofs.YtnjlbgolnbdkaaaGreat
