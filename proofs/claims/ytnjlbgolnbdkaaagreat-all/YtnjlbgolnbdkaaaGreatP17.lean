/- All, with short names -/
import Derived.Test.YtnjlbgolnbdkaaaGreatP16
import Derived.Conc.LoneSelect
set_option maxRecDepth 100000
set_option maxHeartbeats 16000000
namespace Go.Proofs.YtnjlbgolnbdkaaaGreat
open Go Go.RowKit
section
open Go.RowKit Go.Shelf
attribute [local go_sem] Oper.semAt_some
theorem Mo.box{W j:World}{l:bN}{g b:Nat}{st:aQ}{F:Fl}{c:Array Value}{T:TypeId}(h:Mo W l g st F)(u:W.heap[b]?=some (.cells c T (0,0)))(a:T≠145∧T≠120∧T≠3∧T≠166∧T≠131∧T≠139∧T≠210∧T≠80)(v:aH (·=b) W j):Mo j l g st F:=by
 have n:∀ {x:Nat} {m:Array Value} {t:TypeId},W.heap[x]?=some (Obj.cells m t (0,0))→T≠t→j.heap[x]?=W.heap[x]?:=fun f o=>v.block _ (lt_of_block f) (fun e=>bG u f o (show b=_ from(show _=b from e).symm))
 have kc:∀ {x:Nat} {m:Array Value} {t:TypeId},W.heap[x]?=some (Obj.cells m t (0,0))→T≠t→j.heap[x]?=some (Obj.cells m t (0,0)):=fun f o=>(n f o).trans f
 refine⟨⟨kc h.mach.mach a.1,kc h.mach.parts a.2.1,fun i d=>kc (h.mach.words i d) a.2.2.1,fun i d=>kc (h.mach.procs i d) a.2.2.2.1,fun i d=>kc (h.mach.turns i d) a.2.2.1,kc h.mach.wins a.2.2.2.2.1,kc h.mach.chans a.2.2.2.2.2.1,fun p z=>?_,fun i k d y=>?_⟩,h.lay,h.ok,h.fl.keep (n h.fl.blk a.2.2.2.2.2.2.2),h.flok⟩
 ·obtain⟨s,r,q⟩:=h.mach.queue p z;exact⟨s,r,(v.block _ (lt_of_block q) (fun e=>fX u q (show b=l.ch p from(show l.ch p=b from e).symm))).trans q⟩
 ·refine aO (h.mach.code i k d y) (fun x e=>?_);obtain⟨cur,A⟩:=cV (h.mach.code i k d y) e;exact n A a.2.2.2.2.2.2.1
theorem Dm.like{c:bN}{g:Nat}{s d:aQ}(h:Lk s d){b:Nat}:Dm c g d b→Dm c g s b:=fun a=>by
 unfold Dm at a ⊢;rw[h.cf,h.len]at a;exact a
theorem Eu(a:bN)(g:Nat)(st:aQ)(F:Fl)(w:World)(h:Mo w a g st F)(d7:dY st):
 Calls Tryz.prog 106 #[.pointer (some ⟨a.mb,0,none⟩)] w fun e w'=>e=.returned (.bool (dW (st,F)).1)∧Mo w' a g (dW (st,F)).2.1 (dW (st,F)).2.2∧aH (Dm a g st) w w':=by
 have b7:Tryz.prog.follows .mixedOrders=true:=by kernel_rfl
 obtain⟨j,b8⟩:∃j,j=st.parts.length:=⟨_,rfl⟩;have f0:j≤1000:=by have:=h.ok.good.few;have:=h.ok.len;omega
 have c2:=h.mach.machAt 2;have b9:=h.mach.machAt 3;simp only[List.getElem?_toArray,List.getElem?_cons_succ,List.getElem?_cons_zero]at c2 b9;rw[←b8]at b9;have a5:=aI b8;have f1:=aI h;have g8:=lt_of_block h.mach.mach;clear b8;refine(callsIn_wide (n:=4)).1 ?_;refine callsIn_of_wp_marks Tryz.func106 rfl trivial ?_ rfl;simp only[Tryz.ntmps106,List.size_toArray,List.length_cons,List.length_nil,Nat.reduceAdd,Nat.reduceSub,Array.replicate_succ,Array.replicate_zero,List.push_toArray,List.append_toArray,List.nil_append,List.cons_append];obtain⟨G,H⟩:∃G,G=dW (st,F):=⟨_,rfl⟩;rw[←H];unfold dW at H;simp only at H
 by_cases z:st.cf.watch=0
 ·rw[if_pos z]at H;have f2:(st.cf.watch == 0)=true:=by simp[z]
  have Q:=aI H;clear h H z;have A:Hid (Mo ((w.alloc (.cells #[.pointer (some ⟨a.mb,0,none⟩)] 74)).alloc (.cells #[.bool true] 4)) a g st F∧aH (Dm a g st) w ((w.alloc (.cells #[.pointer (some ⟨a.mb,0,none⟩)] 74)).alloc (.cells #[.bool true] 4))):=by
   have v:Below w.heap.size w ((w.alloc (.cells #[.pointer (some ⟨a.mb,0,none⟩)] 74)).alloc (.cells #[.bool true] 4)):=(aG _ _).alloc (by simp) _;exact⟨f1.out.mono v,aH.ofBelow v⟩
  gi_wp2
  rw[Q.out];exact⟨.bool true,by simp[results,Tryz.results106,go_sem],rfl,A.out.1,A.out.2⟩
 ·rw[if_neg z]at H;have f2:(st.cf.watch == 0)=false:=by simp[z]
  have Q:=aI H;clear H z
  gi_wp2_with (refine⟨trivial,?_⟩;gi_at_call 145;refine(callsIn_wide.2 (qR _ _ _)).mono ?_;rintro e w' ⟨rfl,rfl⟩)
  have d8:=Boxed.new w 74 (.pointer (some ⟨a.mb,0,none⟩));have c0:=Boxed.new (w.alloc (.cells #[.pointer (some ⟨a.mb,0,none⟩)] 74)) 4 (.bool false);have a6:=Boxed.new ((w.alloc (.cells #[.pointer (some ⟨a.mb,0,none⟩)] 74)).alloc (.cells #[.bool false] 4)) 111 (.slice (some ⟨a.pb,0,none⟩) j j);simp only[World.size_alloc]at a6 c0;have d9:=(d8.alloc (.cells #[.bool false] 4)).alloc (.cells #[.slice (some ⟨a.pb,0,none⟩) j j] 111);have e0:=c0.alloc (.cells #[.slice (some ⟨a.pb,0,none⟩) j j] 111);obtain⟨D,a7⟩:∃D,D=((w.alloc (.cells #[.pointer (some ⟨a.mb,0,none⟩)] 74)).alloc (.cells #[.bool false] 4)).alloc (.cells #[.slice (some ⟨a.pb,0,none⟩) j j] 111):=⟨_,rfl⟩;have f3:D.heap.size=w.heap.size+3:=by rw[a7];simp
  have e1:Below w.heap.size w D:=by rw[a7];exact((aG _ _).alloc (by simp) _).alloc (by simp;omega) _
  rw[←a7]at a6 d9 e0 ⊢;have a8:=h.mono e1;have a9:=aI f3;clear a7 d8 c0;have I:∀b,Dm a g st b→b<w.heap.size:=fun b v=>h.lt b v
  have e2:∀d:List (Fin j),cS (loopL cF d (st,F)).2:=fun d=>cS.loopL cF Lk.watch (fun k s f4 V=>f4.watch k V) (st,F) a5.out d _ ⟨d7,h.ok⟩ (Lk.refl _)
  have R:∀d:List (Fin j),Lk st (loopL cF d (st,F)).2.1:=fun d=>Lk.loopL cF Lk.watch (st,F) d _ (Lk.refl _)
  refine wpIn_rangeFunc_ownG rfl (by omega) (gf:=184) (lb:=#[.pointer (some ⟨w.heap.size+1+1,0,none⟩)]) rfl trivial (enters_of Tryz.func184 (by kernel_rfl) rfl)
   (nR _ _ trivial rfl (by omega) j f0 (w.heap.size+1+1) a.pb D (by omega) a6) (fun h k=>k.trans h) (fun W l o g9 S _ _ _=>World.putObj_heap_other (by omega)) (Below.refl _ _) (fun _=>rfl)
   (fun d W=>((loopL cF d (st,F)).1=true)∧Mo W a g (loopL cF d (st,F)).2.1 (loopL cF d (st,F)).2.2∧Boxed W w.heap.size 74 (.pointer (some ⟨a.mb,0,none⟩))∧Boxed W (w.heap.size+1) 4 (.bool false)∧Boxed W (w.heap.size+1+1) 111 (.slice (some ⟨a.pb,0,none⟩) j j)∧aH (Dm a g st) w W)
   (fun c d W=>(c=.ret∧(loopL cF d (st,F)).1=false)∧Mo W a g (loopL cF d (st,F)).2.1 (loopL cF d (st,F)).2.2∧Boxed W (w.heap.size+1) 4 (.bool false)∧aH (Dm a g st) w W)
   (OwnFrom.and (ownFrom_pure _ _) (OwnFrom.and (gF (fun d=>(loopL cF d (st,F)).2.1) (fun d=>(loopL cF d (st,F)).2.2) (fun d b v=>by have:=I b (Dm.like (R d) v);omega)) (OwnFrom.and (Own.from (boxed_own _ _ _) _) (OwnFrom.and (Own.from (boxed_own _ _ _) _) (OwnFrom.and (Own.from (boxed_own _ _ _) _) (dZ (by omega)))))))
   (fun c=>OwnFrom.and (ownFrom_pure _ _) (OwnFrom.and (gF (fun d=>(loopL cF d (st,F)).2.1) (fun d=>(loopL cF d (st,F)).2.2) (fun d b v=>by have:=I b (Dm.like (R d) v);omega)) (OwnFrom.and (Own.from (boxed_own _ _ _) _) (dZ (by omega)))))
   ⟨rfl,a8,d9,e0,a6,aH.ofBelow e1⟩
   (fun k=>{ tmps:=#[.pointer (some ⟨a.mb,0,none⟩),.pointer (some ⟨w.heap.size,0,none⟩),.pointer (some ⟨w.heap.size+1,0,none⟩),undef,.pointer (some ⟨a.pb,k.1*14,none⟩),.pointer (some ⟨a.mb,0,none⟩),.pointer (some ⟨a.mb,0,none⟩),.pointer (some ⟨a.mb,2,none⟩),.int .i64 st.cf.watch,.bool false,.pointer (some ⟨a.mb,0,none⟩),.pointer (some ⟨a.mb,0,none⟩),.pointer (some ⟨a.mb,3,none⟩),.agg #[.slice (some ⟨a.pb,0,none⟩) j j],.func (.func 184) #[] #[.pointer (some ⟨w.heap.size+1+1,0,none⟩)],.int .i64 k.1,.pointer (some ⟨a.pb,k.1*14,none⟩),undef,undef,undef,undef,undef,undef,undef,undef,undef,undef,undef,undef,undef,undef,undef,undef,undef,undef,undef,undef,undef,undef,undef,undef,undef,undef,undef,undef,undef,undef],defers:=[] }) ?assign ?body ?done ?stop
  case assign=>
   intro l k W K m
   gi_wp2
   exact m
  case body=>
   rintro l d k W ⟨y,u,X,B,b0,M⟩ f5;have S:=R d;obtain⟨f,Y⟩:∃f,f=loopL cF d (st,F):=⟨_,rfl⟩;rw[←Y]at y u S;have N:k.1<f.2.1.parts.length:=by rw[S.len,←a5.out];exact k.2
   have c1:=u.mach.partAt k.1 9 N (by omega);have f6:=u.mach.partAt k.1 13 N (by omega);simp only[fK,List.getElem?_cons_succ,List.getElem?_cons_zero]at c1 f6;have f7:=u.mach.machAt 2;have f8:=u.mach.machAt 6;simp only[List.getElem?_toArray,List.getElem?_cons_succ,List.getElem?_cons_zero]at f7 f8;have h0:=X.cell;have h1:=aJ u.mach.parts (k.1*14+13);have c3:Hid (∀q,Calls Tryz.prog 77 #[.pointer (some ⟨a.pb,k.1*14,none⟩)] (W.drewN q) fun e w'=>e=.returned (.bool ((f.2.1.part k.1).mode != 3))∧w'=W.drewN q):=fun q=>qM a.pb (k.1*14) _ (W.drewN q) c1
   have O:=aI (rY cF d k (st,F) (by rw[←Y];exact y));rw[←Y]at O;have T:Hid (cF k.1 f.2=if(f.2.1.part k.1).mode=3∨f.2.1.now-(f.2.1.part k.1).watch<f.2.1.cf.watch then(true,f.2)else cK k.1 0 5 (f.2.1.setPart k.1 { f.2.1.part k.1 with watch:=f.2.1.now },f.2.2)):=rfl;have Z:=e2 d;rw[←Y]at Z;have h2:=Z.1.watch k.1 N;have h3:=Z.1.now;have f9:=(Z.2.one k.1 N).1;have b1:Hid (∀q,Calls Tryz.prog 78 #[.pointer (some ⟨a.mb,0,none⟩),.pointer (some ⟨a.pb,k.1*14,none⟩),.pointer none,.int .i64 5] ((W.drewN q).setCell ⟨a.pb,k.1*14+13,none⟩ (.int .i64 f.2.1.now)) fun e w'=>e=.returned (.bool (cK k.1 0 5 (f.2.1.setPart k.1 { f.2.1.part k.1 with watch:=f.2.1.now },f.2.2)).1)∧Mo w' a g (cK k.1 0 5 (f.2.1.setPart k.1 { f.2.1.part k.1 with watch:=f.2.1.now },f.2.2)).2.1 (cK k.1 0 5 (f.2.1.setPart k.1 { f.2.1.part k.1 with watch:=f.2.1.now },f.2.2)).2.2∧aH (Dm a g st) W w'):=fun q=>by
    have e3:Mo (W.drewN q) a g f.2.1 f.2.2:=u.mono ⟨rfl,rfl,rfl,Nat.le_refl _,fun _ _=>rfl⟩;have e4:=e3.setPart k.1 { f.2.1.part k.1 with watch:=f.2.1.now } rfl rfl (aH.ofSet (W.drewN q) a.pb (k.1*14+13) (.int .i64 f.2.1.now) rfl) (e3.mach.setWatch k.1 f.2.1.now N);refine(qZ a g _ f.2.2 k.1 0 5 none _ e4.1 (by rw[aQ.setPart_len];exact N) (by rw[aQ.part_set N];exact f9) (by omega) (.inr rfl)).mono ?_;rintro e w' ⟨b2,b3,J⟩;exact⟨b2,b3,(aH.ofDrewN W q).andThen ((e4.2.to (fun b v=>Dm.like S v)).andThen (J.to (fun b v=>Dm.like S (Dm.like (Lk.setPart _ _ _) v))))⟩
   have b4:=aI y;have g0:=aI u;have c4:=aI X;have c5:=aI B;have c6:=aI b0;have c7:=aI M;have b5:=aI I;have h4:¬a.pb=w.heap.size:=by have:=I a.pb (.inr (.inl rfl));omega
   clear y u X B b0 M a8 c2 b9 f5 e2 R S Z c1 Y I h d7;obtain⟨h5,p,c8⟩:=f;simp only at *;have c9:IntKind.i64.wrap (p.now-(p.part k.1).watch)=p.now-(p.part k.1).watch:=by rw[IntKind.wrap_i64];omega
   have g1:Hid (cF k.1 (p,c8)=(true,p,c8)→KeepsFrom D.heap.size W (W.drewN 1)∧True):=fun _=>⟨⟨Nat.le_refl _,fun _ _ _ z _=>z⟩,trivial⟩
   have d0:Hid (∀q,loopL cF (d++[k]) (st,F)=(true,p,c8)→KeepsFrom D.heap.size W (W.drewN q)∧(W.drewN q).heap[w.heap.size+1+1]?=W.heap[w.heap.size+1+1]?∧((loopL cF (d++[k]) (st,F)).1=true)∧Mo (W.drewN q) a g (loopL cF (d++[k]) (st,F)).2.1 (loopL cF (d++[k]) (st,F)).2.2∧Boxed (W.drewN q) w.heap.size 74 (.pointer (some ⟨a.mb,0,none⟩))∧Boxed (W.drewN q) (w.heap.size+1) 4 (.bool false)∧Boxed (W.drewN q) (w.heap.size+1+1) 111 (.slice (some ⟨a.pb,0,none⟩) j j)∧aH (Dm a g st) w (W.drewN q)):=fun q e=>by
    rw[e];exact⟨⟨Nat.le_refl _,fun _ _ _ z _=>z⟩,rfl,rfl,g0.out.mono ⟨rfl,rfl,rfl,Nat.le_refl _,fun _ _=>rfl⟩,c4.out,c5.out,c6.out,c7.out.drewN2 q⟩
   clear g1
   by_cases J:(p.part k.1).mode=3
   ·have g2:((p.part k.1).mode != 3)=false:=by simp[J]
    rw[if_pos (.inl J)]at T;rw[T.out]at O;clear J b1;generalize (p.part k.1).mode=mo at *;generalize (p.part k.1).watch=g3 at *
    gi_wp2_with fail
    refine fE (by kernel_rfl) b7 (by kernel_rfl) ?_
    repeat (refine wpQuietIn_step (fun _ _ _ _=>trivial) (fun K m=>?_);go_simp;first| (refine m _ ?_;clear m K)| (apply Exists.intro;refine⟨fun _=>?_,m _ ?_⟩;(gi_at_call 77;exact CallsIn.quiet_of_same (CallsIn.inRound l (callsIn_wide.2 (c3.out _))));clear m K))
    refine wpQuietIn_nil ?_;intro _ a0;obtain⟨nq,a1⟩:=a0;subst a1
    gi_wp2
    exact d0.out _ O.out
   ·have g2:((p.part k.1).mode != 3)=true:=by simp[J]
    by_cases d1:p.now-(p.part k.1).watch<p.cf.watch
    ·rw[if_pos (.inr d1)]at T;rw[T.out]at O;clear J b1;generalize (p.part k.1).mode=mo at *;generalize (p.part k.1).watch=g3 at *
     gi_wp2_with fail
     refine fE (by kernel_rfl) b7 (by kernel_rfl) ?_
     repeat (refine wpQuietIn_step (fun _ _ _ _=>trivial) (fun K m=>?_);go_simp;first| (refine m _ ?_;clear m K)| (apply Exists.intro;refine⟨fun _=>?_,m _ ?_⟩;(gi_at_call 77;exact CallsIn.quiet_of_same (CallsIn.inRound l (callsIn_wide.2 (c3.out _))));clear m K))
     refine wpQuietIn_nil ?_;intro _ a0;obtain⟨nq,a1⟩:=a0;subst a1
     gi_wp2
     exact d0.out _ O.out
    ·rw[if_neg (by rintro(h| h);exact J h;exact d1 h)]at T;rw[T.out]at O;clear J;generalize (p.part k.1).mode=mo at *;have h6:decide (p.now-(p.part k.1).watch<p.cf.watch)=false:=by simp;omega
     clear d1
     gi_wp2_with fail
     refine fE (by kernel_rfl) b7 (by kernel_rfl) ?_
     repeat (refine wpQuietIn_step (fun _ _ _ _=>trivial) (fun K m=>?_);go_simp;first| (refine m _ ?_;clear m K)| (apply Exists.intro;refine⟨fun _=>?_,m _ ?_⟩;(gi_at_call 77;exact CallsIn.quiet_of_same (CallsIn.inRound l (callsIn_wide.2 (c3.out _))));clear m K))
     refine wpQuietIn_nil ?_;intro _ a0;obtain⟨nq,a1⟩:=a0;subst a1
     gi_wp2_with fail
     refine⟨trivial,?_⟩;refine(CallsIn.inRound l (callsIn_wide.2 (b1.out _))).mono ?_;rintro e r ⟨rfl,b6,P⟩;rw[←O.out]at b6 ⊢;have e5:r.heap[w.heap.size]?=W.heap[w.heap.size]?:=P.block _ c4.out.lt (fun L=>by have:=b5.out _ L;omega);have e6:r.heap[w.heap.size+1]?=W.heap[w.heap.size+1]?:=P.block _ c5.out.lt (fun L=>by have:=b5.out _ L;omega);have d2:r.heap[w.heap.size+1+1]?=W.heap[w.heap.size+1+1]?:=P.block _ c6.out.lt (fun L=>by have:=b5.out _ L;omega);have a2:KeepsFrom D.heap.size W r:=eY P (fun b v=>by have:=b5.out b v;have:=a9.out;omega);have U:Boxed r (w.heap.size+1) 4 (.bool false):=e6.trans c5.out;have A:Hid (KeepsFrom D.heap.size W r∧r.heap[w.heap.size+1+1]?=W.heap[w.heap.size+1+1]?∧Mo r a g (loopL cF (d++[k]) (st,F)).2.1 (loopL cF (d++[k]) (st,F)).2.2∧Boxed r w.heap.size 74 (.pointer (some ⟨a.mb,0,none⟩))∧Boxed r (w.heap.size+1) 4 (.bool false)∧Boxed r (w.heap.size+1+1) 111 (.slice (some ⟨a.pb,0,none⟩) j j)∧aH (Dm a g st) w r):=⟨a2,d2,b6,e5.trans c4.out,U,d2.trans c6.out,c7.out.andThen P⟩;have g4:=U.cell;have g5:=U.frozen;have E:aH (·=w.heap.size+1) r (r.setCell ⟨w.heap.size+1,0,none⟩ (.bool false)):=aH.ofSet r _ _ _ rfl;have e7:Hid (KeepsFrom D.heap.size W (r.setCell ⟨w.heap.size+1,0,none⟩ (.bool false))∧Mo (r.setCell ⟨w.heap.size+1,0,none⟩ (.bool false)) a g (loopL cF (d++[k]) (st,F)).2.1 (loopL cF (d++[k]) (st,F)).2.2∧Boxed (r.setCell ⟨w.heap.size+1,0,none⟩ (.bool false)) (w.heap.size+1) 4 (.bool false)∧aH (Dm a g st) w (r.setCell ⟨w.heap.size+1,0,none⟩ (.bool false))):=by
      refine⟨⟨Nat.le_trans a2.size E.size,fun x o z b2 b3=>(E.block x (aR (a2.same x o z b2 b3)) (by intro e;have e8:x=w.heap.size+1:=e;have:=a9.out;omega)).trans (a2.same x o z b2 b3)⟩,b6.box U (by decide) E,U.set _,(c7.out.andThen P).trans E (fun i e=>.inr (by have e8:i=w.heap.size+1:=e;omega))⟩
     clear b6 P e5 e6 d2 a2 U E b1 d0;cases hbb:(loopL cF (d++[k]) (st,F)).1 with
     | true=>
      have d3:=aI hbb;clear hbb
      gi_wp2
      exact⟨A.out.1,A.out.2.1,d3.out,A.out.2.2⟩
     | false=>
      have d3:=aI hbb;clear hbb
      gi_wp2
      exact⟨e7.out.1,⟨rfl,d3.out⟩,e7.out.2⟩
  case done=>
   rintro C h7 W g6 rfl ⟨y,u,X,B,b0,M⟩ m;rw[gG cF j (st,F) j (Nat.le_refl _),a5.out,←Q.out]at y u;have a3:Lk st G.2.1:=by rw[Q.out];exact Lk.loopB cF Lk.watch _ (st,F)
   have g4:=B.cell;have g5:=B.frozen;have g7:=a9.out;have E:aH (·=w.heap.size+1) W (W.setCell ⟨w.heap.size+1,0,none⟩ (.bool true)):=aH.ofSet W _ _ _ rfl;have d4:(W.setCell ⟨w.heap.size+1,0,none⟩ (.bool true)).heap[C]?=some (.deferred (some [])):=(E.block C (aR m) (by omega)).trans m;have e9:=u.box B (by decide) E;have A:Hid (Mo ((W.setCell ⟨w.heap.size+1,0,none⟩ (.bool true)).putObj C (.deferred none)) a g G.2.1 G.2.2∧aH (Dm a g st) w ((W.setCell ⟨w.heap.size+1,0,none⟩ (.bool true)).putObj C (.deferred none))):=
    ⟨e9.put d4 rfl (fun L=>by have:=I C (Dm.like a3 L);omega) _,(M.trans E (fun i e=>.inr (by have e8:i=w.heap.size+1:=e;omega))).put (by omega) _⟩
   have a4:((W.setCell ⟨w.heap.size+1,0,none⟩ (.bool true)).putObj C (.deferred none)).cell? ⟨w.heap.size+1,0,none⟩=some (.bool true):=by
    rw[World.cell?_of_block (World.putObj_heap_other (by dsimp only;omega))];exact(B.set (.bool true)).cell
   have b4:=aI y;have d5:=aI d4;have d6:=aI a4;clear y u X B b0 M m d4 e9 E a4 a8 I R a3 h
   gi_wp2
   refine⟨by simp,.inl ⟨_,_,rfl,run_takeDeferred d5.out,?_⟩⟩;rw[b4.out];exact⟨.bool true,by simp[results,Tryz.results106,go_sem,d6.out],rfl,A.out.1,A.out.2⟩
  case stop=>
   rintro C c d W g6 ⟨k,V,rfl⟩ ⟨⟨rfl,y⟩,u,B,M⟩ m;have c9:G=loopL cF (upto j k) (st,F):=by
    rw[Q.out,gG cF j (st,F) k V];rw[gG cF j (st,F) k V]at y;exact iB cF (st,F) k _ (by rw[←a5.out];exact V) y
   rw[←c9]at y u;have a3:Lk st G.2.1:=by rw[Q.out];exact Lk.loopB cF Lk.watch _ (st,F)
   have g7:=a9.out;have A:Hid (Mo (W.putObj C (.deferred none)) a g G.2.1 G.2.2∧aH (Dm a g st) w (W.putObj C (.deferred none))):=
    ⟨u.put m rfl (fun L=>by have:=I C (Dm.like a3 L);omega) _,M.put (by omega) _⟩
   have a4:(W.putObj C (.deferred none)).cell? ⟨w.heap.size+1,0,none⟩=some (.bool false):=by
    rw[World.cell?_of_block (World.putObj_heap_other (by dsimp only;omega))];exact B.cell
   have b4:=aI y;have d5:=aI m;have d6:=aI a4;clear y u B M m a4 a8 I R a3 h c9
   gi_wp2
   refine⟨by simp,.inl ⟨_,_,rfl,run_takeDeferred d5.out,?_⟩⟩;rw[b4.out];exact⟨.bool false,by simp[results,Tryz.results106,go_sem,d6.out],rfl,A.out.1,A.out.2⟩
end
section
open Go.RowKit Go.Shelf
attribute [local go_sem] Oper.semAt_some
theorem cS.lates{s:SF}(h:cS s)(i:Nat)(a:i<s.1.parts.length):cS (dF i s).2:=by
 unfold dF;have f:∀k,k≤(s.1.part i).procs.length→cS (loopB (dT i) k s).2∧Lk s.1 (loopB (dT i) k s).2.1:=by
  intro k
  induction k with
  | zero=>intro _;exact⟨h,Lk.refl _⟩
  | succ k ih=>
   intro g;obtain⟨b,c⟩:=ih (by omega);refine⟨?_,Lk.loopB _ (Lk.late i) _ s⟩;show cS (eL _ _).2
   unfold eL;split
   ·refine b.late i k (by rw[c.len];exact a) ?_;have d:=(b.2.part i (by rw[c.len];exact a)).2;have j:=(h.2.part i a).2;rw[c.cf]at d;show k<((loopB (dT i) k s).2.1.parts.getD i default).procs.length
    rw[d,←j];exact g
   ·exact b
 exact(f _ (Nat.le_refl _)).1
theorem Lk.procs{s a:aQ}(h:Lk s a)(d:eA s)(f:eA a)(i:Nat)(b:i<s.parts.length):(a.part i).procs.length=(s.part i).procs.length:=by
 have c:=(f.part i (by rw[h.len];exact b)).2;have g:=(d.part i b).2;rw[h.cf]at c;exact c.trans g.symm
theorem cS.loopLate(i:Nat)(s:SF)(f:cS s)(c:i<s.1.parts.length){d:Nat}(g:d=(s.1.part i).procs.length):∀ (b:List (Fin d)) (r:Bool×SF),cS r.2→Lk s.1 r.2.1→cS (b.foldl (fun r k=>eL r (dT i k.1)) r).2:=by
 intro b
 induction b with
 | nil=>intro r h _;exact h
 | cons a l ih=>
  intro r h k;have j:cS (eL r (dT i a.1)).2:=by
   unfold eL;split
   ·exact h.late i a.1 (by rw[k.len];exact c) (by rw[k.procs f.2 h.2 i c,←g];exact a.2)
   ·exact h
  have m:Lk s.1 (eL r (dT i a.1)).2.1:=jO (fun x=>Lk s.1 x.1) k (fun x n=>n.trans (Lk.late i a.1 x));exact ih _ j m
theorem Mb(x:cQ)(now:Int)(len:Nat)(h:qS len now x):((!x.stopped&&(Ea x.dl != 0&&decide (Ea x.dl≤now)))=true)↔¬ (x.stopped=true∨x.dl<0∨now<x.dl):=by
 have a:=h.dl;unfold Ea;cases x.stopped
 ·split
  ·simp;omega
  ·simp;omega
 ·simp
theorem zM(a:bN)(g:Nat)(st:aQ)(F:Fl)(w:World)(h:Mo w a g st F)(f4:dY st):
 Calls Tryz.prog 105 #[.pointer (some ⟨a.mb,0,none⟩)] w fun e w'=>e=.returned (.bool (kV (st,F)).1)∧Mo w' a g (kV (st,F)).2.1 (kV (st,F)).2.2∧aH (Dm a g st) w w':=by
 have n6:Tryz.prog.follows .mixedOrders=true:=by kernel_rfl
 obtain⟨p,f5⟩:∃p,p=st.parts.length:=⟨_,rfl⟩;have k4:p≤1000:=by have:=h.ok.good.few;have:=h.ok.len;omega
 have d5:=h.mach.machAt 3;simp only[List.getElem?_toArray,List.getElem?_cons_succ,List.getElem?_cons_zero]at d5;rw[←f5]at d5;have d6:=aI f5;have n7:=lt_of_block h.mach.mach;clear f5;obtain⟨S,f6⟩:∃S,S=kV (st,F):=⟨_,rfl⟩;rw[←f6];have d7:Hid (S=loopB dF st.parts.length (st,F)):=f6;clear f6;refine(callsIn_wide (n:=8)).1 ?_;refine callsIn_of_wp_marks Tryz.func105 rfl trivial ?_ rfl;simp only[Tryz.ntmps105,List.size_toArray,List.length_cons,List.length_nil,Nat.reduceAdd,Nat.reduceSub,Array.replicate_succ,Array.replicate_zero,List.push_toArray,List.append_toArray,List.nil_append,List.cons_append]
 gi_wp2_with (refine⟨trivial,?_⟩;gi_at_call 145;refine(callsIn_wide.2 (qR _ _ _)).mono ?_;rintro e w' ⟨rfl,rfl⟩)
 have i1:=Boxed.new w 74 (.pointer (some ⟨a.mb,0,none⟩));have f7:=Boxed.new (w.alloc (.cells #[.pointer (some ⟨a.mb,0,none⟩)] 74)) 4 (.bool false);have d8:=Boxed.new ((w.alloc (.cells #[.pointer (some ⟨a.mb,0,none⟩)] 74)).alloc (.cells #[.bool false] 4)) 111 (.slice (some ⟨a.pb,0,none⟩) p p);simp only[World.size_alloc]at d8 f7;have i2:=(i1.alloc (.cells #[.bool false] 4)).alloc (.cells #[.slice (some ⟨a.pb,0,none⟩) p p] 111);have i3:=f7.alloc (.cells #[.slice (some ⟨a.pb,0,none⟩) p p] 111);obtain⟨B,d9⟩:∃B,B=((w.alloc (.cells #[.pointer (some ⟨a.mb,0,none⟩)] 74)).alloc (.cells #[.bool false] 4)).alloc (.cells #[.slice (some ⟨a.pb,0,none⟩) p p] 111):=⟨_,rfl⟩;have e0:B.heap.size=w.heap.size+3:=by rw[d9];simp
 have i4:Below w.heap.size w B:=by rw[d9];exact((aG _ _).alloc (by simp) _).alloc (by simp;omega) _
 rw[←d9]at d8 i2 i3 ⊢;have b9:=h.mono i4;have b1:=aI e0;clear d9 i1 f7;have E:∀b,Dm a g st b→b<w.heap.size:=fun b H=>h.lt b H
 have c0:∀f:List (Fin p),cS (loopL dF f (st,F)).2:=fun f=>cS.loopL dF Lk.lates (fun k s f8 c1=>f8.lates k c1) (st,F) d6.out f _ ⟨f4,h.ok⟩ (Lk.refl _)
 have a6:∀f:List (Fin p),Lk st (loopL dF f (st,F)).2.1:=fun f=>Lk.loopL dF Lk.lates (st,F) f _ (Lk.refl _)
 refine wpIn_rangeFunc_ownH rfl (by omega) (gf:=184) (lb:=#[.pointer (some ⟨w.heap.size+1+1,0,none⟩)]) rfl trivial (enters_of Tryz.func184 (by kernel_rfl) rfl)
  (nR _ _ trivial rfl (by omega) p k4 (w.heap.size+1+1) a.pb B (by omega) d8) (fun h k=>k.trans h) (fun W l o k5 k6 _ _ _=>World.putObj_heap_other (by omega)) (Below.refl _ _) (fun _=>rfl)
  (fun f W=>((loopL dF f (st,F)).1=true)∧Mo W a g (loopL dF f (st,F)).2.1 (loopL dF f (st,F)).2.2∧Boxed W w.heap.size 74 (.pointer (some ⟨a.mb,0,none⟩))∧Boxed W (w.heap.size+1) 4 (.bool false)∧Boxed W (w.heap.size+1+1) 111 (.slice (some ⟨a.pb,0,none⟩) p p)∧aH (Dm a g st) w W)
  (fun c f W=>(c=.ret∧(loopL dF f (st,F)).1=false)∧Mo W a g (loopL dF f (st,F)).2.1 (loopL dF f (st,F)).2.2∧Boxed W (w.heap.size+1) 4 (.bool false)∧aH (Dm a g st) w W)
  (OwnFrom.and (ownFrom_pure _ _) (OwnFrom.and (gF (fun f=>(loopL dF f (st,F)).2.1) (fun f=>(loopL dF f (st,F)).2.2) (fun f b H=>by have:=E b (Dm.like (a6 f) H);omega)) (OwnFrom.and (Own.from (boxed_own _ _ _) _) (OwnFrom.and (Own.from (boxed_own _ _ _) _) (OwnFrom.and (Own.from (boxed_own _ _ _) _) (dZ (by omega)))))))
  (fun c=>OwnFrom.and (ownFrom_pure _ _) (OwnFrom.and (gF (fun f=>(loopL dF f (st,F)).2.1) (fun f=>(loopL dF f (st,F)).2.2) (fun f b H=>by have:=E b (Dm.like (a6 f) H);omega)) (OwnFrom.and (Own.from (boxed_own _ _ _) _) (dZ (by omega)))))
  ⟨rfl,b9,i2,i3,d8,aH.ofBelow i4⟩
  (fun k T W=>∃b,B.heap.size≤b∧Boxed W b 158 (.pointer (some ⟨a.pb,k.1*14,none⟩))∧T={ tmps:=#[.pointer (some ⟨a.mb,0,none⟩),.pointer (some ⟨w.heap.size,0,none⟩),.pointer (some ⟨w.heap.size+1,0,none⟩),undef,.pointer (some ⟨b,0,none⟩),undef,undef,.pointer (some ⟨a.mb,0,none⟩),.pointer (some ⟨a.mb,0,none⟩),.pointer (some ⟨a.mb,3,none⟩),.agg #[.slice (some ⟨a.pb,0,none⟩) p p],.func (.func 184) #[] #[.pointer (some ⟨w.heap.size+1+1,0,none⟩)],.int .i64 k.1,.pointer (some ⟨a.pb,k.1*14,none⟩),undef,undef,undef,undef,undef,undef,undef,undef,undef,undef,undef,undef,undef,undef,undef,undef,undef,undef,undef,undef,undef,undef,undef,undef,undef,undef,undef,undef],defers:=[] })
  (fun k T=>?own) ?assign ?body ?done ?stop
 case own=>
  rintro s W d row ⟨b,P,I,J⟩ k7 z;exact⟨b,P,I.kept k7 (fun e=>by obtain⟨o,i5,N⟩:=(z b e.symm).2;rw[show W.heap[b]?=_ from I]at i5;cases i5;cases N),J⟩
 case assign=>
  rintro l f k W K ⟨C,D,a7,z,N,U⟩ L;have f9:B.heap.size≤W.heap.size:=by have:=N.lt;omega
  have Y:Below W.heap.size W (W.alloc (.cells #[.pointer (some ⟨a.pb,k.1*14,none⟩)] 158)):=aG _ _;have k8:=aI (fun T G=>L T (W.alloc (.cells #[.pointer (some ⟨a.pb,k.1*14,none⟩)] 158)) ((KeepsOthers.alloc W _).from _) (Y.block _ N.lt) ⟨C,D.mono Y,a7.alloc _,z.alloc _,N.alloc _,U.andThen (aH.ofBelow Y)⟩ G);have k9:=aI (Boxed.new W 158 (.pointer (some ⟨a.pb,k.1*14,none⟩)));have l0:=aI f9;clear C D a7 z N U L Y f9 b9 d5 E c0 a6 h f4
  gi_wp2
  exact k8.out _ ⟨W.heap.size,l0.out,k9.out,rfl⟩
 case body=>
  rintro l f k T W k6 ⟨r₀,z₀⟩ ⟨C,D,a7,z,N,U⟩ ⟨b,H,c2,rfl⟩ n8;have b2:=a6 f;have c3:=c0 f;have e1:=aI (rY dF f k (st,F) C);generalize loopL dF f (st,F)=l1 at *;obtain⟨n9,m⟩:=l1;simp only at C D b2 c3 e1;have b3:k.1<m.1.parts.length:=by rw[b2.len,←d6.out];exact k.2
  obtain⟨np,e2⟩:∃np,np=(m.1.part k.1).procs.length:=⟨_,rfl⟩;have l2:np≤1000:=by have:=c3.2.one k.1 b3;omega
  have i6:=D.mach.partAt k.1 11 b3 (by omega);simp only[fK,List.getElem?_cons_succ,List.getElem?_cons_zero]at i6;rw[←e2]at i6;have i7:=aI e2;have l3:Hid (dF k.1 m=loopB (dT k.1) np m):=by show _=_;rw[e2];rfl
  rw[l3.out]at e1;have o0:=c2.cell;have l4:=aR z₀;clear e2
  gi_wp2_with (refine⟨trivial,?_⟩;gi_at_call 146;refine(CallsIn.inRound l (callsIn_wide.2 (uT _ _ _))).mono ?_;rintro e w' ⟨rfl,rfl⟩)
  have g0:=Boxed.new W 118 (.slice (some ⟨a.pr k.1,0,none⟩) np np);have Y:Below W.heap.size W (W.alloc (.cells #[.slice (some ⟨a.pr k.1,0,none⟩) np np] 118)):=aG _ _;have i8:KeepsFrom B.heap.size W (W.alloc (.cells #[.slice (some ⟨a.pr k.1,0,none⟩) np np] 118)):=(KeepsOthers.alloc W _).from _;have i9:=a7.alloc (.cells #[.slice (some ⟨a.pr k.1,0,none⟩) np np] 118);have j0:=z.alloc (.cells #[.slice (some ⟨a.pr k.1,0,none⟩) np np] 118);have j1:=N.alloc (.cells #[.slice (some ⟨a.pr k.1,0,none⟩) np np] 118);have j2:=c2.alloc (.cells #[.slice (some ⟨a.pr k.1,0,none⟩) np np] 118);have f9:B.heap.size≤W.heap.size:=by have:=c2.lt;omega
  obtain⟨V,g1⟩:∃V,V=W.alloc (.cells #[.slice (some ⟨a.pr k.1,0,none⟩) np np] 118):=⟨_,rfl⟩;have e3:V.heap.size=W.heap.size+1:=by rw[g1];simp
  rw[←g1]at g0 Y i8 i9 j0 j1 j2 ⊢;have o1:=aI e3;have e4:=D.mono Y;have o2:=c2.lt;have b4:∀j:List (Fin np),Lk m.1 (loopL (dT k.1) j m).2.1:=fun j=>Lk.loopL (dT k.1) (Lk.late k.1) m j _ (Lk.refl _)
  have e5:∀j:List (Fin np),cS (loopL (dT k.1) j m).2:=fun j=>cS.loopLate k.1 m c3 b3 i7.out j _ c3 (Lk.refl _)
  have l5:=aI N;have o3:=aI (fun(x:Nat) (G:Dm a g m.1 x)=>E x (Dm.like b2 G));have g2:=aI (fun(x:Nat) (G:Dm a g m.1 x)=>(Dm.like b2 G:Dm a g st x));clear g1 b9 d5 c0 a6 h f4 D a7 z N c2;refine wpIn_rangeFunc_ownN (r₀:=r₀) rfl ((Y.block l l4).trans z₀) (by omega) (gf:=185) (lb:=#[.pointer (some ⟨W.heap.size,0,none⟩)]) rfl trivial (enters_of Tryz.func185 (by kernel_rfl) rfl)
   ((rO Fence.wide _ trivial rfl (by omega) np l2 W.heap.size (a.pr k.1) V (by omega) g0).inRound l) (fun h k=>k.trans h) (fun d o4 o k5 o5 _ _ _=>World.putObj_heap_other (by omega)) (Below.refl _ _) (fun _=>rfl)
   (fun j d=>((loopL (dT k.1) j m).1=true)∧Mo d a g (loopL (dT k.1) j m).2.1 (loopL (dT k.1) j m).2.2∧Boxed d w.heap.size 74 (.pointer (some ⟨a.mb,0,none⟩))∧Boxed d (w.heap.size+1) 4 (.bool false)∧Boxed d (w.heap.size+1+1) 111 (.slice (some ⟨a.pb,0,none⟩) p p)∧Boxed d b 158 (.pointer (some ⟨a.pb,k.1*14,none⟩))∧Boxed d W.heap.size 118 (.slice (some ⟨a.pr k.1,0,none⟩) np np)∧aH (Dm a g st) w d∧KeepsFrom B.heap.size W d)
   (fun c j d=>(c=.ret∧(loopL (dT k.1) j m).1=false)∧Mo d a g (loopL (dT k.1) j m).2.1 (loopL (dT k.1) j m).2.2∧Boxed d (w.heap.size+1) 4 (.bool false)∧aH (Dm a g st) w d∧KeepsFrom B.heap.size W d)
   (OwnFrom.and (ownFrom_pure _ _) (OwnFrom.and (gF (fun j=>(loopL (dT k.1) j m).2.1) (fun j=>(loopL (dT k.1) j m).2.2) (fun j b H=>by have:=E b (Dm.like b2 (Dm.like (b4 j) H));omega)) (OwnFrom.and (Own.from (boxed_own _ _ _) _) (OwnFrom.and (Own.from (boxed_own _ _ _) _) (OwnFrom.and (Own.from (boxed_own _ _ _) _) (OwnFrom.and (Own.from (boxed_own _ _ _) _) (OwnFrom.and (Own.from (boxed_own _ _ _) _) (OwnFrom.and (dZ (by omega)) (ownFrom_keepsFrom (by omega))))))))))
   (fun c=>OwnFrom.and (ownFrom_pure _ _) (OwnFrom.and (gF (fun j=>(loopL (dT k.1) j m).2.1) (fun j=>(loopL (dT k.1) j m).2.2) (fun j b H=>by have:=E b (Dm.like b2 (Dm.like (b4 j) H));omega)) (OwnFrom.and (Own.from (boxed_own _ _ _) _) (OwnFrom.and (dZ (by omega)) (ownFrom_keepsFrom (by omega))))))
   ⟨rfl,e4,i9,j0,j1,j2,g0,U.andThen (aH.ofBelow Y),i8⟩
   (fun q T _=>T={ tmps:=#[.pointer (some ⟨a.mb,0,none⟩),.pointer (some ⟨w.heap.size,0,none⟩),.pointer (some ⟨w.heap.size+1,0,none⟩),undef,.pointer (some ⟨b,0,none⟩),undef,.pointer (some ⟨a.pr k.1,q.1*6,none⟩),.pointer (some ⟨a.mb,0,none⟩),.pointer (some ⟨a.mb,0,none⟩),.pointer (some ⟨a.mb,3,none⟩),.agg #[.slice (some ⟨a.pb,0,none⟩) p p],.func (.func 184) #[] #[.pointer (some ⟨w.heap.size+1+1,0,none⟩)],.int .i64 k.1,.pointer (some ⟨a.pb,k.1*14,none⟩),.pointer (some ⟨a.pb,k.1*14,none⟩),.pointer (some ⟨a.pb,k.1*14,none⟩),.pointer (some ⟨a.pb,k.1*14+11,none⟩),.agg #[.slice (some ⟨a.pr k.1,0,none⟩) np np],.func (.func 185) #[] #[.pointer (some ⟨W.heap.size,0,none⟩)],.int .i64 q.1,.pointer (some ⟨a.pr k.1,q.1*6,none⟩),undef,undef,undef,undef,undef,undef,undef,undef,undef,undef,undef,undef,undef,undef,undef,undef,undef,undef,undef,undef,undef],defers:=[] })
   (fun _ _ _ _ _ _ f8 _ _=>f8) ?assign2 ?body2 ?done2 ?stop2
  case assign2=>
   rintro e6 j q d K j3 L;have l6:=aI (fun T e=>L T d (KeepsFrom.refl _ _) rfl j3 e);clear j3 L
   gi_wp2
   exact l6.out _ rfl
  case body2=>
   rintro e6 j q T d o6-⟨M,A,b5,a1,b6,c4,c5,a2,a3⟩ rfl o7;have b7:=b4 j;have e7:=e5 j;have X:=aI (rY (dT k.1) j q m M);obtain⟨Z,e8⟩:∃Z,Z=loopL (dT k.1) (j++[q]) m:=⟨_,rfl⟩;rw[←e8]at X;have g3:Hid (∀u:World,KeepsFrom V.heap.size d u→u.heap[W.heap.size]?=d.heap[W.heap.size]?→Mo u a g Z.2.1 Z.2.2→Boxed u w.heap.size 74 (.pointer (some ⟨a.mb,0,none⟩))→Boxed u (w.heap.size+1) 4 (.bool false)→Boxed u (w.heap.size+1+1) 111 (.slice (some ⟨a.pb,0,none⟩) p p)→Boxed u b 158 (.pointer (some ⟨a.pb,k.1*14,none⟩))→aH (Dm a g st) w u→KeepsFrom B.heap.size W u→(Z.1=true→KeepsFrom V.heap.size d u∧u.heap[W.heap.size]?=d.heap[W.heap.size]?∧((loopL (dT k.1) (j++[q]) m).1=true)∧Mo u a g (loopL (dT k.1) (j++[q]) m).2.1 (loopL (dT k.1) (j++[q]) m).2.2∧Boxed u w.heap.size 74 (.pointer (some ⟨a.mb,0,none⟩))∧Boxed u (w.heap.size+1) 4 (.bool false)∧Boxed u (w.heap.size+1+1) 111 (.slice (some ⟨a.pb,0,none⟩) p p)∧Boxed u b 158 (.pointer (some ⟨a.pb,k.1*14,none⟩))∧Boxed u W.heap.size 118 (.slice (some ⟨a.pr k.1,0,none⟩) np np)∧aH (Dm a g st) w u∧KeepsFrom B.heap.size W u)):=fun u P I J g4 g5 l7 l8 l9 m0 g6=>by
    rw[←e8];exact⟨P,I,g6,J,g4,g5,l7,l8,I.trans c5,l9,m0⟩
   have m1:Hid (∀u:World,KeepsFrom V.heap.size d u→Mo u a g Z.2.1 Z.2.2→Boxed u (w.heap.size+1) 4 (.bool false)→aH (Dm a g st) w u→KeepsFrom B.heap.size W u→(Z.1=false→KeepsFrom V.heap.size d u∧((loopL (dT k.1) (j++[q]) m).1=false)∧Mo u a g (loopL (dT k.1) (j++[q]) m).2.1 (loopL (dT k.1) (j++[q]) m).2.2∧Boxed u (w.heap.size+1) 4 (.bool false)∧aH (Dm a g st) w u∧KeepsFrom B.heap.size W u)):=fun u P I J g4 g5 g6=>by
    rw[←e8];exact⟨P,g6,I,J,g4,g5⟩
   generalize loopL (dT k.1) j m=m2 at *;obtain⟨o8,y⟩:=m2;simp only at M A b7 e7 X;have a4:k.1<y.1.parts.length:=by rw[b7.len];exact b3
   have c6:q.1<(y.1.part k.1).procs.length:=by rw[b7.procs c3.2 e7.2 k.1 b3,←i7.out];exact q.2
   have j4:=e7.1.proc k.1 q.1 a4 c6;have g7:=A.mach.partAt k.1 9 a4 (by omega);simp only[fK,List.getElem?_cons_succ,List.getElem?_cons_zero]at g7;have m3:=A.mach.machAt 6;simp only[List.getElem?_toArray,List.getElem?_cons_succ,List.getElem?_cons_zero]at m3;have p3:=A.mach.procAt k.1 q.1 3 a4 c6 (by omega);have j5:=A.mach.procAt k.1 q.1 5 a4 c6 (by omega);simp only[aY,List.getElem?_cons_succ,List.getElem?_cons_zero]at p3 j5;have o9:=aJ (A.mach.procs k.1 a4) (q.1*6+5);have p1:=b5.cell;have p2:=c4.cell;have j6:=aI (qM a.pb (k.1*14) _ d g7);have j7:=aI (Pd (a.pr k.1) (q.1*6) _ _ y.1.now d p3 j5);have g8:=aI (Mb _ _ _ j4);have a8:Hid (dT k.1 q.1 y=if(y.1.part k.1).mode=3∨(y.1.proc k.1 q.1).stopped=true∨(y.1.proc k.1 q.1).dl<0∨y.1.now<(y.1.proc k.1 q.1).dl then(true,y)else cK k.1 q.1 2 (y.1.setProc k.1 q.1 { y.1.proc k.1 q.1 with dl:=-1 },y.2)):=rfl;have g9:=A.setProc k.1 q.1 { y.1.proc k.1 q.1 with dl:=-1 } a4 (aH.ofSet d (a.pr k.1) (q.1*6+5) (.int .i64 0) rfl) (A.mach.procCell A.lay k.1 q.1 5 (.int .i64 0) _ a4 c6 (by omega) rfl);have j8:=aI (qZ a g _ y.2 k.1 q.1 2 (some ⟨a.pr k.1,q.1*6,none⟩) _ g9.1 (by rw[(eK _ _ _ _).2.1];exact a4) (by rw[(eK _ _ _ _).2.2];exact c6) (by omega) (.inl rfl));have m4:Hid (aH (Dm a g st) d (d.setCell ⟨a.pr k.1,q.1*6+5,none⟩ (.int .i64 0))):=g9.2.to (fun x G=>g2.out x (Dm.like b7 G));have m5:=aI (fun(x:Nat) (G:Dm a g (y.1.setProc k.1 q.1 { y.1.proc k.1 q.1 with dl:=-1 }) x)=>g2.out x (Dm.like b7 (Dm.like (Lk.setProc _ _ _ _) G)));have c7:Hid (∀x,Dm a g st x→x<w.heap.size):=E;have j9:=aI A;have h0:=aI b5;have h1:=aI a1;have h2:=aI b6;have h3:=aI c4;have e9:=aI a2;have h4:=aI a3;have m6:=aI c5.lt;clear M A b5 a1 b6 c4 c5 a2 a3 e4 b4 e5 E g9 b7 e7 j4 g7 e8;have p4:¬w.heap.size=a.pr k.1:=by have:=c7.out (a.pr k.1) (g2.out _ (.inr (.inr (.inl ⟨k.1,b3,.inr rfl⟩))));omega
   have k0:Hid (w.heap.size+3≤V.heap.size):=by show _≤_;omega
   clear e0 e3;generalize (y.1.part k.1).mode=mo at *
   gi_wp2_with fail
   refine⟨trivial,?_⟩;refine(CallsIn.inRound e6 (callsIn_wide.2 j6.out)).mono ?_;rintro e m7 ⟨rfl,rfl⟩
   by_cases J:mo=3
   ·have m8:(mo != 3)=false:=by simp[J]
    rw[if_pos (.inl J)]at a8;rw[a8.out]at X;have a5:=aI (g3.out m7 (KeepsFrom.refl _ _) rfl (by rw[X.out];exact j9.out) h0.out h1.out h2.out h3.out e9.out h4.out (by rw[X.out]));clear J
    gi_wp2
    refine⟨trivial,?_⟩
    gi_wp2
    exact⟨a5.out.1,rfl,a5.out.2.2⟩
   ·have m8:(mo != 3)=true:=by simp[J]
    gi_wp2_with fail
    refine⟨trivial,?_⟩;refine(CallsIn.inRound e6 (callsIn_wide.2 j7.out)).mono ?_;rintro e f0 ⟨rfl,rfl⟩;cases hbb:(!(y.1.proc k.1 q.1).stopped&&(Ea (y.1.proc k.1 q.1).dl != 0&&decide (Ea (y.1.proc k.1 q.1).dl≤y.1.now)))with
    | false=>
     have c8:(y.1.proc k.1 q.1).stopped=true∨(y.1.proc k.1 q.1).dl<0∨y.1.now<(y.1.proc k.1 q.1).dl:=by
      refine Classical.byContradiction (fun m9=>?_);have:=g8.out.2 m9;rw[hbb]at this;cases this
     rw[if_pos (.inr c8)]at a8;rw[a8.out]at X;have a5:=aI (g3.out f0 (KeepsFrom.refl _ _) rfl (by rw[X.out];exact j9.out) h0.out h1.out h2.out h3.out e9.out h4.out (by rw[X.out]));clear J c8 hbb
     gi_wp2
     exact⟨a5.out.1,rfl,a5.out.2.2⟩
    | true=>
     have c8:=g8.out.1 hbb;rw[if_neg (by rintro(h| h);exact J h;exact c8 h)]at a8;rw[a8.out]at X;clear J c8 hbb a8 g8 j7 j6
     gi_wp2_with fail
     refine⟨trivial,?_⟩;refine(CallsIn.inRound e6 (callsIn_wide.2 j8.out)).mono ?_;rintro e a0 ⟨rfl,f1,k1⟩;rw[←X.out]at f1 ⊢;have a9:aH (Dm a g st) f0 a0:=m4.out.andThen (k1.to m5.out);have f2:∀ {x:Nat} {t:TypeId} {v:Value},w.heap.size≤x→Boxed f0 x t v→Boxed a0 x t v:=fun G H=>(a9.block _ H.lt (fun b0=>by have:=c7.out _ b0;omega)).trans H
     have c9:KeepsFrom V.heap.size f0 a0:=eY a9 (fun x G=>by have:=c7.out x G;have:=k0.out;omega);have d0:KeepsFrom B.heap.size W a0:=h4.out.trans (eY a9 (fun x G=>by have:=c7.out x G;have:=b1.out;omega));have b8:=f2 (by omega) h1.out;have n0:=b8.cell;have n1:=b8.frozen;have a5:=aI (g3.out a0 c9 (a9.block _ m6.out (fun b0=>by have:=c7.out _ b0;have:=b1.out;omega)) f1 (f2 (by omega) h0.out) b8 (f2 (by omega) h2.out) (f2 (by have:=b1.out;omega) h3.out) (e9.out.andThen a9) d0);have O:aH (·=w.heap.size+1) a0 (a0.setCell ⟨w.heap.size+1,0,none⟩ (.bool false)):=aH.ofSet a0 _ _ _ rfl;have k2:=aI (m1.out (a0.setCell ⟨w.heap.size+1,0,none⟩ (.bool false)) ⟨Nat.le_trans c9.size O.size,fun x o d1 P I=>(O.block x (aR (c9.same x o d1 P I)) (by intro e;have h5:x=w.heap.size+1:=e;have:=k0.out;omega)).trans (c9.same x o d1 P I)⟩ (f1.box b8 (by decide) O) (b8.set _) ((e9.out.andThen a9).trans O (fun i e=>.inr (by have h5:i=w.heap.size+1:=e;omega))) ⟨Nat.le_trans d0.size O.size,fun x o d1 P I=>(O.block x (aR (d0.same x o d1 P I)) (by intro e;have h5:x=w.heap.size+1:=e;have:=b1.out;omega)).trans (d0.same x o d1 P I)⟩);clear f1 k1 a9 c9 d0 b8 O j8;obtain⟨n2,p5⟩:=Z;simp only at a5 k2 ⊢;cases n2 with
     | true=>
      gi_wp2
      exact a5.out trivial
     | false=>
      gi_wp2
      have:=k2.out trivial;exact⟨this.1,⟨rfl,this.2.1⟩,this.2.2⟩
  case done2=>
   rintro n3 d rfl ⟨M,A,b5,a1,b6,c4,c5,a2,a3⟩;rw[gG (dT k.1) np m np (Nat.le_refl _),←e1.out]at M A;have Q:Hid (KeepsFrom B.heap.size W d∧d.heap[w.heap.size+1+1]?=W.heap[w.heap.size+1+1]?∧((loopL dF (f++[k]) (st,F)).1=true)∧Mo d a g (loopL dF (f++[k]) (st,F)).2.1 (loopL dF (f++[k]) (st,F)).2.2∧Boxed d w.heap.size 74 (.pointer (some ⟨a.mb,0,none⟩))∧Boxed d (w.heap.size+1) 4 (.bool false)∧Boxed d (w.heap.size+1+1) 111 (.slice (some ⟨a.pb,0,none⟩) p p)∧aH (Dm a g st) w d):=⟨a3,b6.trans l5.out.symm,M,A,b5,a1,b6,a2⟩;clear M A b5 a1 b6 c4 c5 a2 a3 e4 b4 e5 E e0 e3
   gi_wp2
   exact Q.out
  case stop2=>
   rintro c j d ⟨f3,h6,rfl⟩ ⟨⟨rfl,M⟩,A,a1,a2,a3⟩;have d2:loopL dF (f++[k]) (st,F)=loopL (dT k.1) (upto np f3) m:=by
    rw[e1.out,gG (dT k.1) np m f3 h6];rw[gG (dT k.1) np m f3 h6]at M;exact iB (dT k.1) m f3 _ h6 M
   rw[←d2]at M A;have Q:Hid (KeepsFrom B.heap.size W d∧((loopL dF (f++[k]) (st,F)).1=false)∧Mo d a g (loopL dF (f++[k]) (st,F)).2.1 (loopL dF (f++[k]) (st,F)).2.2∧Boxed d (w.heap.size+1) 4 (.bool false)∧aH (Dm a g st) w d):=⟨a3,M,A,a1,a2⟩;clear M A a1 a2 a3 e4 b4 e5 E d2 e0 e3
   gi_wp2
   exact⟨Q.out.1,⟨rfl,Q.out.2.1⟩,Q.out.2.2⟩
 case done=>
  rintro R n3 W n4 rfl ⟨C,D,a7,z,N,U⟩ L;rw[gG dF p (st,F) p (Nat.le_refl _),d6.out,←d7.out]at C D;have d3:Lk st S.2.1:=by rw[d7.out];exact Lk.loopB dF Lk.lates _ (st,F)
  have n0:=z.cell;have n1:=z.frozen;have n5:=b1.out;have O:aH (·=w.heap.size+1) W (W.setCell ⟨w.heap.size+1,0,none⟩ (.bool true)):=aH.ofSet W _ _ _ rfl;have h7:(W.setCell ⟨w.heap.size+1,0,none⟩ (.bool true)).heap[R]?=some (.deferred (some [])):=(O.block R (aR L) (by omega)).trans L;have k3:=D.box z (by decide) O;have Q:Hid (Mo ((W.setCell ⟨w.heap.size+1,0,none⟩ (.bool true)).putObj R (.deferred none)) a g S.2.1 S.2.2∧aH (Dm a g st) w ((W.setCell ⟨w.heap.size+1,0,none⟩ (.bool true)).putObj R (.deferred none))):=
   ⟨k3.put h7 rfl (fun b0=>by have:=E R (Dm.like d3 b0);omega) _,(U.trans O (fun i e=>.inr (by have h5:i=w.heap.size+1:=e;omega))).put (by omega) _⟩
  have d4:((W.setCell ⟨w.heap.size+1,0,none⟩ (.bool true)).putObj R (.deferred none)).cell? ⟨w.heap.size+1,0,none⟩=some (.bool true):=by
   rw[World.cell?_of_block (World.putObj_heap_other (by dsimp only;omega))];exact(z.set (.bool true)).cell
  have h8:=aI C;have h9:=aI h7;have i0:=aI d4;clear C D a7 z N U L h7 k3 O d4 b9 E a6 d3 h c0
  gi_wp2
  refine⟨by simp,.inl ⟨_,_,rfl,run_takeDeferred h9.out,?_⟩⟩;rw[h8.out];exact⟨.bool true,by simp[results,Tryz.results105,go_sem,i0.out],rfl,Q.out.1,Q.out.2⟩
 case stop=>
  rintro R c f W n4 ⟨k,c1,rfl⟩ ⟨⟨rfl,C⟩,D,z,U⟩ L;have d2:S=loopL dF (upto p k) (st,F):=by
   rw[d7.out,gG dF p (st,F) k c1];rw[gG dF p (st,F) k c1]at C;exact iB dF (st,F) k _ (by rw[←d6.out];exact c1) C
  rw[←d2]at C D;have d3:Lk st S.2.1:=by rw[d7.out];exact Lk.loopB dF Lk.lates _ (st,F)
  have n5:=b1.out;have Q:Hid (Mo (W.putObj R (.deferred none)) a g S.2.1 S.2.2∧aH (Dm a g st) w (W.putObj R (.deferred none))):=
   ⟨D.put L rfl (fun b0=>by have:=E R (Dm.like d3 b0);omega) _,U.put (by omega) _⟩
  have d4:(W.putObj R (.deferred none)).cell? ⟨w.heap.size+1,0,none⟩=some (.bool false):=by
   rw[World.cell?_of_block (World.putObj_heap_other (by dsimp only;omega))];exact z.cell
  have h8:=aI C;have h9:=aI L;have i0:=aI d4;clear C D z U L d4 b9 E a6 d3 h d2 c0
  gi_wp2
  refine⟨by simp,.inl ⟨_,_,rfl,run_takeDeferred h9.out,?_⟩⟩;rw[h8.out];exact⟨.bool false,by simp[results,Tryz.results105,go_sem,i0.out],rfl,Q.out.1,Q.out.2⟩
end
section
open Go.RowKit Go.Conc
theorem zN(w:World)(c b cap:Nat)(buf:Array Value)(a:Bool)(s r:Nat)(tm:Bool)(h:b≠c):(w.setChan c cap buf a s r tm).heap[b]?=w.heap[b]?:=by
 simp[World.setChan,Array.getElem?_setIfInBounds_ne (Ne.symm h)]
theorem rR(w:World)(c cap:Nat)(buf:Array Value)(a:Bool)(s r:Nat)(tm:Bool):aH (·=c) w (w.setChan c cap buf a s r tm):=
 ⟨rfl,rfl,rfl,by simp[World.setChan],fun k _ b=>zN w c k cap buf a s r tm b⟩
theorem Cq(c cap s r:Nat)(f t:Int)(w:World)(a:w.heap[c]?=some (.chan cap #[] false s r false)):
 Calls Tryz.prog 211 #[.agg #[.int .i64 f,.int .i64 t,.chan (some c)]] w fun e w'=>e=.returned (.tuple #[.int .i64 0,.bool false])∧Below w.heap.size w w':=by
 refine calls_of_loneTo fun d=>?_
 have e:Frame.enter Tryz.prog 211 #[.agg #[.int .i64 f,.int .i64 t,.chan (some c)]] .normal=(base 211).at ⟨#[.agg #[.int .i64 f,.int .i64 t,.chan (some c)],undef,undef,undef,undef,undef,undef,undef,undef,undef,undef,undef],[]⟩ [.code (Tryz.f211.body.getD .skip)]:=by
  simp[Frame.enter,Frame.at,Tryz.func211,base,Tryz.f211]
 rw[e];refine LoneTo.goes (n:=13) ?_;simp only[Tryz.f211,Option.getD_some]
 s_c stepG_seq
 s_reg
 s_op
 s_op
 s_op
 s_c stepG_region_end
 s_c stepG_seq
 s_reg
 s_op
 s_op
 s_c stepG_region_end
 s_c stepG_seq
 s_reg
 s_stop
 have b:(w.alloc (.cells #[.int .i64 f,.int .i64 t,.chan (some c)] 139)).heap[c]?=some (.chan cap #[] false s r false):=(Below.heap_alloc _ _ _ (lt_of_block a)).trans a;refine LoneTo.step (step_lone_select_default (c:=c) (z:=.int .i64 0) (cap:=cap) (s:=s) (r:=r) (tm:=false) (stepG_comm (cases:=#[rcase c (.int .i64 0)]) (blocking:=false) (shape:=.select) (w':=(w.alloc (.cells #[.int .i64 f,.int .i64 t,.chan (some c)] 139))) rfl rfl (by decide) (by simp[go_sem,execOp,rcase,Act.eval])) b) ?_;rw[Frame.finish_at]
 walk_nrm
 refine LoneTo.goes (n:=11) ?_
 s_op
 s_op
 s_c stepG_region_end
 s_c stepG_block
 s_cond false
 s_c stepG_seq
 s_reg
 s_op
 s_op
 s_c stepG_region_end
 s_c stepG_ret'
 s_stop
 refine LoneTo.done ⟨.returned (.tuple #[.int .i64 0,.bool false]),_,rfl,⟨rfl,?_⟩,rfl,rfl,rfl,rfl,_,Tryz.func211,by simp[results,Tryz.f211,Frame.at]⟩;exact(Below.refl _ w).alloc (Nat.le_refl _) _
theorem Cu(c cap s r:Nat)(v:Int)(a:List Value)(f t:Int)(w:World)(b:w.heap[c]?=some (.chan cap (.int .i64 v::a).toArray false s r false)):
 Calls Tryz.prog 211 #[.agg #[.int .i64 f,.int .i64 t,.chan (some c)]] w fun e w'=>e=.returned (.tuple #[.int .i64 v,.bool true])∧w'.heap[c]?=some (.chan cap a.toArray false s (r+1) false)∧aH (·=c) w w':=by
 refine calls_of_loneTo fun i=>?_
 have e:Frame.enter Tryz.prog 211 #[.agg #[.int .i64 f,.int .i64 t,.chan (some c)]] .normal=(base 211).at ⟨#[.agg #[.int .i64 f,.int .i64 t,.chan (some c)],undef,undef,undef,undef,undef,undef,undef,undef,undef,undef,undef],[]⟩ [.code (Tryz.f211.body.getD .skip)]:=by
  simp[Frame.enter,Frame.at,Tryz.func211,base,Tryz.f211]
 rw[e];refine LoneTo.goes (n:=13) ?_;simp only[Tryz.f211,Option.getD_some]
 s_c stepG_seq
 s_reg
 s_op
 s_op
 s_op
 s_c stepG_region_end
 s_c stepG_seq
 s_reg
 s_op
 s_op
 s_c stepG_region_end
 s_c stepG_seq
 s_reg
 s_stop
 have d:c<(w.alloc (.cells #[.int .i64 f,.int .i64 t,.chan (some c)] 139)).heap.size:=by have:=lt_of_block b;simp;omega
 have g:(w.alloc (.cells #[.int .i64 f,.int .i64 t,.chan (some c)] 139)).heap[c]?=some (.chan cap (.int .i64 v::a).toArray false s r false):=(Below.heap_alloc _ _ _ (lt_of_block b)).trans b;refine LoneTo.step (step_lone_select_recv_buf (c:=c) (z:=.int .i64 0) (stepG_comm (cases:=#[rcase c (.int .i64 0)]) (blocking:=false) (shape:=.select) (w':=(w.alloc (.cells #[.int .i64 f,.int .i64 t,.chan (some c)] 139))) rfl rfl (by decide) (by simp[go_sem,execOp,rcase,Act.eval])) g (by simp)) ?_;rw[Frame.finish_at];have h:((.int .i64 v::a).toArray).getD 0 undef=.int .i64 v:=by simp
 rw[h]
 walk_nrm
 refine LoneTo.goes (n:=17) ?_
 s_op
 s_op
 s_c stepG_region_end
 s_c stepG_block
 s_cond true
 s_c stepG_seq
 s_reg
 s_op
 s_op
 s_c stepG_region_end
 s_c stepG_seq
 s_reg
 s_op
 s_op
 s_op
 s_c stepG_region_end
 s_c stepG_ret'
 s_stop
 refine LoneTo.done ⟨.returned (.tuple #[.int .i64 v,.bool true]),_,rfl,⟨rfl,?_⟩,rfl,rfl,rfl,rfl,_,Tryz.func211,by simp[results,Tryz.f211,Frame.at]⟩;refine⟨?_,(aH.ofBelow ((Below.refl _ w).alloc (Nat.le_refl _) _)).andThen (rR _ c _ _ _ _ _ _)⟩;have:=heap_setChan (w.alloc (.cells #[.int .i64 f,.int .i64 t,.chan (some c)] 139)) c cap a.toArray false s (r+1) false d
 simpa using this
theorem Lo(c cap s r:Nat)(v:Int)(buf:Array Value)(f t:Int)(w:World)(a:w.heap[c]?=some (.chan cap buf false s r false))(b:buf.size<cap):
 Calls Tryz.prog 224 #[.agg #[.int .i64 f,.int .i64 t,.chan (some c)],.int .i64 v] w fun e w'=>e=.returned (.tuple #[])∧w'.heap[c]?=some (.chan cap (buf.push (.int .i64 v)) false (s+1) r false)∧aH (·=c) w w':=by
 refine calls_of_loneTo fun h=>?_
 have e:Frame.enter Tryz.prog 224 #[.agg #[.int .i64 f,.int .i64 t,.chan (some c)],.int .i64 v] .normal=(base 224).at ⟨#[.agg #[.int .i64 f,.int .i64 t,.chan (some c)],.int .i64 v,undef,undef,undef,undef,undef,undef,undef,undef],[]⟩ [.code (Tryz.f224.body.getD .skip)]:=by
  simp[Frame.enter,Frame.at,Tryz.func224,base,Tryz.f224]
 rw[e];refine LoneTo.goes (n:=15) ?_;simp only[Tryz.f224,Option.getD_some]
 s_c stepG_seq
 s_reg
 s_op
 s_c stepG_region_end
 s_c stepG_seq
 s_c stepG_seq
 s_reg
 s_op
 s_op
 s_c stepG_region_end
 s_reg
 s_op
 s_c stepG_region_end
 s_c stepG_seq
 s_reg
 s_stop
 have d:c<(w.alloc (.cells #[.int .i64 f,.int .i64 t,.chan (some c)] 139)).heap.size:=by have:=lt_of_block a;simp;omega
 have g:(w.alloc (.cells #[.int .i64 f,.int .i64 t,.chan (some c)] 139)).heap[c]?=some (.chan cap buf false s r false):=(Below.heap_alloc _ _ _ (lt_of_block a)).trans a;refine LoneTo.step (step_lone_select_send_room (c:=c) (cap:=cap) (buf:=buf) (s:=s) (r:=r) (tm:=false) (stepG_comm (cases:=#[scase c (.int .i64 v) (.int .i64 0)]) (blocking:=false) (shape:=.select) (w':=(w.alloc (.cells #[.int .i64 f,.int .i64 t,.chan (some c)] 139))) rfl rfl (by decide) (by simp[go_sem,execOp,scase,Act.eval])) g b) ?_;rw[Frame.finish_at]
 walk_nrm
 refine LoneTo.goes (n:=8) ?_
 s_op
 s_op
 s_c stepG_region_end
 s_c stepG_block
 s_cond true
 s_c stepG_skip
 s_c stepG_inBlock
 s_c stepG_end
 s_stop
 refine LoneTo.done ⟨.returned (.tuple #[]),_,rfl,⟨rfl,?_⟩,rfl,rfl,rfl,rfl,_,Tryz.func224,by simp[results,Tryz.f224,Frame.at]⟩;exact⟨heap_setChan (w.alloc (.cells #[.int .i64 f,.int .i64 t,.chan (some c)] 139)) c cap (buf.push (.int .i64 v)) false (s+1) r false d,(aH.ofBelow ((Below.refl _ w).alloc (Nat.le_refl _) _)).andThen (rR _ c _ _ _ _ _ _)⟩
theorem Iq(c cap s r:Nat)(v:Int)(buf:Array Value)(f t:Int)(w:World)(a:w.heap[c]?=some (.chan cap buf false s r false))(b:cap≤buf.size):
 Calls Tryz.prog 224 #[.agg #[.int .i64 f,.int .i64 t,.chan (some c)],.int .i64 v] w fun e w'=>e=.returned (.tuple #[])∧Below w.heap.size w w':=by
 refine calls_of_loneTo fun g=>?_
 have e:Frame.enter Tryz.prog 224 #[.agg #[.int .i64 f,.int .i64 t,.chan (some c)],.int .i64 v] .normal=(base 224).at ⟨#[.agg #[.int .i64 f,.int .i64 t,.chan (some c)],.int .i64 v,undef,undef,undef,undef,undef,undef,undef,undef],[]⟩ [.code (Tryz.f224.body.getD .skip)]:=by
  simp[Frame.enter,Frame.at,Tryz.func224,base,Tryz.f224]
 rw[e];refine LoneTo.goes (n:=15) ?_;simp only[Tryz.f224,Option.getD_some]
 s_c stepG_seq
 s_reg
 s_op
 s_c stepG_region_end
 s_c stepG_seq
 s_c stepG_seq
 s_reg
 s_op
 s_op
 s_c stepG_region_end
 s_reg
 s_op
 s_c stepG_region_end
 s_c stepG_seq
 s_reg
 s_stop
 have d:(w.alloc (.cells #[.int .i64 f,.int .i64 t,.chan (some c)] 139)).heap[c]?=some (.chan cap buf false s r false):=(Below.heap_alloc _ _ _ (lt_of_block a)).trans a;refine LoneTo.step (step_lone_select_send_full (c:=c) (cap:=cap) (buf:=buf) (s:=s) (r:=r) (tm:=false) (stepG_comm (cases:=#[scase c (.int .i64 v) (.int .i64 0)]) (blocking:=false) (shape:=.select) (w':=(w.alloc (.cells #[.int .i64 f,.int .i64 t,.chan (some c)] 139))) rfl rfl (by decide) (by simp[go_sem,execOp,scase,Act.eval])) d b) ?_;rw[Frame.finish_at]
 walk_nrm
 refine LoneTo.goes (n:=8) ?_
 s_op
 s_op
 s_c stepG_region_end
 s_c stepG_block
 s_cond false
 s_c stepG_skip
 s_c stepG_inBlock
 s_c stepG_end
 s_stop
 refine LoneTo.done ⟨.returned (.tuple #[]),_,rfl,⟨rfl,?_⟩,rfl,rfl,rfl,rfl,_,Tryz.func224,by simp[results,Tryz.f224,Frame.at]⟩;exact(Below.refl _ w).alloc (Nat.le_refl _) _
end
end Go.Proofs.YtnjlbgolnbdkaaaGreat
