/- All, with short names -/
import Derived.Test.YtnjlbgolnbdkaaaGreatP14
import Derived.RangeFuncNested
import Derived.RangeFuncWrites
import Derived.RangeFuncCalls
import Derived.Stop.RegionWithIn
import Derived.Deep.RegionHeld
set_option maxRecDepth 100000
set_option maxHeartbeats 16000000
namespace Go.Proofs.YtnjlbgolnbdkaaaGreat
open Go Go.RowKit
section
open Go.RowKit Go.Shelf
attribute [local go_sem] Oper.semAt_some
def rN(i:Nat)(st:aQ){a:Nat}(b:List (Fin a)):aQ:=b.foldl (fun s k=>s.setProc i k.1 dC) st
theorem yE(i:Nat)(st:aQ){a:Nat}(b:List (Fin a))(k:Fin a):rN i st (b++[k])=(rN i st b).setProc i k.1 dC:=by simp[rN]
theorem eK(st:aQ)(i n:Nat)(x:cQ):(st.setProc i n x).cf=st.cf∧(st.setProc i n x).parts.length=st.parts.length∧((st.setProc i n x).part i).procs.length=(st.part i).procs.length:=by
 refine⟨rfl,by simp[aQ.setProc,aQ.setPart],?_⟩
 by_cases h:i<st.parts.length
 ·unfold aQ.setProc;rw[aQ.part_set h];simp
 ·unfold aQ.setProc aQ.setPart aQ.part;simp only;rw[List.set_eq_of_length_le (by omega)]
theorem yC(i:Nat){d:Nat}(a:List (Fin d)):∀st:aQ,(rN i st a).cf=st.cf∧(rN i st a).parts.length=st.parts.length∧((rN i st a).part i).procs.length=(st.part i).procs.length:=by
 induction a with
 | nil=>intro st;exact⟨rfl,rfl,rfl⟩
 | cons k a ih=>
  intro st;have b:=eK st i k.1 dC;have c:=ih (st.setProc i k.1 dC);exact⟨c.1.trans b.1,c.2.1.trans b.2.1,c.2.2.trans b.2.2⟩
theorem Og(i:Nat)(st:aQ)(a:Nat)(b:i<st.parts.length)(k:Nat)(c:k≤a)(d:a=(st.part i).procs.length):rN i st (upto a k)=st.setPart i { st.part i with procs:=List.replicate k dC++(st.part i).procs.drop k }:=by
 induction k with
 | zero=>
  show st=_
  simp only[List.replicate_zero,List.nil_append,List.drop_zero];exact(aQ.setPart_self st i).symm
 | succ k ih=>
  rw[eW a k (by omega),yE,ih (by omega)];unfold aQ.setProc;rw[aQ.part_set b,aQ.setPart_set]
  congr 2
  simp only;rw[List.set_append_right _ _ (by simp),List.length_replicate,Nat.sub_self,List.drop_eq_getElem_cons (by omega),List.set_cons_zero,List.replicate_succ',List.append_assoc];rfl
theorem dB{α:Type}[Inhabited α]{l:List α}{i:Nat}(h:i<l.length):l.getD i default∈l:=by
 rw[List.getD_eq_getElem?_getD,List.getElem?_eq_getElem h];exact List.getElem_mem h
theorem pW(a:bN)(g:Nat)(st:aQ)(F:Fl)(i:Nat)(mode now:Int)(w:World)(h:Mo w a g st F)(f:i<st.parts.length)(d5:now=st.now):
 Calls Tryz.prog 160 #[.pointer (some ⟨a.pb,i*14,none⟩),.int .i64 mode,.int .i64 now] w fun e w'=>e=.returned (.tuple #[])∧Mo w' a g (st.restart i mode) F∧aH (Dm a g st) w w':=by
 subst d5;have b7:=h.ok.part i f;have f3:Tryz.prog.follows .mixedOrders=true:=by kernel_rfl
 refine(callsIn_wide (n:=4)).1 ?_;refine callsIn_of_wp_marks Tryz.func160 rfl trivial ?_ rfl;simp only[Tryz.ntmps160,List.size_toArray,List.length_cons,List.length_nil,Nat.reduceAdd,Nat.reduceSub,Array.replicate_succ,Array.replicate_zero,List.push_toArray,List.append_toArray,List.nil_append,List.cons_append];have a3:=h.mach.partAt i 9 f (by omega);have a4:=h.mach.partAt i 10 f (by omega);have O:=h.mach.partAt i 11 f (by omega);have a5:=h.mach.partAt i 13 f (by omega);simp only[fK,List.getElem?_cons_succ,List.getElem?_cons_zero]at a3 a4 O a5;have b8:=aJ h.mach.parts (i*14+9);have b9:=aJ h.mach.parts (i*14+13)
 gi_wp2_with (refine⟨trivial,?_⟩;gi_at_call 146;refine(callsIn_wide.2 (uT _ _ _)).mono ?_;rintro e w' ⟨rfl,rfl⟩)
 obtain⟨j,G⟩:∃j,j=(st.part i).procs.length:=⟨_,rfl⟩;obtain⟨q,A⟩:∃q,q=(w.setCell ⟨a.pb,i*14+9,none⟩ (.int .i64 mode)).setCell ⟨a.pb,i*14+13,none⟩ (.int .i64 st.now):=⟨_,rfl⟩;have c0:q.heap.size=w.heap.size:=by rw[A];simp[World.setCell]
 obtain⟨d,u⟩:∃d,d=st.setPart i { st.part i with mode:=mode,watch:=st.now }:=⟨_,rfl⟩;have B:d.part i={ st.part i with mode:=mode,watch:=st.now }:=by rw[u];exact aQ.part_set f
 have P:d.parts.length=st.parts.length:=by rw[u];exact aQ.setPart_len _ _ _
 have Q:d.cf=st.cf:=by rw[u];rfl
 have a6:aH (·=a.pb) w q:=by rw[A];exact(aH.ofSet (S:=(·=a.pb)) w _ _ _ rfl).thenSet _ _ rfl
 have H:aU q a g d:=by
  have d6:=h.mach.setMode i mode f;have R:=d6.setWatch i st.now (by rw[aQ.setPart_len];exact f);rw[aQ.part_set f,aQ.setPart_set,←u,←A]at R;exact R
 have a7:Mo q a g d F:=h.cells h.mach.parts (by decide) a6 H P Q (by rw[u];exact h.ok.setPart i _ rfl rfl);have f4:=bG H.parts (H.words i (by omega)) (by decide);have d7:j≤1000:=by
  have s:=h.ok.good.parts (st.cf.parts.getD i default) (dB (by rw[←h.ok.len];exact f));have:=s.few;have:=b7.2;rw[G];unfold aQ.part;omega
 rw[←G,←A];rw[←G]at O;have a8:=aI G;have f5:=aI A;have d8:=aI u;clear G A u;have T:=Boxed.new q 118 (.slice (some ⟨a.pr i,0,none⟩) j j);rw[c0]at T;obtain⟨v,a9⟩:∃v,v=q.alloc (.cells #[.slice (some ⟨a.pr i,0,none⟩) j j] 118):=⟨_,rfl⟩;have d9:v.heap.size=w.heap.size+1:=by rw[a9];simp[c0]
 have U:=aI d9;have c1:Below q.heap.size q v:=aE a9;have C:=a7.mono c1;rw[←a9]at T ⊢;have V:∀b,Dm a g st b→b<v.heap.size:=fun b R=>by have:=h.lt b R;omega
 have c2:Dm a g st (a.pr i):=.inr (.inr (.inl ⟨i,f,.inr rfl⟩));have f6:=h.lt _ c2;refine wpIn_rangeFunc_ownG rfl (by omega) (gf:=185) (lb:=#[.pointer (some ⟨w.heap.size,0,none⟩)]) rfl trivial (enters_of Tryz.func185 (by kernel_rfl) rfl)
  (rO _ _ trivial rfl (by omega) j d7 w.heap.size (a.pr i) v (by omega) T) (fun h k=>k.trans h) (fun W l o f7 f8 _ _ _=>World.putObj_heap_other (by omega)) (Below.refl _ _) (fun _=>rfl)
  (fun r W=>aU W a g (rN i d r)∧Boxed W w.heap.size 118 (.slice (some ⟨a.pr i,0,none⟩) j j)∧aH (·=a.pr i) v W)
  (fun _ _ _=>False)
  (OwnFrom.and (Cp (fun r=>rN i d r) (fun r e0 c3=>V _ (.inr (.inr (.inr (.inl ⟨e0,by rw[(yC i r d).1,Q]at c3;exact c3,rfl⟩)))))) (OwnFrom.and (Own.from (boxed_own _ _ _) _) (dZ (Nat.le_refl _))))
  (fun _ _ _ _ _ e1 _ _=>e1)
  ⟨C.mach,T,aH.refl _ _⟩
  (fun k=>{ tmps:=#[.pointer (some ⟨a.pb,i*14,none⟩),.int .i64 mode,.int .i64 st.now,undef,undef,undef,undef,.pointer (some ⟨a.pr i,k.1*6,none⟩),.pointer (some ⟨a.pb,i*14,none⟩),.int .i64 mode,.pointer (some ⟨a.pb,i*14,none⟩),.pointer (some ⟨a.pb,i*14+9,none⟩),.pointer (some ⟨a.pb,i*14,none⟩),.int .i64 st.now,.pointer (some ⟨a.pb,i*14,none⟩),.pointer (some ⟨a.pb,i*14+13,none⟩),.pointer (some ⟨a.pb,i*14,none⟩),.pointer (some ⟨a.pb,i*14,none⟩),.pointer (some ⟨a.pb,i*14+11,none⟩),.agg #[.slice (some ⟨a.pr i,0,none⟩) j j],.func (.func 185) #[] #[.pointer (some ⟨w.heap.size,0,none⟩)],.int .i64 k.1,.pointer (some ⟨a.pr i,k.1*6,none⟩),undef,undef,undef,undef,undef,undef,undef,undef,undef],defers:=[] }) ?assign ?body ?done ?stop
 case assign=>
  intro l k W K b0
  gi_wp2
  exact b0
 case body=>
  rintro l r k W ⟨x,I,D⟩ f9;have X:=yC i r d;have e2:=aI (An a g (rN i d r) i k.1 W x (by rw[X.2.1,X.1,P,Q];exact h.lay) (by rw[X.2.1,P];exact f) (by rw[X.2.2,B];exact Nat.lt_of_lt_of_eq k.2 a8.out));have c4:=aI I;have e3:=aI D;clear x I D H a7 C a3 a4 O a5 b8 b9
  gi_wp2_with fail
  refine⟨trivial,?_⟩;refine(CallsIn.inRound l (callsIn_wide.2 e2.out)).mono ?_;rintro e e4 ⟨rfl,s,J⟩
  gi_wp2
  have c5:e4.heap[w.heap.size]?=W.heap[w.heap.size]?:=J.block _ c4.out.lt (by intro e;have E:w.heap.size=a.pr i:=e;omega);refine⟨eY J (fun b e=>by have E:b=a.pr i:=e;omega),c5,?_,c5.trans c4.out,e3.out.andThen J⟩;rw[yE];exact s
 case done=>
  rintro m g0 W g1 rfl ⟨x,I,D⟩ b0;rw[Og i d j (by omega) j (Nat.le_refl _) (by rw[a8.out,B])]at x;have c6:List.replicate j dC++(d.part i).procs.drop j=List.replicate (st.part i).procs.length dC:=by rw[B,a8.out];simp
  rw[c6,B]at x;have g2:w.heap.size<W.heap.size:=I.lt;have b1:Mo W a g (d.setPart i { st.part i with mode:=mode,watch:=st.now,procs:=List.replicate (st.part i).procs.length dC }) F:=C.cells (C.mach.procs i (by omega)) (by decide) D x (aQ.setPart_len _ _ _) rfl (C.ok.setPart i _ (by rw[B]) (by rw[B];simp));have c7:aH (Dm a g st) w W:=(a6.to (fun b e=>.inr (.inl e))).andThen ((aH.ofBelow c1).andThen (D.to (fun b e=>by have E:b=a.pr i:=e;rw[E];exact c2)));have c8:=b1.mach.partAt i 10 (by rw[aQ.setPart_len];omega) (by omega);rw[aQ.part_set (by omega)]at c8;simp only[fK,List.getElem?_cons_succ,List.getElem?_cons_zero]at c8;have y:=aI b1;have c9:=aI c7;have b2:Hid (∀b3,b3=(if mode=1 then List.replicate (st.part i).words.length (0:Int)else(st.part i).words)→(d.setPart i { st.part i with mode:=mode,watch:=st.now,procs:=List.replicate (st.part i).procs.length dC }).setPart i { (d.setPart i { st.part i with mode:=mode,watch:=st.now,procs:=List.replicate (st.part i).procs.length dC }).part i with words:=b3 }=st.restart i mode):=fun b3 e5=>by
   rw[aQ.part_set (by omega),aQ.setPart_set,d8.out,aQ.setPart_set,e5];rfl
  have Y:=aI b0;clear a3 a4 O a5 b8 b9 x I D a7 C H a6 b1 c7 c6;have hnd:¬Dm a g st m:=fun z=>by have:=V m z;omega
  obtain⟨p,Z⟩:∃p,p=d.setPart i { st.part i with mode:=mode,watch:=st.now,procs:=List.replicate (st.part i).procs.length dC }:=⟨_,rfl⟩;have b4:p.parts.length=st.parts.length:=by rw[Z,aQ.setPart_len];exact P
  have e6:p.cf=st.cf:=by rw[Z];exact Q
  have a0:p.part i={ st.part i with mode:=mode,watch:=st.now,procs:=List.replicate (st.part i).procs.length dC }:=by rw[Z];exact aQ.part_set (by omega)
  have b5:∀b,Dm a g p b↔Dm a g st b:=fun b=>by unfold Dm;rw[b4,e6]
  rw[←Z]at y b2
  by_cases a1:mode=1
  ·have e7:(mode == 1)=true:=by simp[a1]
   have a2:=y.out.mach.words i (by rw[b4];exact f);have d0:(p.parts.getD i default).words=(st.part i).words:=by show(p.part i).words=_;rw[a0]
   rw[d0]at a2;have e8:(st.part i).words.length≤1000:=by
    have s:=h.ok.good.parts (st.cf.parts.getD i default) (dB (by rw[←h.ok.len];exact f));have:=s.words;have:=b7.1;unfold aQ.part;omega
   have e9:=aI (Ot (a.wd i) (st.part i).words W a2 e8);have f0:=aI a2;clear a2 d0 V hnd b5
   gi_wp2_with fail
   refine⟨trivial,?_⟩;refine(callsIn_wide.2 e9.out).mono ?_;rintro e L ⟨rfl,d1,M⟩;have d2:Dm a g st (a.wd i):=.inr (.inr (.inl ⟨i,f,.inl rfl⟩));have b6:L.heap[m]?=some (.deferred (some [])):=(M.block m (aR Y.out) (fun e=>by have E:m=a.wd i:=e;have:=h.lt _ d2;have:=U.out;omega)).trans Y.out;have d3:=y.out.mach.wordCell y.out.lay i (by rw[b4];exact f) (List.replicate (st.part i).words.length 0) L M (by rw[a0];simp) d1;have d4:Mo L a g (st.restart i mode) F:=by
    have:=y.out.cells f0.out (by decide) M d3 (aQ.setPart_len _ _ _) rfl (y.out.ok.setPart i _ (by rw[a0];simp) rfl);rw[b2.out _ (by rw[if_pos a1])]at this;exact this
   have N:Hid (Mo (L.putObj m (.deferred none)) a g (st.restart i mode) F∧aH (Dm a g st) w (L.putObj m (.deferred none))):=by
    refine⟨d4.put b6 rfl (fun z=>?_) _,(c9.out.andThen (M.to (fun b e=>by have E:b=a.wd i:=e;rw[E];exact d2))).put (by have:=U.out;omega) _⟩;have f1:Dm a g st m:=by
     unfold Dm at z ⊢;rw[show(st.restart i mode).parts.length=st.parts.length from aQ.setPart_len _ _ _]at z;exact z
    have:=h.lt m f1;have:=U.out;omega
   have f2:=aI b6;clear d3 d4 b6 d1 M
   gi_wp2
   refine⟨by simp,.inl ⟨_,_,rfl,run_takeDeferred f2.out,?_⟩⟩;exact⟨_,results_none rfl _ _ _,rfl,N.out.1,N.out.2⟩
  ·have e7:(mode == 1)=false:=by simp[a1]
   have N:Hid (Mo (W.putObj m (.deferred none)) a g (st.restart i mode) F∧aH (Dm a g st) w (W.putObj m (.deferred none))):=by
    have s:=y.out.put Y.out rfl (fun z=>hnd ((b5 m).1 z)) (.deferred none);have J:p=st.restart i mode:=by
     rw[←b2.out _ rfl,if_neg a1];have:(st.part i).words=(p.part i).words:=by rw[a0]
     rw[this];exact(aQ.setPart_self p i).symm
    rw[J]at s;exact⟨s,c9.out.put (by have:=U.out;omega) _⟩
   clear V hnd b5
   gi_wp2
   refine⟨by simp,.inl ⟨_,_,rfl,run_takeDeferred Y.out,?_⟩⟩;exact⟨_,results_none rfl _ _ _,rfl,N.out.1,N.out.2⟩
 case stop=>
  rintro m c r W _ _ h _;exact h.elim
end
section
open Go.RowKit Go.Shelf
attribute [local go_sem] Oper.semAt_some
def gZ(i:Nat)(s:aQ):aQ:=if(s.part i).mode=3 then s else s.restart i 1
def eQ(st:aQ){a:Nat}(b:List (Fin a)):aQ:=b.foldl (fun s k=>gZ k.1 s) st
theorem pF(st:aQ){a:Nat}(b:List (Fin a))(k:Fin a):eQ st (b++[k])=gZ k.1 (eQ st b):=by simp[eQ]
theorem qL(i:Nat)(st:aQ):(gZ i st).cf=st.cf∧(gZ i st).parts.length=st.parts.length∧(gZ i st).now=st.now:=by
 unfold gZ;split
 ·exact⟨rfl,rfl,rfl⟩
 ·exact⟨rfl,aQ.setPart_len _ _ _,rfl⟩
theorem pO{d:Nat}(a:List (Fin d)):∀st:aQ,(eQ st a).cf=st.cf∧(eQ st a).parts.length=st.parts.length∧(eQ st a).now=st.now:=by
 induction a with
 | nil=>intro st;exact⟨rfl,rfl,rfl⟩
 | cons k a ih=>
  intro st;have b:=qL k.1 st;have c:=ih (gZ k.1 st);exact⟨c.1.trans b.1,c.2.1.trans b.2.1,c.2.2.trans b.2.2⟩
theorem qO(st:aQ)(a:Nat)(i:a=st.parts.length)(k:Nat)(j:k≤a):eQ st (upto a k)={ st with parts:=(st.parts.take k).map (fun p=>if p.mode=3 then p else gI 1 st.now p)++st.parts.drop k }:=by
 induction k with
 | zero=>rfl
 | succ k ih=>
  rw[eW a k (by omega),pF,ih (by omega)];have b:k<st.parts.length:=by omega
  have d:((st.parts.take k).map (fun p=>if p.mode=3 then p else gI 1 st.now p)).length=k:=by simp;omega
  obtain⟨c,f⟩:∃c,c=(st.parts.take k).map (fun p=>if p.mode=3 then p else gI 1 st.now p):=⟨_,rfl⟩;rw[←f]at d ⊢;have g:({ st with parts:=c++st.parts.drop k }:aQ).part k=st.parts[k]:=by
   unfold aQ.part;simp only[List.getD_eq_getElem?_getD];rw[List.getElem?_append_right (by omega),d,Nat.sub_self,List.getElem?_drop,Nat.add_zero,List.getElem?_eq_getElem b];rfl
  have h:(st.parts.take (k+1)).map (fun p=>if p.mode=3 then p else gI 1 st.now p)=c++[if(st.parts[k]).mode=3 then st.parts[k]else gI 1 st.now st.parts[k]]:=by
   rw[List.take_add_one,List.getElem?_eq_getElem b,List.map_append,←f];rfl
  rw[h];unfold gZ;rw[g];split
  ·rw[List.drop_eq_getElem_cons b];simp
  ·unfold aQ.restart aQ.setPart;rw[g];simp only;rw[List.set_append_right _ _ (by omega),d,Nat.sub_self,List.drop_eq_getElem_cons b,List.set_cons_zero];simp
theorem Mf(a:bN)(g:Nat)(st:aQ)(F:Fl)(w:World)(h:Mo w a g st F):
 Calls Tryz.prog 161 #[.pointer (some ⟨a.mb,0,none⟩)] w fun e w'=>e=.returned (.tuple #[])∧Mo w' a g st.reset F∧aH (Dm a g st) w w':=by
 have b7:Tryz.prog.follows .mixedOrders=true:=by kernel_rfl
 obtain⟨d,O⟩:∃d,d=st.parts.length:=⟨_,rfl⟩;have a6:d≤1000:=by have:=h.ok.good.few;have:=h.ok.len;omega
 have P:=h.mach.machAt 3;have X:=h.mach.machAt 6;simp only[List.getElem?_toArray,List.getElem?_cons_succ,List.getElem?_cons_zero]at P X;rw[←O]at P;have Q:=aI O;have b8:=lt_of_block h.mach.mach;have b9:Dm a g st a.mb:=.inl rfl;clear O;refine(callsIn_wide (n:=4)).1 ?_;refine callsIn_of_wp_marks Tryz.func161 rfl trivial ?_ rfl;simp only[Tryz.ntmps161,List.size_toArray,List.length_cons,List.length_nil,Nat.reduceAdd,Nat.reduceSub,Array.replicate_succ,Array.replicate_zero,List.push_toArray,List.append_toArray,List.nil_append,List.cons_append]
 gi_wp2_with (refine⟨trivial,?_⟩;gi_at_call 145;refine(callsIn_wide.2 (qR _ _ _)).mono ?_;rintro e w' ⟨rfl,rfl⟩)
 have Y:=Boxed.new w 74 (.pointer (some ⟨a.mb,0,none⟩));have D:=Boxed.new (w.alloc (.cells #[.pointer (some ⟨a.mb,0,none⟩)] 74)) 111 (.slice (some ⟨a.pb,0,none⟩) d d);rw[World.size_alloc]at D;have Z:=Y.alloc (.cells #[.slice (some ⟨a.pb,0,none⟩) d d] 111);obtain⟨q,v⟩:∃q,q=(w.alloc (.cells #[.pointer (some ⟨a.mb,0,none⟩)] 74)).alloc (.cells #[.slice (some ⟨a.pb,0,none⟩) d d] 111):=⟨_,rfl⟩;have a7:q.heap.size=w.heap.size+2:=by rw[v];simp
 have a0:Below w.heap.size w q:=by rw[v];exact(aG _ _).alloc (by simp) _
 rw[←v]at D Z ⊢;have R:=h.mono a0;have c0:=aI v;have a1:=aI a7;clear v Y;have r:∀b,Dm a g st b→b<w.heap.size:=fun b j=>h.lt b j
 have E:∀ (s:aQ) (b:Nat),s.cf=st.cf→s.parts.length=st.parts.length→Dm a g s b→Dm a g st b:=fun s b G H j=>by unfold Dm at j ⊢;rw[G,H]at j;exact j
 refine wpIn_rangeFunc_ownG rfl (by omega) (gf:=184) (lb:=#[.pointer (some ⟨w.heap.size+1,0,none⟩)]) rfl trivial (enters_of Tryz.func184 (by kernel_rfl) rfl)
  (nR _ _ trivial rfl (by omega) d a6 (w.heap.size+1) a.pb q (by omega) D) (fun h k=>k.trans h) (fun W l o c1 c2 _ _ _=>World.putObj_heap_other (by omega)) (Below.refl _ _) (fun _=>rfl)
  (fun f W=>Mo W a g (eQ st f) F∧Boxed W w.heap.size 74 (.pointer (some ⟨a.mb,0,none⟩))∧Boxed W (w.heap.size+1) 111 (.slice (some ⟨a.pb,0,none⟩) d d)∧aH (Dm a g st) q W)
  (fun _ _ _=>False)
  (OwnFrom.and (gF (fun f=>eQ st f) (fun _=>F) (fun f b j=>by have:=r b (E _ b (pO f st).1 (pO f st).2.1 j);omega)) (OwnFrom.and (Own.from (boxed_own _ _ _) _) (OwnFrom.and (Own.from (boxed_own _ _ _) _) (dZ (Nat.le_refl _)))))
  (fun _ _ _ _ _ a8 _ _=>a8)
  ⟨R,Z,D,aH.refl _ _⟩
  (fun k=>{ tmps:=#[.pointer (some ⟨a.mb,0,none⟩),.pointer (some ⟨w.heap.size,0,none⟩),undef,.pointer (some ⟨a.pb,k.1*14,none⟩),.pointer (some ⟨a.mb,0,none⟩),.pointer (some ⟨a.mb,0,none⟩),.pointer (some ⟨a.mb,3,none⟩),.agg #[.slice (some ⟨a.pb,0,none⟩) d d],.func (.func 184) #[] #[.pointer (some ⟨w.heap.size+1,0,none⟩)],.int .i64 k.1,.pointer (some ⟨a.pb,k.1*14,none⟩),undef,undef,undef,undef,undef,undef,undef,undef],defers:=[] }) ?assign ?body ?done ?stop
 case assign=>
  intro l k W K I
  gi_wp2
  exact I
 case body=>
  rintro l f k W ⟨i,x,J,y⟩ c3;have L:=pO f st;have a2:k.1<(eQ st f).parts.length:=by rw[L.2.1,←Q.out];exact k.2
  have S:=i.mach.partAt k.1 9 a2 (by omega);simp only[fK,List.getElem?_cons_succ,List.getElem?_cons_zero]at S;have a9:=i.mach.machAt 6;simp only[List.getElem?_toArray,List.getElem?_cons_succ,List.getElem?_cons_zero]at a9;have c4:=x.cell;have b0:=aI (qM a.pb (k.1*14) _ W S);have b1:=aI (pW a g (eQ st f) F k.1 1 (eQ st f).now W i a2 rfl);have a3:=aI (pF st f k);have M:Hid (gZ k.1 (eQ st f)=if((eQ st f).part k.1).mode=3 then eQ st f else(eQ st f).restart k.1 1):=rfl;have b2:=aI i;have T:=aI x;have U:=aI J;have a4:=aI y;have b3:=aI (fun b=>E (eQ st f) b L.1 L.2.1);clear i x J y R P X L S;generalize eQ st f=s at *
  gi_wp2_with fail
  refine⟨trivial,?_⟩;refine(CallsIn.inRound l (callsIn_wide.2 b0.out)).mono ?_;rintro e z ⟨rfl,rfl⟩
  by_cases u:(s.part k.1).mode=3
  ·have b4:((s.part k.1).mode != 3)=false:=by simp[u]
   rw[if_pos u]at M;clear u
   gi_wp2
   exact⟨KeepsFrom.refl _ _,rfl,(by rw[a3.out,M.out];exact b2.out),T.out,U.out,a4.out⟩
  ·have b4:((s.part k.1).mode != 3)=true:=by simp[u]
   rw[if_neg u]at M;clear u
   gi_wp2_with fail
   refine⟨trivial,?_⟩;refine(CallsIn.inRound l (callsIn_wide.2 b1.out)).mono ?_;rintro e m ⟨rfl,G,H⟩;have A:aH (Dm a g st) z m:=H.to b3.out;have a5:m.heap[w.heap.size]?=z.heap[w.heap.size]?:=A.block _ T.out.lt (fun B=>by have:=r _ B;omega);have V:m.heap[w.heap.size+1]?=z.heap[w.heap.size+1]?:=A.block _ U.out.lt (fun B=>by have:=r _ B;omega);have N:Hid (KeepsFrom q.heap.size z m∧m.heap[w.heap.size+1]?=z.heap[w.heap.size+1]?∧Mo m a g (eQ st (f++[k])) F∧Boxed m w.heap.size 74 (.pointer (some ⟨a.mb,0,none⟩))∧Boxed m (w.heap.size+1) 111 (.slice (some ⟨a.pb,0,none⟩) d d)∧aH (Dm a g st) q m):=
    ⟨eY A (fun b j=>by have:=r b j;have:=a1.out;omega),V,by rw[a3.out,M.out];exact G,a5.trans T.out,V.trans U.out,a4.out.andThen A⟩
   clear G H A a5 V
   gi_wp2
   exact N.out
 case done=>
  rintro C c5 W c6 rfl ⟨i,x,J,y⟩ I;rw[qO st d Q.out d (Nat.le_refl _)]at i;have e:({ st with parts:=(st.parts.take d).map (fun p=>if p.mode=3 then p else gI 1 st.now p)++st.parts.drop d }:aQ)=st.reset:=by
   unfold aQ.reset;rw[Q.out];simp
  rw[e]at i;have b5:=a1.out;have N:Hid (Mo (W.putObj C (.deferred none)) a g st.reset F∧aH (Dm a g st) w (W.putObj C (.deferred none))):=
   ⟨i.put I rfl (fun B=>by have:=r C (E st.reset C rfl (by simp[aQ.reset]) B);omega) _,((aH.ofBelow a0).andThen y).put (by omega) _⟩
  have b6:=aI I;clear i x J y R r E b5 e
  gi_wp2
  refine⟨by simp,.inl ⟨_,_,rfl,run_takeDeferred b6.out,?_⟩⟩;exact⟨_,results_none rfl _ _ _,rfl,N.out.1,N.out.2⟩
 case stop=>
  rintro C c f W _ _ h _;exact h.elim
end
theorem sH(l:List (Nat→Int))(k:Nat)(r:Nat→Int)(h:l[k]?=some r):fQ (l.take (k+1))=max (fQ (l.take k)) (r 3):=by
 unfold fQ;rw[List.take_add_one,h,List.foldl_append];rfl
theorem Tv(a b:Int):max a b=if b>a then b else a:=by
 rw[Int.max_def];split<;>split<;>omega
theorem zZ(l:List (Nat→Int))(a:∀r∈l,0≤r 3∧r 3<4294967296):∀k,0≤fQ (l.take k)∧fQ (l.take k)<4294967296:=by
 intro k
 induction k with
 | zero=>exact⟨Int.le_refl _,by show(0:Int)<_;omega⟩
 | succ k ih=>
  cases h:l[k]? with
  | none=>
   rw[List.take_add_one,h]
   simpa using ih
  | some r=>
   rw[sH l k r h];have:=a r (List.mem_of_getElem? h);omega
theorem zF(base:Nat)(v:Value)(l:List (Nat→Int))(w:World)(R:l.length≤100)(j:∀r∈l,0≤r 3∧r 3<4294967296)(m:dM base v l w):
 Calls Tryz.prog 154 #[v] w fun e w'=>e=.returned (.int .i64 (fQ l+1))∧Below w.heap.size w w':=by
 obtain⟨ad,c,rfl,q⟩:=iE m;have D:=aI q;have E:=aI (zZ l j);obtain⟨s,h⟩:∃s,s=fQ l:=⟨_,rfl⟩;rw[←h];have F:=aI h;clear h;generalize u:l.length=g at *;have x:=aI u;clear q u m j
 go_enter Tryz.func154,Tryz.ntmps154
 go_wp2
 go_loopw [3,8] (fun n t wr=>∃ (k:Nat),k≤g∧t=.int .i64 k∧n=.int .i64 (fQ (l.take k))∧Below w.heap.size w wr) (fun _ t _=>g-(intOf t).toNat)
 case atStart=>exact⟨0,by omega,rfl,rfl,Below.refl _ _⟩
 case round=>
  obtain⟨k,S,rfl,rfl,a⟩:=hrel
  by_cases G:k<g
  ·obtain⟨r,i⟩:∃r,l[k]?=some r:=⟨l[k]'(by rw[x.out];exact G),List.getElem?_eq_getElem _⟩;obtain⟨b,H,d,y,z,A,B,C⟩:=D.out k r i;subst H;have I:=(a.cell (p:=⟨b,k*5,none⟩) d).trans y;have J:=(a.cell (p:=⟨b,k*5+1,none⟩) d).trans z;have L:=(a.cell (p:=⟨b,k*5+2,none⟩) d).trans A;have M:=(a.cell (p:=⟨b,k*5+3,none⟩) d).trans B;have N:=(a.cell (p:=⟨b,k*5+4,none⟩) d).trans C;have f:=aI (sH l k r i);have O:Hid (∀o,Below w.heap.size w (wr.alloc o)):=fun o=>a.alloc a.size o
   clear i y z A B C a;generalize fQ (l.take k)=T at f ⊢;generalize r 0=p0 at I;generalize r 1=p1 at J;generalize r 2=p2 at L;generalize r 3=p3 at M f;generalize r 4=U at N;go_wp2
   go_roundw
   case rel=>exact⟨k+1,by omega,by go_num,by rw[f.out,Tv],O.out _⟩
   case measure=>simp[intOf];omega
  ·obtain rfl:k=g:=by omega
   have f:Hid (l.take k=l):=by show _=_;rw[←x.out];exact List.take_length
   have P:=E.out k;rw[f.out,←F.out]at P ⊢;have Q:=aI a;clear a;go_wp2
   go_ret
   exact⟨by go_num,Q.out⟩
theorem xT(bs:List Int)(c:cT bs)(s k:Nat):∀r∈fC bs s k,∀b,0≤r b∧r b<4294967296:=by
 induction k with
 | zero=>intro r a;simp[fC]at a
 | succ k ih=>
  intro r a b;rcases List.mem_append.1 a with a| a
  ·exact ih r a b
  ·split at a
   ·rw[List.mem_singleton.1 a];exact rG bs s (k+1) b c
   ·simp at a
theorem Qh(bs:List Int)(c:cT bs):∀r∈bT bs,∀b,0≤r b∧r b<4294967296:=by
 intro r a b;unfold bT dQ at a;rcases List.mem_append.1 a with a| a
 ·split at a
  ·simp at a
  ·exact xT bs c _ _ r a b
 ·split at a
  ·simp at a
  ·exact xT bs c _ _ r a b
theorem Kt(bs:List Int)(a:cT bs):∀r∈bT bs,0≤r 3∧r 3<4294967296:=fun r b=>Qh bs a r b 3
theorem wL(bs:List Int):(bT bs).length≤100:=by
 unfold bT;have:=jA bs (bD bs).1;have:=jA bs (bD bs).2;rw[List.length_append];omega
theorem oC(bs:List Int)(part:Nat):0≤aX bs part∧aX bs part≤255:=by
 unfold aX;split
 ·omega
 ·refine Ap _ _ _ ?_;have:=(lD (tZ bs (bD bs).1.toNat % 4294967296).toNat).getD part;omega
theorem Gq(x:Nat)(bs:List Int)(s:Nat)(w:World)(U:cT bs)(h:cA x bs s w)(G:∀p,pK bs s p=aX bs p):
 Calls Tryz.prog 157 #[.agg #[.int .i64 s,.slice (some ⟨x,0,none⟩) 8 8]] w fun e w'=>e=.returned (.int .i64 (kE bs))∧Below w.heap.size w w':=by
 obtain⟨V,X,Y,Z,a0⟩:=info_parts Tryz.info5;have a1:Hid (∀p W,p<4→Below w.heap.size w W→Calls Tryz.prog 113 #[.agg #[.int .i64 s,.slice (some ⟨x,0,none⟩) 8 8],.int .i64 (p:Nat)] W fun e w'=>e=.returned (.int .i64 (aX bs p))∧Below W.heap.size W w'):=fun p W a2 a3=>by
  rw[←G p];exact rJ x bs s p W U a2 (h.below a3)
 obtain⟨a,q⟩:∃a:Nat→Int,a=fun p=>aX bs p:=⟨_,rfl⟩
 have f:Hid (∀p,0≤a p∧a p≤255):=fun p=>by subst q;exact oC bs p
 have a4:Hid (∀p,a p=aX bs p):=fun p=>by subst q;rfl
 have a5:Hid (kE bs=16777216*a 0+65536*a 1+256*a 2+a 3):=by subst q;rfl
 clear h G q;obtain⟨d,j⟩:∃d,d=w.alloc (.cells #[.int .i64 s,.slice (some ⟨x,0,none⟩) 8 8] 183):=⟨_,rfl⟩;have C:Hid (Below w.heap.size w d):=aE j;have H:d.heap[w.heap.size]?=some (.cells #[.int .i64 s,.slice (some ⟨x,0,none⟩) 8 8] 183 (0,0)):=aF j;have a6:=aI H;have a7:Hid (d.heap.size=w.heap.size+1):=by show _=_;rw[j];simp
 have a8:=aI j;clear H j
 go_enter Tryz.func157,Tryz.ntmps157
 go_wp2_with fail
 rw[←a8.out];go_wp2_with fail
 go_loopw [3,5] (fun v t wr=>∃ (k:Nat),k≤4∧t=.int .i64 k∧wr.ownsRow d.heap.size 5 1 v k (bZ ((List.range k).map a))∧Below d.heap.size d wr) (fun _ t _=>4-(intOf t).toNat)
 case atStart=>exact⟨0,by omega,rfl,World.ownsRow_nil _ _ _ _,Below.refl _ _⟩
 case round=>
  obtain⟨k,c2,rfl,i,D⟩:=hrel;have E:=(D.block w.heap.size (by rw[a7.out];omega)).trans a6.out;have c3:wr.cell? ⟨w.heap.size,0,none⟩=some (.int .i64 s):=aD E;have c4:wr.cell? ⟨w.heap.size,1,none⟩=some (.slice (some ⟨x,0,none⟩) 8 8):=aD E;have r:=aI D;have I:=aI i;clear E D;obtain⟨ad,c,u⟩:=bL i;subst u;have a9:=r.out.size;have j:=C.out.size
  by_cases b0:k<4
  ·have J:=aI (a1.out k wr b0 (C.out.trans (r.out.mono (by omega))));rw[←a4.out k]at J;have c5:=f.out k;clear i;have b1:Hid ((List.range (k+1)).map a=(List.range k).map a++[a k]):=by show _=_;rw[List.range_succ,List.map_append];rfl
   generalize a k=l at *;have b2:∀W:World,(convert 3 5 (.int .i64 l)).run Tryz.prog W=.ok (.int .u8 l) W:=fun W=>by
    simp[go_sem,Tryz.underlying3,Tryz.underlying5,IntKind.wrap,IntKind.signed,IntKind.bits];omega
   go_wp2_with fail
   refine J.out.mono ?_;rintro e m ⟨rfl,y⟩;have L:Hid (Below d.heap.size d m):=r.out.trans (y.mono a9);have M:Hid (m.ownsRow d.heap.size 5 1 (.slice ad k c) k (bZ ((List.range k).map a))):=aO I.out (fun b e=>y.block b (World.ownsRow.lt I.out b e).2);have c6:=y.size;have c7:=L.out.size;clear y;go_wp2_with (at_builtin;go_must (refine wpList_append_lies _ rfl (.tmp 8) (.tmp 13) 22 rfl d.heap.size 5 V (.int .u8 0) 1 1 Tryz.underlying22 X Y Z a0 rfl (by decide) (.slice ad k c) k (bZ ((List.range k).map a)) rfl (by exact M.out.alloc _) ⟨m.heap.size,0,none⟩ 1 1 [.int .u8 l] (by rfl) rfl (by exact dA m #[.int .u8 l] 5) (jM [l]) (by omega) (by unfold maxLen;omega) (by omega) (by simp;omega) _ rfl ?_))
   intro b3 b4 F N n _ _;have O:m.grownBy F (Value.slice ad k c).ownBlock:=aZ (o:=.cells #[.int .u8 l] 5) ⟨n.os,n.tape,n.output,n.size,n.block⟩;have P:Hid (F.ownsRow d.heap.size 5 1 (.slice (some ⟨b3,0,none⟩) (k+1) b4) (k+1) (bZ ((List.range (k+1)).map a))∧Below d.heap.size d F):=by
    refine⟨?_,L.out.grown O (by omega) (fun b e=>(World.ownsRow.lt M.out b e).1)⟩;rw[b1.out,iQ];exact N
   clear N n O;go_wp2
   go_roundw
   case rel=>exact⟨k+1,by omega,by go_num,P.out.1,P.out.2⟩
   case measure=>simp[intOf];omega
  ·obtain rfl:k=4:=by omega
   obtain⟨A,cp,Q⟩:∃A cp,(Value.slice ad 4 c)=.slice (some ⟨A,0,none⟩) 4 cp:=by obtain⟨b5,b6,B,_⟩:=i.form (by omega);exact⟨b5,b6,B⟩
   obtain⟨rfl,_,rfl⟩:=Value.slice.inj Q;have R:jG wr A 0 [a 0,a 1,a 2,a 3]:=iS (zs:=[a 0,a 1,a 2,a 3]) i;have c8:4≤c∧c≤9223372036854775807:=by
    rcases i.2 with⟨B,_⟩| ⟨g,c9,cur,u,_,_,b7,b8,_⟩
    ·cases B
    ·simp at u;obtain⟨rfl,rfl⟩:=u;exact⟨b7,by unfold maxLen at b8;omega⟩
   have b9:=aI (tX A 0 4 c [a 0,a 1,a 2,a 3] wr rfl (fun z S=>by
    simp only[List.mem_cons,List.not_mem_nil,or_false]at S;rcases S with rfl| rfl| rfl| rfl
    ·have:=f.out 0;omega
    ·have:=f.out 1;omega
    ·have:=f.out 2;omega
    ·have:=f.out 3;omega) R (by omega))
   have d0:=f.out 0;have B:=f.out 1;have d1:=f.out 2;have d2:=f.out 3;have c0:Hid (((bF 0 [a 0,a 1,a 2,a 3]:Nat):Int)=kE bs):=by
    show _=_
    rw[a5.out];simp only[bF,List.foldl];omega
   have d3:(bF 0 [a 0,a 1,a 2,a 3]:Nat)<4294967296:=by
    simp only[bF,List.foldl];omega
   have c1:Hid (Below w.heap.size w wr):=C.out.trans (r.out.mono (by omega));clear i R Q;generalize bF 0 [a 0,a 1,a 2,a 3]=T at *;have b2:∀W:World,(convert 177 3 (.int .u32 (T:Nat))).run Tryz.prog W=.ok (.int .i64 (T:Nat)) W:=fun W=>by
    simp[go_sem,Tryz.underlying177,Tryz.underlying3,IntKind.wrap,IntKind.signed,IntKind.bits];omega
   go_wp2_with fail
   refine b9.out.mono ?_;rintro e m ⟨rfl,rfl⟩;go_wp2
   go_ret
   rw[c0.out];exact⟨rfl,c1.out⟩
section
open Go.RowKit Go.Shelf
attribute [local go_sem] Oper.semAt_some
def Kb(bs:List Int)(s:Nat)(a:List (Fin 8)):Nat:=a.foldl (fun n i=>if gQ bs s i.1=0 then n else i.1+1) 0
theorem As(bs:List Int)(s:Nat)(a:List (Fin 8))(i:Fin 8):Kb bs s (a++[i])=if gQ bs s i.1=0 then Kb bs s a else i.1+1:=by simp[Kb]
theorem Ol(bs:List Int)(s:Nat)(k:Nat)(a:k≤8):Kb bs s (upto 8 k)=lU bs s k:=by
 induction k with
 | zero=>rfl
 | succ k ih=>rw[eW 8 k (by omega),As,ih (by omega)];rfl
theorem Pc(x:Nat)(bs:List Int)(s:Nat)(w:World)(h:cA x bs s w):
 Calls Tryz.prog 155 #[.agg #[.int .i64 s,.slice (some ⟨x,0,none⟩) 8 8]] w fun e w'=>e=.returned (.int .i64 (nW bs s:Nat))∧Below w.heap.size w w':=by
 have Q:Tryz.prog.follows .mixedOrders=true:=by kernel_rfl
 refine(callsIn_wide (n:=4)).1 ?_;refine callsIn_of_wp_marks Tryz.func155 rfl trivial ?_ rfl;simp only[Tryz.ntmps155,List.size_toArray,List.length_cons,List.length_nil,Nat.reduceAdd,Nat.reduceSub,Array.replicate_succ,Array.replicate_zero,List.push_toArray,List.append_toArray,List.nil_append,List.cons_append]
 gi_wp2_with (refine⟨trivial,?_⟩;gi_at_call 172;refine(callsIn_wide.2 (yD _ _)).mono ?_;rintro e w' ⟨rfl,rfl⟩)
 have r:Below w.heap.size w (w.alloc (.cells #[.int .i64 s,.slice (some ⟨x,0,none⟩) 8 8] 183)):=aG _ _;obtain⟨a,u⟩:∃a,a=w.alloc (.cells #[.int .i64 s,.slice (some ⟨x,0,none⟩) 8 8] 183):=⟨_,rfl⟩;have z:a.heap.size=w.heap.size+1:=by rw[u];simp
 have R:a.heap[w.heap.size]?=some (.cells #[.int .i64 s,.slice (some ⟨x,0,none⟩) 8 8] 183 (0,0)):=aF u;rw[←u]at r ⊢;have v:=h.below r;have A:=Boxed.new a 3 (.int .i64 0);have m:=Boxed.new (a.alloc (.cells #[.int .i64 0] 3)) 181 (.slice (some ⟨x,0,none⟩) 8 8);rw[World.size_alloc]at m;rw[z]at A m;have B:Below (w.heap.size+1) a ((a.alloc (.cells #[.int .i64 0] 3)).alloc (.cells #[.slice (some ⟨x,0,none⟩) 8 8] 181)):=((Below.refl _ a).alloc (by omega) _).alloc (by simp;omega) _;obtain⟨p,C⟩:∃p,p=(a.alloc (.cells #[.int .i64 0] 3)).alloc (.cells #[.slice (some ⟨x,0,none⟩) 8 8] 181):=⟨_,rfl⟩;have S:p.heap.size=w.heap.size+3:=by rw[C];simp;omega
 have D:=A.alloc (.cells #[.slice (some ⟨x,0,none⟩) 8 8] 181);rw[←C]at m B D ⊢;refine wpIn_rangeFunc_ownF rfl (by omega) (gf:=199) (lb:=#[.pointer (some ⟨w.heap.size+1+1,0,none⟩)]) rfl trivial (enters_of Tryz.func199 (by kernel_rfl) rfl)
  (sQ _ _ trivial rfl (by omega) (w.heap.size+1+1) x p (by omega) m) (fun h k=>k.trans h) (fun W l o T U _ _ _=>World.putObj_heap_other (by omega)) (Below.refl _ _) (fun _=>rfl)
  (fun f W=>Boxed W (w.heap.size+1) 3 (.int .i64 (Kb bs s f:Nat))∧Boxed W (w.heap.size+1+1) 181 (.slice (some ⟨x,0,none⟩) 8 8)∧Below (w.heap.size+1) a W)
  (fun _ _ _=>False)
  (OwnFrom.and (Own.from (boxed_own _ _ (fun f=>.int .i64 (Kb bs s f:Nat))) _) (OwnFrom.and (Own.from (boxed_own _ _ _) _) (ownFrom_below (by omega) (by omega))))
  (fun _ _ _ _ _ J _ _=>J)
  ⟨D,m,B⟩
  (fun i=>{ tmps:=#[.agg #[.int .i64 s,.slice (some ⟨x,0,none⟩) 8 8],.pointer (some ⟨w.heap.size,0,none⟩),.int .i64 0,.pointer (some ⟨w.heap.size+1,0,none⟩),.int .i64 i.1,.pointer (some ⟨x,i.1*6,none⟩),.pointer (some ⟨w.heap.size,1,none⟩),.agg #[.slice (some ⟨x,0,none⟩) 8 8],.func (.func 199) #[] #[.pointer (some ⟨w.heap.size+1+1,0,none⟩)],.int .i64 i.1,.pointer (some ⟨x,i.1*6,none⟩),undef,undef,undef,undef,undef,undef,undef,undef],defers:=[] }) ?assign ?body ?done ?stop
 case assign=>
  intro l i W K q
  gi_wp2
  exact q
 case body=>
  rintro l f i W ⟨b,j,d⟩ V;have X:=d.size;have y:cA x bs s W:=v.below (by rw[z];exact d);have Y:=i.2;have Z:W.cell? ⟨x,i.1*6,none⟩=some (.int .i64 (gQ bs s i.1)):=by simpa[cD]using y.cell i.1 0 (by omega) (by omega)
  have E:=b.cell;have a0:=b.frozen;have F:=aI (As bs s f i);have L:=aI j;have M:=aI d;have N:=aI b
  by_cases g:gQ bs s i.1=0
  ·have O:(gQ bs s i.1 != 0)=false:=by simp[g]
   have G:=aI g;clear b j d y g v;generalize gQ bs s i.1=kk at *
   gi_wp2
   refine⟨KeepsOthers.refl _,rfl,⟨?_,L.out,M.out⟩⟩;rw[F.out,if_pos G.out];exact N.out
  ·have O:(gQ bs s i.1 != 0)=true:=by simp[g]
   have G:=aI g;have P:Hid (KeepsOthers W (W.setCell ⟨w.heap.size+1,0,none⟩ (.int .i64 ((i.1+1:Nat):Int)))∧(W.setCell ⟨w.heap.size+1,0,none⟩ (.int .i64 ((i.1+1:Nat):Int))).heap[w.heap.size+1+1]?=W.heap[w.heap.size+1+1]?∧Boxed (W.setCell ⟨w.heap.size+1,0,none⟩ (.int .i64 ((i.1+1:Nat):Int))) (w.heap.size+1) 3 (.int .i64 (Kb bs s (f++[i]):Nat))∧Boxed (W.setCell ⟨w.heap.size+1,0,none⟩ (.int .i64 ((i.1+1:Nat):Int))) (w.heap.size+1+1) 181 (.slice (some ⟨x,0,none⟩) 8 8)∧Below (w.heap.size+1) a (W.setCell ⟨w.heap.size+1,0,none⟩ (.int .i64 ((i.1+1:Nat):Int)))):=by
    have H:=j.other (B':=w.heap.size+1) (by omega) (.int .i64 ((i.1+1:Nat):Int));refine⟨KeepsOthers.setCell _ _ _,H.trans j.symm,?_,H,Below.thenSet d (Nat.le_refl _) _ _⟩;rw[F.out,if_neg g];exact b.set _
   clear b j d y g v;generalize gQ bs s i.1=kk at *;have a1:IntKind.i64.wrap ((i.1:Int)+1)=((i.1+1:Nat):Int):=by rw[IntKind.wrap_i64];omega
   gi_wp2
   exact P.out
 case done=>
  rintro I a2 W a3 rfl ⟨b,j,d⟩ q;have E:=b.cell;rw[Ol bs s 8 (by omega)]at E
  gi_wp2
  refine⟨by simp,.inl ⟨_,_,rfl,run_takeDeferred q,?_⟩⟩;refine⟨_,results_tmp rfl _ _ _,rfl,?_⟩;exact r.trans ((d.mono (by omega)).trans (belowK_b (w:=w) (Nat.le_refl _) W I _ _ (by omega) q rfl rfl))
 case stop=>
  rintro I c f W _ _ h _;exact h.elim
end
abbrev vS(sl:List Int)(a k:Nat)(F:Fl):Bool×Fl:=loopB (fun k F=>F.prog (a+(k+1)) (sl.getD (k+1) 0)) k F
theorem Aa(sl:List Int)(a k:Nat)(F:Fl)(h:(vS sl a k F).1=true):vS sl a (k+1) F=(vS sl a k F).2.prog (a+(k+1)) (sl.getD (k+1) 0):=by
 show eL (vS sl a k F) _=_
 unfold eL;rw[if_pos h]
theorem Kh(sl:List Int)(a k:Nat)(F:Fl)(h:gU F):gU (vS sl a k F).2:=sR gU _ (fun _ _ hF=>hF.prog _ _) k F h
theorem Eb(sl:List Int)(a k:Nat)(F:Fl)(b:k≤15)(h:(vS sl a k F).1=false):F.lay a sl=vS sl a k F:=by
 unfold Fl.lay;rw[show loopB (fun k F=>F.prog (a+(k+1)) (sl.getD (k+1) 0)) 15 F=vS sl a k F from iB _ F k 15 b h];unfold eL;rw[if_neg (by rw[h];simp)]
theorem Kz(sl:List Int)(a:Nat)(F:Fl)(h:(vS sl a 15 F).1=true):F.lay a sl=(vS sl a 15 F).2.prog a (sl.getD 0 0):=by
 unfold Fl.lay eL;rw[if_pos h]
theorem qU(g:Nat)(F:Fl)(s i:Nat)(d part code f j:Int)(w:World)(h:fO w g F)(M:gU F)(b5:s<2)(b6:i<8):
 Calls Tryz.prog 183 #[.pointer (some ⟨g,0,none⟩),.int .i64 s,.int .i64 i,.agg #[.int .i64 d,.int .i64 part,.int .i64 code,.int .i64 f,.int .i64 j]] w fun e w'=>
  e=.returned (.bool (F.lay (128*s+16*i) (dN d part code f j)).1)∧fO w' g (F.lay (128*s+16*i) (dN d part code f j)).2∧aH (·=g) w w':=by
 have N:=aI (Ok d part code f j (w.alloc (.cells #[.int .i64 d,.int .i64 part,.int .i64 code,.int .i64 f,.int .i64 j] 52)));have b7:=aI (Bz d part code f j);have Z:Hid ((dN d part code f j).getD 0 0=0):=rfl;have a0:=aI (rP d part code f j);have a1:=aI h;have a2:=aI M;have a3:=aI h.lt;clear h M;generalize dN d part code f j=sl at *;obtain⟨a,O⟩:∃a,a=128*s+16*i:=⟨_,rfl⟩;have b8:a+16≤256:=by omega
 have b9:(128:Int)*s+16*i=a:=by omega
 rw[←O];obtain⟨b,l⟩:∃b:Nat→Bool×Fl,b=fun k=>vS sl a k F:=⟨_,rfl⟩
 have P:Hid (b 0=(true,F)):=by show _=_;rw[l];rfl
 have a4:Hid (∀k,(b k).1=true→b (k+1)=(b k).2.prog (a+(k+1)) (sl.getD (k+1) 0)):=fun k p=>by rw[l]at p ⊢;exact Aa sl a k F p
 have Q:Hid (∀k,gU (b k).2):=fun k=>by rw[l];exact Kh sl a k F a2.out
 obtain⟨u,A⟩:∃u,u=F.lay a sl:=⟨_,rfl⟩;rw[←A];have a5:Hid (∀k,k≤15→(b k).1=false→u=b k):=fun k p m=>by rw[l]at m;rw[A,Eb sl a k F p m,l]
 have a6:Hid ((b 15).1=true→u=(b 15).2.prog a 0):=fun m=>by rw[l]at m;rw[A,Kz sl a F m,Z.out,l]
 clear l A O
 go_enter Tryz.func183,Tryz.ntmps183
 go_wp2_with fail
 refine N.out.mono ?_;rintro e R ⟨x,cap,c0,c1,rfl,B,S⟩;have n:jG R x 0 sl:=iS B;have a7:=aI n;have a8:¬x=g:=by
  have m:=(World.ownsRow.lt B x rfl).1;have c2:=a3.out;simp at m;omega
 have T:Hid (Below w.heap.size w R):=(aG _ _).trans (S.mono (by simp));have a9:=aI (World.ownsRow.lt B x rfl).2;clear B S n N;go_wp2_with fail
 go_loopw [11] (fun t wr=>∃k:Nat,k≤15∧t=.int .i64 (k+1:Nat)∧(b k).1=true∧fO wr g (b k).2∧aH (·=g) w wr∧jG wr x 0 sl∧x<wr.heap.size) (fun t _=>16-(intOf t).toNat)
 case atStart=>exact⟨0,by omega,rfl,by rw[P.out],by rw[P.out];exact a1.out.below T.out,aH.ofBelow T.out,a7.out,a9.out⟩
 case round=>
  obtain⟨k,p,rfl,C,D,I,n,J⟩:=hrel;have U:=aI I;have b0:=aI n;have V:=aI J
  by_cases c3:k<15
  ·have c4:wr.cell? ⟨x,k+1,none⟩=some (.int .u8 (sl.getD (k+1) 0)):=by
    have:=n (k+1) (by rw[a0.out];omega)
    rwa [Nat.zero_add]at this
   have c:=aI (nO g (b k).2 (a+(k+1)) (sl.getD (k+1) 0) wr D (Q.out k) (by omega));rw[←a4.out k C]at c;clear C D I n J;generalize sl.getD (k+1) 0=z at *;obtain⟨q,W⟩:∃q,q=a+(k+1):=⟨_,rfl⟩;rw[←W]at c;have c5:(a:Int)+((k:Int)+1)=q:=by omega
   have c6:q<256:=by omega
   clear W;obtain⟨r,L⟩:∃r,r=b (k+1):=⟨_,rfl⟩;rw[←L]at c;obtain⟨X,b1⟩:=r;have E:=aI L;clear L;simp only at c;go_wp2_with fail
   refine c.out.mono ?_;rintro e v ⟨rfl,y,o⟩;have G:=aI y;have H:Hid (aH (·=g) w v):=U.out.andThen o;have Y:Hid (jG v x 0 sl∧x<v.heap.size):=⟨fun b2 b3=>(World.cell?_of_block (o.block x V.out a8)).trans (b0.out b2 b3),Nat.lt_of_lt_of_le V.out o.size⟩;clear y o c;cases X with
   | true=>
    go_wp2
    go_roundw
    case rel=>exact⟨k+1,by omega,by go_num,by rw[←E.out],by rw[←E.out];exact G.out,H.out,Y.out.1,Y.out.2⟩
    case measure=>simp[intOf];omega
   | false=>
    have b4:=aI (a5.out (k+1) (by omega) (by rw[←E.out]));go_wp2
    go_ret
    rw[b4.out,←E.out];exact⟨rfl,G.out,H.out⟩
  ·obtain rfl:k=15:=by omega
   have c:=aI (nO g (b 15).2 a 0 wr D (Q.out 15) (by omega));rw[←a6.out C]at c;clear C D I n J;obtain⟨X,b1⟩:=u;simp only at c;go_wp2_with fail
   refine c.out.mono ?_;rintro e v ⟨rfl,y,o⟩;have G:=aI y;have H:Hid (aH (·=g) w v):=U.out.andThen o;clear y o c;go_wp2
   go_ret
   exact⟨rfl,G.out,H.out⟩
theorem Hl(base:Nat)(v:Value)(l:List (Nat→Int))(w:World)(B:l.length≤100)(g:dM base v l w):
 Calls Tryz.prog 182 #[v] w fun e w'=>e=.returned (.int .i64 (fQ l))∧w'=w:=by
 obtain⟨ad,c,rfl,h⟩:=iE g;have o:=aI h;generalize i:l.length=b at *;have j:=aI i;clear h i g
 go_enter Tryz.func182,Tryz.ntmps182
 go_wp2
 go_loop [3,4] (fun n t=>∃ (k:Nat),k≤b∧t=.int .i64 k∧n=.int .i64 (fQ (l.take k))) (fun _ t=>b-(intOf t).toNat)
 case atStart=>exact⟨0,by omega,rfl,rfl⟩
 case round=>
  obtain⟨k,C,rfl,rfl⟩:=hrel
  by_cases p:k<b
  ·obtain⟨r,d⟩:∃r,l[k]?=some r:=⟨l[k]'(by rw[j.out];exact p),List.getElem?_eq_getElem _⟩;obtain⟨D,q,E,s,u,x,y,z⟩:=o.out k r d;subst q;have a:=aI (sH l k r d);clear d s u x z;generalize fQ (l.take k)=A at a ⊢;generalize r 3=p3 at y a
   by_cases m:A<p3
   ·have f:=aI m;go_wp2
    go_round
    case rel=>exact⟨k+1,by omega,by go_num,by rw[a.out,Int.max_eq_right (by have:=f.out;omega)]⟩
    case measure=>simp[intOf];omega
   ·have f:=aI m;go_wp2
    go_round
    case rel=>exact⟨k+1,by omega,by go_num,by rw[a.out,Int.max_eq_left (by have:=f.out;omega)]⟩
    case measure=>simp[intOf];omega
  ·obtain rfl:k=b:=by omega
   have a:Hid (l.take k=l):=by show _=_;rw[←j.out];exact List.take_length
   rw[a.out];go_wp2
   go_ret
   exact⟨rfl,rfl⟩
theorem xR(g:Nat)(F:Fl)(s i:Nat)(m part code n o:Int)(w:World)(h:fO w g F)(a9:gU F)(c2:s<2)(c3:i<8):
 Calls Tryz.prog 156 #[.agg #[.pointer (some ⟨g,0,none⟩)],.int .i64 s,.int .i64 i,.agg #[.int .i64 m,.int .i64 part,.int .i64 code,.int .i64 n,.int .i64 o]] w fun e w'=>
  e=.returned (.bool (F.lay (128*s+16*i) (dN m part code n o)).1)∧fO w' g (F.lay (128*s+16*i) (dN m part code n o)).2∧aH (·=g) w w':=by
 obtain⟨j,E⟩:∃j,j=(w.alloc (.cells #[.pointer (some ⟨g,0,none⟩)] 107)).alloc (.cells #[.int .i64 m,.int .i64 part,.int .i64 code,.int .i64 n,.int .i64 o] 52):=⟨_,rfl⟩;have b0:Below w.heap.size w j:=by rw[E];exact(aG _ _).alloc (by simp) _
 have b1:j.heap[w.heap.size]?=some (.cells #[.pointer (some ⟨g,0,none⟩)] 107 (0,0)):=by rw[E,Below.heap_alloc _ _ _ (by simp)];exact heap_alloc_new w _
 have D:j.heap[w.heap.size+1]?=some (.cells #[.int .i64 m,.int .i64 part,.int .i64 code,.int .i64 n,.int .i64 o] 52 (0,0)):=by rw[E];exact cG (by simp)
 have c4:j.cell? ⟨w.heap.size+1,0,none⟩=some (.int .i64 m):=aD D;have c5:j.cell? ⟨w.heap.size+1,1,none⟩=some (.int .i64 part):=aD D;have c6:j.cell? ⟨w.heap.size+1,2,none⟩=some (.int .i64 code):=aD D;have c7:j.cell? ⟨w.heap.size+1,3,none⟩=some (.int .i64 n):=aD D;have c8:j.cell? ⟨w.heap.size+1,4,none⟩=some (.int .i64 o):=aD D;have b2:=aI (Rp m part code n o j);have b3:=aI (rP m part code n o);have c9:=aI h;have d0:=aI a9;have b4:=aI h.lt;have Z:=aI b0;have b5:=aI b1;have d1:=aI E;clear h a9 b0 b1 D E;generalize dN m part code n o=sl at *;obtain⟨a,a0⟩:∃a,a=128*s+16*i:=⟨_,rfl⟩;have e6:a+16≤256:=by omega
 have d2:Hid (∀W,Calls Tryz.prog 192 #[.int .i64 s,.int .i64 i] W fun e w'=>e=.returned (.int .i64 (a:Nat))∧w'=W):=fun W=>by
  rw[a0];exact xM s i W c2 c3
 rw[←a0];obtain⟨d,v⟩:∃d:Nat→Bool×Fl,d=fun k=>vS sl a k F:=⟨_,rfl⟩
 have b6:Hid (d 0=(true,F)):=by show _=_;rw[v];rfl
 have d3:Hid (∀k,(d k).1=true→d (k+1)=(d k).2.prog (a+(k+1)) (sl.getD (k+1) 0)):=fun k A=>by rw[v]at A ⊢;exact Aa sl a k F A
 have b7:Hid (∀k,gU (d k).2):=fun k=>by rw[v];exact Kh sl a k F d0.out
 obtain⟨B,I⟩:∃B,B=F.lay a sl:=⟨_,rfl⟩;rw[←I];have d4:Hid (∀k,k≤15→(d k).1=false→B=d k):=fun k A l=>by rw[v]at l;rw[I,Eb sl a k F A l,v]
 have d5:Hid ((d 15).1=true→B=(d 15).2.prog a (sl.getD 0 0)):=fun l=>by rw[v]at l;rw[I,Kz sl a F l,v]
 clear v I a0
 go_enter Tryz.func156,Tryz.ntmps156
 go_wp2_with fail
 rw[←d1.out];go_wp2_with fail
 refine b2.out.mono ?_;rintro e a1 ⟨x,rfl,J,a2⟩;have y:jG a1 x 0 sl:=iS J;have d6:=aI y;have b8:Hid (Below w.heap.size w a1):=Z.out.trans (a2.mono Z.out.size);have d7:Hid (a1.heap[w.heap.size]?=some (.cells #[.pointer (some ⟨g,0,none⟩)] 107 (0,0))):=(a2.block _ (lt_of_block b5.out)).trans b5.out;have a3:¬x=g:=by
  have l:=(World.ownsRow.lt J x rfl).1;have L:=b4.out;have M:=Z.out.size;omega
 have a4:¬w.heap.size=g:=by have:=b4.out;omega
 have d8:=aI (World.ownsRow.lt J x rfl).2;clear J a2 y b2 c4 c5 c6 c7 c8;go_wp2_with (go_at_call 192;refine(d2.out _).mono ?_;rintro e w' ⟨rfl,rfl⟩)
 go_loopw [11] (fun t wr=>∃k c:Nat,k≤15∧c=k+1∧t=.int .i64 c∧(d k).1=true∧fO wr g (d k).2∧aH (·=g) w wr∧(jG wr x 0 sl∧x<wr.heap.size)∧wr.heap[w.heap.size]?=some (.cells #[.pointer (some ⟨g,0,none⟩)] 107 (0,0))) (fun t _=>16-(intOf t).toNat)
 case atStart=>exact⟨0,1,by omega,rfl,rfl,by rw[b6.out],by rw[b6.out];exact c9.out.below b8.out,aH.ofBelow b8.out,⟨d6.out,d8.out⟩,d7.out⟩
 case round=>
  obtain⟨k,c,A,N,rfl,O,P,a5,⟨y,a6⟩,Q⟩:=hrel;have cb:wr.cell? ⟨w.heap.size,0,none⟩=some (.pointer (some ⟨g,0,none⟩)):=aD Q;have b9:=aI a5;have d9:=aI y;have R:=aI a6;have S:=aI Q
  by_cases e7:c<16
  ·have C:wr.cell? ⟨x,c,none⟩=some (.int .u8 (sl.getD c 0)):=by
    have:=y c (by rw[b3.out];omega)
    rwa [Nat.zero_add]at this
   have p:Hid (Calls Tryz.prog 193 #[.pointer (some ⟨g,0,none⟩),.int .i64 ((a+c:Nat):Int),.int .u8 (sl.getD c 0)] wr.drew fun e w'=>e=.returned (.bool (d c).1)∧fO w' g (d c).2∧aH (·=g) wr w'):=by
    rw[N,d3.out k O];refine(nO g (d k).2 (a+(k+1)) (sl.getD (k+1) 0) wr.drew (P.keep rfl) (b7.out k) (by omega)).mono ?_;rintro e w' ⟨l,L,M⟩;exact⟨l,L,(aH.ofDrew wr).andThen M⟩
   clear O P a5 y a6 Q;generalize sl.getD c 0=z at *;obtain⟨q,c0⟩:∃q,q=a+c:=⟨_,rfl⟩;rw[←c0]at p;have e8:(a:Int)+(c:Int)=q:=by omega
   have e9:q<256:=by omega
   have e0:IntKind.i64.wrap (q:Int)=q:=by rw[IntKind.wrap_i64];omega
   clear c0;have T:=aI N;have f0:=aI A;clear N A;obtain⟨r,a7⟩:∃r,r=d c:=⟨_,rfl⟩;rw[←a7]at p;obtain⟨U,a8⟩:=r;have V:=aI a7;clear a7;simp only at p;go_wp2_with fail
   go_cut [31]from 17 to 31 (fun b G=>b=.bool (!U)∧fO G g a8∧aH (·=g) wr G)
   case first=>
    go_region_held (fun W:World=>W.cell? ⟨w.heap.size,0,none⟩=some (.pointer (some ⟨g,0,none⟩))∧W.cell? ⟨x,c,none⟩=some (.int .u8 z))
     ((first| exact⟨cb,C⟩| assumption))
     (first| (go_at_call 193;refine p.out.mono ?_;rintro e H ⟨rfl,u,f⟩;have e1:H.cell? ⟨w.heap.size,0,none⟩=some (.pointer (some ⟨g,0,none⟩))∧H.cell? ⟨x,c,none⟩=some (.int .u8 z):=⟨(World.cell?_of_block (f.block _ (lt_of_block S.out) a4)).trans cb,(World.cell?_of_block (f.block x R.out a3)).trans C⟩))
    all_goals (go_wp2_with fail;go_meet;exact⟨by first| rfl| simp,u,f⟩)
   case rest=>
    obtain⟨rfl,u,f⟩:=hcut;have X:=aI u;have Y:=aI (b9.out.andThen f);have e2:=aI (And.intro (fun(c1:Nat) (e3:c1<sl.length)=>(World.cell?_of_block (f.block x R.out a3)).trans (d9.out c1 e3)) (Nat.lt_of_lt_of_le R.out f.size));have e4:=aI ((f.block _ (lt_of_block S.out) a4).trans S.out);clear u f p cb C;cases U with
    | true=>
     go_wp2
     go_roundw
     case rel=>exact⟨k+1,c+1,by have:=T.out;omega,by rw[T.out],by go_num,by rw[←T.out,←V.out],by rw[←T.out,←V.out];exact X.out,Y.out,e2.out,e4.out⟩
     case measure=>simp[intOf];omega
    | false=>
     have e5:=aI (d4.out c (by omega) (by rw[←V.out]));go_wp2
     go_ret
     rw[e5.out,←V.out];exact⟨rfl,X.out,Y.out⟩
  ·obtain rfl:k=15:=by omega
   obtain rfl:c=16:=by omega
   clear N;have C:wr.cell? ⟨x,0,none⟩=some (.int .u8 (sl.getD 0 0)):=by
    have:=y 0 (by rw[b3.out];omega)
    rwa [Nat.zero_add]at this
   have p:Hid (Calls Tryz.prog 193 #[.pointer (some ⟨g,0,none⟩),.int .i64 (a:Nat),.int .u8 (sl.getD 0 0)] wr.drew fun e w'=>e=.returned (.bool B.1)∧fO w' g B.2∧aH (·=g) wr w'):=by
    rw[d5.out O];refine(nO g (d 15).2 a (sl.getD 0 0) wr.drew (P.keep rfl) (b7.out 15) (by omega)).mono ?_;rintro e w' ⟨l,L,M⟩;exact⟨l,L,(aH.ofDrew wr).andThen M⟩
   clear O P a5 y a6 Q;have e0:IntKind.i64.wrap (a:Int)=a:=by rw[IntKind.wrap_i64];omega
   generalize sl.getD 0 0=z at *;obtain⟨U,a8⟩:=B;simp only at p;go_wp2_with fail
   go_cut [8]from 17 to 39 (fun b G=>b=.bool U∧fO G g a8∧aH (·=g) wr G)
   case first=>
    go_region_held (fun W:World=>W.cell? ⟨w.heap.size,0,none⟩=some (.pointer (some ⟨g,0,none⟩))∧W.cell? ⟨x,0,none⟩=some (.int .u8 z))
     ((first| exact⟨cb,C⟩| assumption))
     (first| (go_at_call 193;refine p.out.mono ?_;rintro e H ⟨rfl,u,f⟩;have e1:H.cell? ⟨w.heap.size,0,none⟩=some (.pointer (some ⟨g,0,none⟩))∧H.cell? ⟨x,0,none⟩=some (.int .u8 z):=⟨(World.cell?_of_block (f.block _ (lt_of_block S.out) a4)).trans cb,(World.cell?_of_block (f.block x R.out a3)).trans C⟩))
    all_goals (go_wp2_with fail;go_meet;exact⟨by first| rfl| simp,u,f⟩)
   case rest=>
    obtain⟨rfl,u,f⟩:=hcut;have X:=aI u;have Y:=aI (b9.out.andThen f);clear u f p cb C;go_wp2
    go_ret
    exact⟨rfl,X.out,Y.out⟩
end Go.Proofs.YtnjlbgolnbdkaaaGreat
