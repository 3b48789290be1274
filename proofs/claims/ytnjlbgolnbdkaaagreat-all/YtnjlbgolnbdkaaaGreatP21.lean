/- All, with short names -/
import Derived.Test.YtnjlbgolnbdkaaaGreatP20
import Derived.Deep.RegionHeld
set_option maxRecDepth 100000
set_option maxHeartbeats 16000000
namespace Go.Proofs.YtnjlbgolnbdkaaaGreat
open Go Go.RowKit
section
open Go.RowKit Go.Shelf
attribute [local go_sem] Oper.semAt_some
def qH(F:Fence):Prop:=F=Fence.wide∨∃l,F=Fence.wide.inRound l
def Te(Q:Exit→Act→World→Prop):Exit→Act→World→Prop
 | .normal,a,w=>Q .normal a w
 | _,_,_=>False
theorem tJ{Q:Exit→Act→World→Prop}{a:Act}{w:World}(h:Q .normal a w):Te Q .normal a w:=h
section
variable {F:Fence} {P:Program} {ops:Array Oper} {Q:Exit→Act→World→Prop} {md:Region.Mode} {S:World→Prop} {n:Nat}
theorem qH.calls(hF:qH F){f:FuncId}{args:Array Value}{w:World}{a:Ending→World→Prop}(h:Calls P f args w a):CallsIn F n P f args w a:=by
 rcases hF with rfl| ⟨l,rfl⟩
 ·exact callsIn_wide.2 h
 ·exact CallsIn.inRound l (callsIn_wide.2 h)
theorem qH.fn(hF:qH F)(f:FuncId):F.fn f:=by
 rcases hF with rfl| ⟨l,rfl⟩
 ·trivial
 ·trivial
theorem qH.depth(hF:qH F):F.depth.isSome=true→False:=by
 rcases hF with rfl| ⟨l,rfl⟩<;>intro e<;>simp[Fence.wide]at e
theorem qH.rows(hF:qH F){row:String}{args:Array Value}{w:World}{a:Value→World→Prop}(h:Rows P row args w a):RowsIn F n P row args w a:=fun c b _=>by
 obtain⟨v,w',r,s⟩:=h c b;refine⟨v,w',r,?_⟩;rcases hF with rfl| ⟨l,rfl⟩
 ·exact stepsIn_wide.2 s
 ·rw[fenced_inRound];exact stepsIn_wide.2 s
theorem zW(hF:qH F){o:Oper}{a:Act}{w:World}{K:Act→World→Prop}(b:∀c,o.op≠.defer c)(h:o.wp P a w K Q):o.wpIn F n P a w K Q:=by
 unfold Oper.wp at h;unfold Oper.wpIn;refine⟨fun _ _=>hF.fn _,?_⟩;rw[Ab o a.eval b];generalize (execOp a.eval o).run P w=r at *;cases r with
 | ok x w'=>
  cases x<;>simp only[Oper.upon]at h<;>simp only[Oper.uponIn]
  case value u=>exact h
  case skip=>exact h
  case defer d=>exact h
  case enter f args=>exact⟨fun e=>(hF.depth e).elim,(hF.calls h).mono fun e i g=>by cases e<;>exact g⟩
  case row row args=>exact⟨fun e=>(hF.depth e).elim,hF.rows h⟩
 | halt x w'=>cases x<;>simp only[Oper.upon]at h<;>simp only[Oper.uponIn]<;>exact h
theorem jC(hF:qH F)(f:∀ (i:Nat) (o:Oper),ops[i]?=some o→∀c,o.op≠.defer c)(g:¬LetsOut Q):∀ (d:Nat) (l:Array Bool) (a:Act) (w:World),
 wpAny P md ops Q d l a w→wpAnyIn F n P md ops Q d l a w
 | 0,_,_,_,h=>h
 | d+1,_,_,_,h=>⟨h.1,fun i m=>by
  have b:=h.2 i m;unfold wpOp at b;unfold wpOpIn;split
  ·rename_i j
   simp only[j]at b;exact jC hF f g d _ _ _ b
  ·rename_i o j
   simp only[j]at b;split
   ·rename_i k
    simp only[k,if_true]at b;rcases b with b| ⟨_,b⟩
    ·exact Oper.wpIn_mono (fun p w' q=>jC hF f g d _ p w' q) (zW hF (f i o j) b)
    ·exact(g b).elim
   ·rename_i k
    simp only[k]at b;exact⟨fun _ _=>hF.fn _,jC hF f g d _ _ _ b⟩⟩
theorem pZ(hF:qH F){id:Nat}{a:Act}{w:World}{l:List Oper}(b:wK l=true)(c:P.follows .mixedOrders=true)(d:S w.drew)
 (h:S w.drew→wpAnyH P .any l.toArray (Te Q) S l.toArray.size (Array.replicate l.toArray.size false) a w.drew):(Code.region id l.toArray true).wpIn F n P Q a w:=by
 have f:=jC (n:=n) hF (oT b) (fun⟨_,_,h⟩=>h) _ _ _ _ (wpAny_of_held _ _ _ _ (h d));refine wpIn_mono (wpIn_region_any c f) (fun e a w h=>?_);cases e<;>first| exact h| exact h.elim
end
instance:Inhabited Wn:=⟨⟨0,0,0⟩⟩
theorem Rq{st:aQ}(k:Nat)(a:k<st.cf.wins.length)(f:Nat)(b:f<3):(st.cf.wins.flatMap eX)[k*3+f]?=(eX (st.cf.wins.getD k default))[f]?:=
 wU eX 3 (fun _=>rfl) st.cf.wins k _ (by rw[List.getD_eq_getElem?_getD,List.getElem?_eq_getElem a];rfl) f b
def sN(s:SF):Bool×SF:=
 match s.1.cf.wins.find? (kR s.1.now s.1.cf.frame)with
 | none=>(true,s)
 | some x=>gA x.part.toNat s
theorem nD(i:Nat)(s:SF):Lk s.1 (gA i s).2.1:=by
 unfold gA;split
 ·exact Lk.refl _
 ·split
  ·exact Lk.refl _
  ·exact tT _ _ _
theorem Pw(a:Nat):upto a a=List.finRange a:=by unfold upto;rw[List.take_of_length_le (by simp)]
theorem Lp{α:Type}[Inhabited α](f:α→Bool)(l:List α)(a:Nat)(d:a=l.length)(h:∀q∈upto a a,f (l.getD q.1 default)=false):l.find? f=none:=by
 rw[List.find?_eq_none];intro x b;obtain⟨k,c,rfl⟩:=List.getElem_of_mem b;have:=h ⟨k,by omega⟩ (by rw[Pw];exact List.mem_finRange _);rw[List.getD_eq_getElem?_getD,List.getElem?_eq_getElem c]at this
 simpa using this
theorem Ns{α:Type}[Inhabited α](f:α→Bool)(l:List α)(a:Nat)(c:a=l.length)(k:Nat)(b:List (Fin a))(x:Fin a)(d:upto a k=b++[x])(h:∀q∈b,f (l.getD q.1 default)=false)(g:f (l.getD x.1 default)=true):l.find? f=some (l.getD x.1 default):=by
 have i:l=(List.finRange a).map (fun q=>l.getD q.1 default):=by
  subst c;exact List.ext_getElem (by simp) (fun k s u=>by simp)
 have j:List.finRange a=b++x::(List.finRange a).drop k:=by
  have:List.finRange a=upto a k++(List.finRange a).drop k:=by
   unfold upto;rw[List.take_append_drop]
  rw[d]at this
  simpa using this
 have m:l.find? f=((b++x::(List.finRange a).drop k).map (fun q=>l.getD q.1 default)).find? f:=by rw[←j,←i]
 rw[m,List.map_append,List.map_cons,List.find?_append];have o:(b.map (fun q=>l.getD q.1 default)).find? f=none:=by
  rw[List.find?_eq_none];intro v p;obtain⟨z,r,rfl⟩:=List.mem_map.1 p;rw[h z r]
  decide
 rw[o];simp only[List.find?_cons,g,Option.none_or]
theorem Ka(a:bN)(g:Nat)(st:aQ)(F:Fl)(w:World)(h:Mo w a g st F)(d3:dY st):
 Calls Tryz.prog 107 #[.pointer (some ⟨a.mb,0,none⟩)] w fun e w'=>e=.returned (.bool (sN (st,F)).1)∧Mo w' a g (sN (st,F)).2.1 (sN (st,F)).2.2∧aH (Dm a g st) w w':=by
 have b3:Tryz.prog.follows .mixedOrders=true:=by kernel_rfl
 obtain⟨r,d4⟩:∃r,r=st.cf.wins.length:=⟨_,rfl⟩;obtain⟨I,f3⟩:∃I,I=st.parts.length:=⟨_,rfl⟩;have d5:=h.ok.good;have l4:r≤1000:=by have:=d5.nwins;omega
 have p1:=d5.frame;have p2:=d3.now;obtain⟨u,f4⟩:∃u,u=st.now % st.cf.frame:=⟨_,rfl⟩;have p3:0≤u∧u<64:=by
  have L:=Int.emod_nonneg st.now (show st.cf.frame≠0 by omega);have O:=Int.emod_lt_of_pos st.now (show 0<st.cf.frame by omega);omega
 have d6:=h.mach.machAt 1;have f5:=h.mach.machAt 3;have f6:=h.mach.machAt 4;have f7:=h.mach.machAt 6;simp only[List.getElem?_toArray,List.getElem?_cons_succ,List.getElem?_cons_zero]at d6 f5 f6 f7;rw[←f3]at f5;rw[←d4]at f6;have i1:=aN d6;refine(callsIn_wide (n:=8)).1 ?_;refine callsIn_of_wp_marks Tryz.func107 rfl trivial ?_ rfl;simp only[Tryz.ntmps107,List.size_toArray,List.length_cons,List.length_nil,Nat.reduceAdd,Nat.reduceSub,Array.replicate_succ,Array.replicate_zero,List.push_toArray,List.append_toArray,List.nil_append,List.cons_append];obtain⟨R,f8⟩:∃R,R=sN (st,F):=⟨_,rfl⟩;rw[←f8];have i2:=Boxed.new w 74 (.pointer (some ⟨a.mb,0,none⟩));have f9:=Boxed.new (w.alloc (.cells #[.pointer (some ⟨a.mb,0,none⟩)] 74)) 4 (.bool false);simp only[World.size_alloc]at f9;obtain⟨B,a8⟩:∃B,B=(w.alloc (.cells #[.pointer (some ⟨a.mb,0,none⟩)] 74)).alloc (.cells #[.bool false] 4):=⟨_,rfl⟩;have b4:Below w.heap.size w B:=by rw[a8];exact(aG _ _).alloc (by simp) _
 have i3:B.heap.size=w.heap.size+1+1:=by rw[a8];simp
 have b5:Boxed B w.heap.size 74 (.pointer (some ⟨a.mb,0,none⟩)):=by rw[a8];exact i2.alloc _
 have g0:Boxed B (w.heap.size+1) 4 (.bool false):=by rw[a8];exact f9
 have l5:=aI a8;have l6:¬st.cf.frame=0:=by omega
 have l7:st.now.tmod st.cf.frame=u:=by rw[f4,Int.tmod_eq_emod_of_nonneg (by omega)]
 have p4:IntKind.i64.wrap u=u:=by rw[IntKind.wrap_i64];omega
 have l8:=aI f4;have i4:B.drew.cell? ⟨w.heap.size,0,none⟩=some (.pointer (some ⟨a.mb,0,none⟩)):=b5.cell;have i5:B.drew.cell? ⟨a.mb,1,none⟩=some (.int .i64 st.cf.frame):=(b4.cell (p:=⟨a.mb,1,none⟩) i1).trans d6;have i6:B.drew.cell? ⟨a.mb,6,none⟩=some (.int .i64 st.now):=(b4.cell (p:=⟨a.mb,6,none⟩) i1).trans f7;obtain⟨s,a3⟩:∃s,s=(B.alloc (.cells #[.int .i64 u] 3)).drew:=⟨_,rfl⟩;have i7:Below w.heap.size w (B.alloc (.cells #[.int .i64 0] 3)):=b4.alloc (by omega) _;have g1:Below w.heap.size w s:=by rw[a3];exact(b4.alloc (by omega) _).drew
 have b6:Mo s a g st F:=h.mono g1;have i8:aH (Dm a g st) w s:=aH.ofBelow g1;have i9:Boxed s (w.heap.size+1+1) 3 (.int .i64 u):=by rw[a3,←i3];exact Boxed.new B 3 _
 have d7:Boxed s w.heap.size 74 (.pointer (some ⟨a.mb,0,none⟩)):=by rw[a3];exact Boxed.alloc (W:=B) b5 _
 have j0:Boxed s (w.heap.size+1) 4 (.bool false):=by rw[a3];exact Boxed.alloc (W:=B) g0 _
 have j1:s.heap.size=w.heap.size+3:=by
  rw[a3];show(B.alloc (.cells #[.int .i64 u] 3)).heap.size=_
  rw[World.size_alloc];omega
 have l9:Hid ((B.alloc (.cells #[.int .i64 0] 3)).cell? ⟨w.heap.size,0,none⟩=some (.pointer (some ⟨a.mb,0,none⟩))∧(B.alloc (.cells #[.int .i64 0] 3)).cell? ⟨a.mb,1,none⟩=some (.int .i64 st.cf.frame)∧(B.alloc (.cells #[.int .i64 0] 3)).cell? ⟨a.mb,6,none⟩=some (.int .i64 st.now)):=by
  have j2:Mo (B.alloc (.cells #[.int .i64 0] 3)) a g st F:=h.mono i7;have b7:=j2.mach.machAt 1;have b8:=j2.mach.machAt 6;simp only[List.getElem?_toArray,List.getElem?_cons_succ,List.getElem?_cons_zero]at b7 b8;exact⟨(Boxed.alloc (W:=B) b5 _).cell,b7,b8⟩
 have m0:Hid (s.cell? ⟨w.heap.size,0,none⟩=some (.pointer (some ⟨a.mb,0,none⟩))∧s.cell? ⟨a.mb,1,none⟩=some (.int .i64 st.cf.frame)∧s.cell? ⟨a.mb,6,none⟩=some (.int .i64 st.now)):=by
  have b7:=b6.mach.machAt 1;have b8:=b6.mach.machAt 6;simp only[List.getElem?_toArray,List.getElem?_cons_succ,List.getElem?_cons_zero]at b7 b8;exact⟨d7.cell,b7,b8⟩
 have m1:=aI a3;have p5:=aI i3;have m2:=aI b6;have m3:=aI i8;have p6:s.cell? ⟨a.mb,4,none⟩=some (.slice (some ⟨a.wb,0,none⟩) r r):=by
  have:=b6.mach.machAt 4;simp only[List.getElem?_toArray,List.getElem?_cons_succ,List.getElem?_cons_zero]at this;rw[←d4]at this;exact this
 have p7:=d7.cell;have m4:=aI d7;have m5:=aI j0;have m6:=aI i9;have p8:=aI (And.intro b5 g0);have g2:=aI d4;have j3:=aI f3;have g3:=aI d5;have m7:=aI j1;clear d4 f3 a8 i2 f9 a3 b6 i8 g1 i7 d7 j0 i9 b5 g0 d5 j1 f4 d6 f5 f6 f7
 gi_wp2_with fail
 rw[←l5.out];refine pZ (.inl rfl) (S:=(fun w':World=>w'.cell? ⟨w.heap.size,0,none⟩=some (.pointer (some ⟨a.mb,0,none⟩))∧w'.cell? ⟨a.mb,1,none⟩=some (.int .i64 st.cf.frame)∧w'.cell? ⟨a.mb,6,none⟩=some (.int .i64 st.now))) (by kernel_rfl) b3 ⟨i4,i5,i6⟩ (fun a4=>?_);refine wpAnyH_take (i:=0) (v:=.pointer (some ⟨a.mb,0,none⟩)) rfl (by kernel_rfl) (by kernel_rfl) (by kernel_rfl) (fun _ _ _ h=>h.elim) (Or.inl ⟨by rfl,fun w j=>by obtain⟨E,G,H⟩:=j;go_simp⟩) (by assumption) ?_
 go_simp
 refine wpAnyH_take (i:=1) (v:=.pointer (some ⟨a.mb,0,none⟩)) rfl (by kernel_rfl) (by kernel_rfl) (by kernel_rfl) (fun _ _ _ h=>h.elim) (Or.inl ⟨by rfl,fun w j=>by obtain⟨E,G,H⟩:=j;go_simp⟩) (by assumption) ?_
 go_simp
 refine wpAnyH_take (i:=2) (v:=.pointer (some ⟨a.mb,6,none⟩)) rfl (by kernel_rfl) (by kernel_rfl) (by kernel_rfl) (fun _ _ _ h=>h.elim) (Or.inl ⟨by rfl,fun w j=>by obtain⟨E,G,H⟩:=j;go_simp⟩) (by assumption) ?_
 go_simp
 refine wpAnyH_take (i:=3) (v:=.int .i64 st.now) rfl (by kernel_rfl) (by kernel_rfl) (by kernel_rfl) (fun _ _ _ h=>h.elim) (Or.inl ⟨by rfl,fun w j=>by obtain⟨E,G,H⟩:=j;go_simp⟩) (by assumption) ?_
 go_simp
 refine wpAnyH_take (i:=4) (v:=.pointer (some ⟨a.mb,0,none⟩)) rfl (by kernel_rfl) (by kernel_rfl) (by kernel_rfl) (fun _ _ _ h=>h.elim) (Or.inl ⟨by rfl,fun w j=>by obtain⟨E,G,H⟩:=j;go_simp⟩) (by assumption) ?_
 go_simp
 refine wpAnyH_take (i:=5) (v:=.pointer (some ⟨a.mb,0,none⟩)) rfl (by kernel_rfl) (by kernel_rfl) (by kernel_rfl) (fun _ _ _ h=>h.elim) (Or.inl ⟨by rfl,fun w j=>by obtain⟨E,G,H⟩:=j;go_simp⟩) (by assumption) ?_
 go_simp
 refine wpAnyH_take (i:=6) (v:=.pointer (some ⟨a.mb,1,none⟩)) rfl (by kernel_rfl) (by kernel_rfl) (by kernel_rfl) (fun _ _ _ h=>h.elim) (Or.inl ⟨by rfl,fun w j=>by obtain⟨E,G,H⟩:=j;go_simp⟩) (by assumption) ?_
 go_simp
 refine wpAnyH_take (i:=7) (v:=.int .i64 st.cf.frame) rfl (by kernel_rfl) (by kernel_rfl) (by kernel_rfl) (fun _ _ _ h=>h.elim) (Or.inl ⟨by rfl,fun w j=>by obtain⟨E,G,H⟩:=j;go_simp⟩) (by assumption) ?_
 go_simp
 refine wpAnyH_take (i:=8) (v:=.int .i64 u) rfl (by kernel_rfl) (by kernel_rfl) (by kernel_rfl) (fun _ _ _ h=>h.elim) (Or.inl ⟨by rfl,fun w j=>by obtain⟨E,G,H⟩:=j;go_simp⟩) (by assumption) ?_
 go_simp
 refine wpAnyH_ready (rs:=[9]) (by kernel_rfl) (by simp) ?_;refine AllReadyH.cons rfl (fun K m=>?_) AllReadyH.nil
 go_simp
 refine m.out _ _ l9.out (fun a4=>?_);refine wpAnyH_ready (rs:=[10]) (by kernel_rfl) (by simp) ?_;refine AllReadyH.cons rfl (fun K m=>?_) AllReadyH.nil
 go_simp
 rw[←m1.out];refine m.out _ _ m0.out (fun a4=>?_);refine wpAnyH_done (by kernel_rfl) ?_ _;refine tJ ?_;clear a4 m K i4 i5 i6 l7 l6
 gi_wp2_with (refine⟨trivial,?_⟩;gi_at_call 148;refine(callsIn_wide.2 (Iu _ _ _)).mono ?_;rintro e p9 ⟨rfl,rfl⟩)
 have d8:=Boxed.new s 128 (.slice (some ⟨a.wb,0,none⟩) r r);have d9:Below s.heap.size s (s.alloc (.cells #[.slice (some ⟨a.wb,0,none⟩) r r] 128)):=aG _ _;have g4:=m4.out.alloc (.cells #[.slice (some ⟨a.wb,0,none⟩) r r] 128);have g5:=m6.out.alloc (.cells #[.slice (some ⟨a.wb,0,none⟩) r r] 128);have g6:=m5.out.alloc (.cells #[.slice (some ⟨a.wb,0,none⟩) r r] 128);have b9:=m2.out.mono d9;have g7:aH (Dm a g st) w (s.alloc (.cells #[.slice (some ⟨a.wb,0,none⟩) r r] 128)):=m3.out.andThen (aH.ofBelow d9);obtain⟨Z,g8⟩:∃Z,Z=s.alloc (.cells #[.slice (some ⟨a.wb,0,none⟩) r r] 128):=⟨_,rfl⟩;have e0:Z.heap.size=s.heap.size+1:=by rw[g8];simp
 rw[←g8]at d8 d9 g4 g5 g6 b9 g7 ⊢;have e1:w.heap.size+3=s.heap.size:=m7.out.symm;have e2:Hid (Z.heap.size=w.heap.size+4):=by show _=_;omega
 have a0:∀b,Dm a g st b→b<w.heap.size:=fun b a5=>h.lt b a5
 obtain⟨d,c0⟩:∃d:Nat→Wn,d=fun q=>st.cf.wins.getD q default:=⟨_,rfl⟩
 have j4:=aI f8;clear g8 f8;refine wpIn_rangeFunc_ownG rfl (by omega) (gf:=186) (lb:=#[.pointer (some ⟨s.heap.size,0,none⟩)]) rfl trivial (enters_of Tryz.func186 (by kernel_rfl) rfl)
  (Db _ _ trivial rfl (by omega) r l4 s.heap.size a.wb Z (by omega) d8) (fun h k=>k.trans h) (fun W l o q0 q1 _ _ _=>World.putObj_heap_other (by omega)) (Below.refl _ _) (fun _=>rfl)
  (fun T W=>(∀q∈T,kR st.now st.cf.frame (d q.1)=false)∧Mo W a g st F∧Boxed W w.heap.size 74 (.pointer (some ⟨a.mb,0,none⟩))∧Boxed W (w.heap.size+1+1) 3 (.int .i64 u)∧Boxed W (w.heap.size+1) 4 (.bool false)∧Boxed W s.heap.size 128 (.slice (some ⟨a.wb,0,none⟩) r r)∧aH (Dm a g st) w W)
  (fun c T W=>(c=.ret∧∃U x,T=U++[x]∧(∀q∈U,kR st.now st.cf.frame (d q.1)=false)∧kR st.now st.cf.frame (d x.1)=true∧Mo W a g (gA (d x.1).part.toNat (st,F)).2.1 (gA (d x.1).part.toNat (st,F)).2.2∧Boxed W (w.heap.size+1) 4 (.bool (gA (d x.1).part.toNat (st,F)).1))∧aH (Dm a g st) w W)
  (OwnFrom.and (ownFrom_pure _ _) (OwnFrom.and (gF (fun _=>st) (fun _=>F) (fun _ b a5=>by have:=a0 b a5;omega)) (OwnFrom.and (Own.from (boxed_own _ _ _) _) (OwnFrom.and (Own.from (boxed_own _ _ _) _) (OwnFrom.and (Own.from (boxed_own _ _ _) _) (OwnFrom.and (Own.from (boxed_own _ _ _) _) (dZ (by omega))))))))
  (fun c=>OwnFrom.and ?ownx (dZ (by omega)))
  ⟨fun q m8=>(List.not_mem_nil m8).elim,b9,g4,g5,g6,d8,g7⟩
  (fun q=>{ tmps:=#[.pointer (some ⟨a.mb,0,none⟩),.pointer (some ⟨w.heap.size,0,none⟩),.pointer (some ⟨w.heap.size+1,0,none⟩),.pointer (some ⟨w.heap.size+1+1,0,none⟩),undef,.pointer (some ⟨a.wb,q.1*3,none⟩),.pointer (some ⟨a.mb,0,none⟩),.pointer (some ⟨a.mb,0,none⟩),.pointer (some ⟨a.mb,6,none⟩),.int .i64 st.now,.pointer (some ⟨a.mb,0,none⟩),.pointer (some ⟨a.mb,0,none⟩),.pointer (some ⟨a.mb,1,none⟩),.int .i64 st.cf.frame,.int .i64 u,.pointer (some ⟨a.mb,0,none⟩),.pointer (some ⟨a.mb,0,none⟩),.pointer (some ⟨a.mb,4,none⟩),.agg #[.slice (some ⟨a.wb,0,none⟩) r r],.func (.func 186) #[] #[.pointer (some ⟨s.heap.size,0,none⟩)],.int .i64 q.1,.pointer (some ⟨a.wb,q.1*3,none⟩),undef,undef,undef,undef,undef,undef,undef,undef,undef,undef,undef,undef,undef,undef,undef,undef,undef,undef,undef,undef,undef,undef,undef,undef,undef,undef,undef,undef,undef,undef],defers:=[] }) ?assign ?body ?done ?stop
 case ownx=>
  rintro T W m9 row ⟨a6,U,x,e3,V,c1,c2,a9⟩ j5 J;refine⟨a6,U,x,e3,V,c1,?_,a9.kept j5 (fun e=>?_)⟩
  ·exact gF (fun _:Unit=>(gA (d x.1).part.toNat (st,F)).2.1) (fun _=>(gA (d x.1).part.toNat (st,F)).2.2) (fun _ b a5=>by have:=a0 b (Dm.like (nD _ (st,F)) a5);omega) () W m9 row c2 j5 J
  ·obtain⟨o,j6,n0⟩:=(J _ e.symm).2;rw[show W.heap[w.heap.size+1]?=_ from a9]at j6;cases j6
   cases n0
 case assign=>
  intro l q W K m;clear e0 e1
  gi_wp2
  exact m
 case body=>
  rintro l T q W ⟨a7,X,c3,c4,J,a6,Y⟩ q2;have j7:q.1<st.cf.wins.length:=by rw[←g2.out];exact q.2
  have n1:=g3.out.wins (d q.1) (by rw[c0];show st.cf.wins.getD q.1 default∈_;rw[List.getD_eq_getElem?_getD,List.getElem?_eq_getElem j7];exact List.getElem_mem _);have j8:kR st.now st.cf.frame (d q.1)=decide ((d q.1).first≤u∧u<(d q.1).first+(d q.1).many):=by rw[l8.out];rfl
  have c5:∀ (z:World) (a1:aQ) (b0:Fl),Mo z a g a1 b0→Lk st a1→∀f,f<3→z.cell? ⟨a.wb,q.1*3+f,none⟩=(eX (d q.1))[f]?:=fun z a1 b0 e4 e5 f n2=>by
   rw[cell_of_row _ _ _ _ _ _ e4.mach.wins,List.getElem?_toArray,e5.cf,Rq q.1 j7 f n2,c0]
  have j9:=c5 W st F X (Lk.refl _) 0 (by omega);have n3:=c5 W st F X (Lk.refl _) 1 (by omega);have n4:=c5 W st F X (Lk.refl _) 2 (by omega);simp only[eX,List.getElem?_cons_succ,List.getElem?_cons_zero,Nat.add_zero]at j9 n3 n4;obtain⟨A,k0⟩:∃A:Nat,A=(d q.1).part.toNat:=⟨_,rfl⟩;have e6:(d q.1).part=(A:Int):=by omega
  have k1:A<st.parts.length:=by have:=h.ok.len;omega
  have n5:g3=g3:=rfl;rw[e6]at j9;have e7:Hid (∀ (z:World) (a1:aQ) (b0:Fl),Mo z a g a1 b0→Lk st a1→Boxed z w.heap.size 74 (.pointer (some ⟨a.mb,0,none⟩))→z.cell? ⟨w.heap.size,0,none⟩=some (.pointer (some ⟨a.mb,0,none⟩))∧z.cell? ⟨a.mb,3,none⟩=some (.slice (some ⟨a.pb,0,none⟩) I I)∧z.cell? ⟨a.wb,q.1*3,none⟩=some (.int .i64 A)):=fun z a1 b0 e4 e5 n6=>by
   refine⟨n6.cell,?_,?_⟩
   ·have:=e4.mach.machAt 3;simp only[List.getElem?_toArray,List.getElem?_cons_succ,List.getElem?_cons_zero]at this;rw[e5.len,←j3.out]at this;exact this
   ·have:=c5 z a1 b0 e4 e5 0 (by omega);simp only[eX,List.getElem?_cons_zero,Nat.add_zero,e6]at this;exact this
  have q3:IntKind.i64.wrap ((d q.1).first+(d q.1).many)=(d q.1).first+(d q.1).many:=by rw[IntKind.wrap_i64];omega
  have q4:=c4.cell;have g9:Hid (∀k,Mo (W.drewN k) a g st F):=fun k=>X.mono ⟨rfl,rfl,rfl,Nat.le_refl _,fun _ _=>rfl⟩
  have k2:Hid (∀k,kR st.now st.cf.frame (d q.1)=false→KeepsFrom Z.heap.size W (W.drewN k)∧(W.drewN k).heap[s.heap.size]?=W.heap[s.heap.size]?∧(∀x∈T++[q],kR st.now st.cf.frame (d x.1)=false)∧Mo (W.drewN k) a g st F∧Boxed (W.drewN k) w.heap.size 74 (.pointer (some ⟨a.mb,0,none⟩))∧Boxed (W.drewN k) (w.heap.size+1+1) 3 (.int .i64 u)∧Boxed (W.drewN k) (w.heap.size+1) 4 (.bool false)∧Boxed (W.drewN k) s.heap.size 128 (.slice (some ⟨a.wb,0,none⟩) r r)∧aH (Dm a g st) w (W.drewN k)):=fun k e=>by
   refine⟨⟨Nat.le_refl _,fun _ _ _ e8 _=>e8⟩,rfl,fun x b1=>?_,g9.out k,c3,c4,J,a6,Y.drewN2 k⟩;rcases List.mem_append.1 b1 with b1| b1
   ·exact a7 x b1
   ·rw[List.mem_singleton.1 b1];exact e
  have n7:Hid (∀z,Mo z a g st F→Calls Tryz.prog 149 #[.pointer (some ⟨a.mb,0,none⟩),.pointer (some ⟨a.pb,A*14,none⟩)] z fun e w'=>e=.returned (.bool (gA A (st,F)).1)∧Mo w' a g (gA A (st,F)).2.1 (gA A (st,F)).2.2∧aH (Dm a g st) z w'):=fun z n8=>Ow a g st F A z n8 d3 k1
  have n9:Hid (∀z,Calls Tryz.prog 73 #[.agg #[.slice (some ⟨a.pb,0,none⟩) I I],.int .i64 A] z fun e w'=>e=.returned (.pointer (some ⟨a.pb,A*14,none⟩))∧Below z.heap.size z w'):=fun z=>rZ a.pb I A z (by rw[j3.out];exact k1)
  have o0:=aI a7;have q5:=aI X;have c6:=aI c3;have o1:=aI J;have q6:=aI a6;have o2:=aI Y;have k3:=aI a0;have q7:=aI h;have q8:=aI d3;have h0:=aI j8;have k4:=aI k0;have q9:=aI e6;clear a7 X c3 J a6 Y b9 a0 e0 e1 g4 g5 g6 d8 g7 b4 d9 h d3 j8 k0 n5 c5 n1 c4 e6 c0
  by_cases L:(d q.1).first≤u
  ·by_cases O:u<(d q.1).first+(d q.1).many
   ·have k5:decide ((d q.1).first≤u)=true:=by simp[L]
    have o3:decide (u<(d q.1).first+(d q.1).many)=true:=by simp[O]
    have c7:Hid (kR st.now st.cf.frame (d q.1)=true):=by show _=_;rw[h0.out];simp[L,O]
    clear L O
    gi_wp2_with fail
    refine fE (by kernel_rfl) b3 (by kernel_rfl) ?_
    repeat (refine wpQuietIn_step (fun _ _ _ _=>trivial) (fun K m=>?_);go_simp;(refine m _ ?_;clear m K))
    refine wpQuietIn_nil ?_;intro _ c8;obtain⟨nq,c9⟩:=c8;subst c9
    gi_wp2_with fail
    refine pZ (.inr ⟨l,rfl⟩) (S:=(fun w':World=>w'.cell? ⟨w.heap.size,0,none⟩=some (.pointer (some ⟨a.mb,0,none⟩))∧w'.cell? ⟨a.mb,3,none⟩=some (.slice (some ⟨a.pb,0,none⟩) I I)∧w'.cell? ⟨a.wb,q.1*3,none⟩=some (.int .i64 A))) (by kernel_rfl) b3 (e7.out (W.drewN nq).drew st F (g9.out (nq+1)) (Lk.refl _) c6.out) (fun a4=>?_);refine wpAnyH_take (i:=0) (v:=.pointer (some ⟨a.mb,0,none⟩)) rfl (by kernel_rfl) (by kernel_rfl) (by kernel_rfl) (fun _ _ _ h=>h.elim) (Or.inl ⟨by rfl,fun w j=>by obtain⟨E,G,H⟩:=j;go_simp⟩) (by assumption) ?_
    go_simp
    refine wpAnyH_take (i:=1) (v:=.pointer (some ⟨a.mb,0,none⟩)) rfl (by kernel_rfl) (by kernel_rfl) (by kernel_rfl) (fun _ _ _ h=>h.elim) (Or.inl ⟨by rfl,fun w j=>by obtain⟨E,G,H⟩:=j;go_simp⟩) (by assumption) ?_
    go_simp
    refine wpAnyH_take (i:=2) (v:=.pointer (some ⟨a.mb,0,none⟩)) rfl (by kernel_rfl) (by kernel_rfl) (by kernel_rfl) (fun _ _ _ h=>h.elim) (Or.inl ⟨by rfl,fun w j=>by obtain⟨E,G,H⟩:=j;go_simp⟩) (by assumption) ?_
    go_simp
    refine wpAnyH_take (i:=3) (v:=.pointer (some ⟨a.mb,3,none⟩)) rfl (by kernel_rfl) (by kernel_rfl) (by kernel_rfl) (fun _ _ _ h=>h.elim) (Or.inl ⟨by rfl,fun w j=>by obtain⟨E,G,H⟩:=j;go_simp⟩) (by assumption) ?_
    go_simp
    refine wpAnyH_take (i:=4) (v:=.agg #[.slice (some ⟨a.pb,0,none⟩) I I]) rfl (by kernel_rfl) (by kernel_rfl) (by kernel_rfl) (fun _ _ _ h=>h.elim) (Or.inl ⟨by rfl,fun w j=>by obtain⟨E,G,H⟩:=j;go_simp⟩) (by assumption) ?_
    go_simp
    refine wpAnyH_take (i:=5) (v:=.pointer (some ⟨a.wb,q.1*3,none⟩)) rfl (by kernel_rfl) (by kernel_rfl) (by kernel_rfl) (fun _ _ _ h=>h.elim) (Or.inl ⟨by rfl,fun w j=>by obtain⟨E,G,H⟩:=j;go_simp⟩) (by assumption) ?_
    go_simp
    refine wpAnyH_take (i:=6) (v:=.pointer (some ⟨a.wb,q.1*3,none⟩)) rfl (by kernel_rfl) (by kernel_rfl) (by kernel_rfl) (fun _ _ _ h=>h.elim) (Or.inl ⟨by rfl,fun w j=>by obtain⟨E,G,H⟩:=j;go_simp⟩) (by assumption) ?_
    go_simp
    refine wpAnyH_take (i:=7) (v:=.pointer (some ⟨a.wb,q.1*3,none⟩)) rfl (by kernel_rfl) (by kernel_rfl) (by kernel_rfl) (fun _ _ _ h=>h.elim) (Or.inl ⟨by rfl,fun w j=>by obtain⟨E,G,H⟩:=j;go_simp⟩) (by assumption) ?_
    go_simp
    refine wpAnyH_take (i:=8) (v:=.int .i64 A) rfl (by kernel_rfl) (by kernel_rfl) (by kernel_rfl) (fun _ _ _ h=>h.elim) (Or.inl ⟨by rfl,fun w j=>by obtain⟨E,G,H⟩:=j;go_simp⟩) (by assumption) ?_
    go_simp
    refine wpAnyH_ready (rs:=[9]) (by kernel_rfl) (by simp) ?_;refine AllReadyH.cons rfl (fun K m=>?_) AllReadyH.nil
    go_simp
    refine(n9.out _).mono ?_;rintro e e9 ⟨rfl,f0⟩;have b2:Mo e9 a g st F:=(g9.out (nq+1)).mono f0;have k6:Boxed e9 w.heap.size 74 (.pointer (some ⟨a.mb,0,none⟩)):=(f0.block _ c6.out.lt).trans c6.out;refine m.out _ _ (e7.out e9 st F b2 (Lk.refl _) k6) (fun a4=>?_);clear m K;refine wpAnyH_ready (rs:=[10]) (by kernel_rfl) (by simp) ?_;refine AllReadyH.cons rfl (fun K m=>?_) AllReadyH.nil
    go_simp
    refine(n7.out e9 b2).mono ?_;rintro e C ⟨rfl,h1,k7⟩;have f1:aH (Dm a g st) W C:=(aH.ofDrewN W (nq+1)).andThen ((aH.ofBelow f0).andThen k7);have f2:∀ {x:Nat} {t:TypeId} {v:Value},w.heap.size≤x→Boxed W x t v→Boxed C x t v:=fun b1 k8=>(f1.block _ k8.lt (fun d0=>by have:=k3.out _ d0;omega)).trans k8
    have h2:=nD A (st,F);refine m.out _ _ (e7.out C _ _ h1 h2 (f2 (Nat.le_refl _) c6.out)) (fun a4=>?_);clear m K;have d1:Boxed C (w.heap.size+1) 4 (.bool false):=f2 (by omega) o1.out;have o4:=d1.cell;have o5:=d1.frozen;have a2:Hid (∀D,D=(gA A (st,F)).1→KeepsFrom Z.heap.size W (C.setCell ⟨w.heap.size+1,0,none⟩ (.bool D))∧(∃U x,T++[q]=U++[x]∧(∀y∈U,kR st.now st.cf.frame (d y.1)=false)∧kR st.now st.cf.frame (d x.1)=true∧Mo (C.setCell ⟨w.heap.size+1,0,none⟩ (.bool D)) a g (gA (d x.1).part.toNat (st,F)).2.1 (gA (d x.1).part.toNat (st,F)).2.2∧Boxed (C.setCell ⟨w.heap.size+1,0,none⟩ (.bool D)) (w.heap.size+1) 4 (.bool (gA (d x.1).part.toNat (st,F)).1))∧aH (Dm a g st) w (C.setCell ⟨w.heap.size+1,0,none⟩ (.bool D))∧Mo (C.setCell ⟨w.heap.size+1,0,none⟩ (.bool D)) a g (gA A (st,F)).2.1 (gA A (st,F)).2.2):=fun D h3=>by
     have M:aH (·=w.heap.size+1) C (C.setCell ⟨w.heap.size+1,0,none⟩ (.bool D)):=aH.ofSet C _ _ _ rfl;have h4:KeepsFrom Z.heap.size W C:=eY f1 (fun b a5=>by have:=k3.out b a5;have:=e2.out;omega);have k9:=h1.box d1 (by decide) M;refine⟨⟨Nat.le_trans h4.size M.size,fun x o e8 L O=>(M.block x (aR (h4.same x o e8 L O)) (by intro e;have V:x=w.heap.size+1:=e;have:=e2.out;omega)).trans (h4.same x o e8 L O)⟩,⟨T,q,rfl,o0.out,c7.out,?_,?_⟩,(o2.out.andThen f1).trans M (fun i e=>.inr (by have V:i=w.heap.size+1:=e;omega)),k9⟩
     ·rw[←k4.out];exact k9
     ·rw[←k4.out,←h3];exact d1.set _
    have l0:∀D,Boxed (C.setCell ⟨w.heap.size+1,0,none⟩ (.bool D)) w.heap.size 74 (.pointer (some ⟨a.mb,0,none⟩)):=fun D=>by
     have M:aH (·=w.heap.size+1) C (C.setCell ⟨w.heap.size+1,0,none⟩ (.bool D)):=aH.ofSet C _ _ _ rfl;have l1:=f2 (Nat.le_refl _) c6.out;exact(M.block _ l1.lt (by intro e;have V:w.heap.size=w.heap.size+1:=e;omega)).trans l1
    have o6:Hid (∀D,D=(gA A (st,F)).1→(C.setCell ⟨w.heap.size+1,0,none⟩ (.bool D)).cell? ⟨w.heap.size,0,none⟩=some (.pointer (some ⟨a.mb,0,none⟩))∧(C.setCell ⟨w.heap.size+1,0,none⟩ (.bool D)).cell? ⟨a.mb,3,none⟩=some (.slice (some ⟨a.pb,0,none⟩) I I)∧(C.setCell ⟨w.heap.size+1,0,none⟩ (.bool D)).cell? ⟨a.wb,q.1*3,none⟩=some (.int .i64 A)):=fun D h3=>e7.out _ _ _ (a2.out D h3).2.2.2 h2 (l0 D)
    clear h1 k7 f1 f2 d1 h2 l0 b2 k6 f0;generalize (gA A (st,F)).1=l2 at *;refine wpAnyH_ready (rs:=[11]) (by kernel_rfl) (by simp) ?_;refine AllReadyH.cons rfl (fun K m=>?_) AllReadyH.nil
    go_simp
    refine m.out _ _ (o6.out l2 rfl) (fun a4=>?_);clear m K;refine wpAnyH_done (by kernel_rfl) ?_ _;refine tJ ?_
    gi_wp2
    have h5:=a2.out l2 rfl;exact⟨h5.1,⟨rfl,h5.2.1⟩,h5.2.2.1⟩
   ·have k5:decide ((d q.1).first≤u)=true:=by simp[L]
    have o3:decide (u<(d q.1).first+(d q.1).many)=false:=by simp;omega
    have c7:Hid (kR st.now st.cf.frame (d q.1)=false):=by show _=_;rw[h0.out];simp[O]
    clear L O
    gi_wp2_with fail
    refine fE (by kernel_rfl) b3 (by kernel_rfl) ?_
    repeat (refine wpQuietIn_step (fun _ _ _ _=>trivial) (fun K m=>?_);go_simp;(refine m _ ?_;clear m K))
    refine wpQuietIn_nil ?_;intro _ c8;obtain⟨nq,c9⟩:=c8;subst c9
    gi_wp2
    exact k2.out _ c7.out
  ·have k5:decide ((d q.1).first≤u)=false:=by simp;omega
   have c7:Hid (kR st.now st.cf.frame (d q.1)=false):=by show _=_;rw[h0.out];simp[L]
   clear L
   gi_wp2_with fail
   refine fE (by kernel_rfl) b3 (by kernel_rfl) ?_
   repeat (refine wpQuietIn_step (fun _ _ _ _=>trivial) (fun K m=>?_);go_simp;(refine m _ ?_;clear m K))
   refine wpQuietIn_nil ?_;intro _ c8;obtain⟨nq,c9⟩:=c8;subst c9
   gi_wp2
   exact k2.out _ c7.out
 case done=>
  rintro N r0 W o7 rfl ⟨a7,X,c3,c4,J,a6,Y⟩ m;have o8:Hid (R=(true,st,F)):=by
   show _=_
   rw[j4.out];unfold sN;rw[Lp (kR st.now st.cf.frame) st.cf.wins r g2.out (by rw[c0]at a7;exact a7)]
  have o4:=J.cell;have o5:=J.frozen;have h6:=e2.out;have M:aH (·=w.heap.size+1) W (W.setCell ⟨w.heap.size+1,0,none⟩ (.bool true)):=aH.ofSet W _ _ _ rfl;have h7:(W.setCell ⟨w.heap.size+1,0,none⟩ (.bool true)).heap[N]?=some (.deferred (some [])):=(M.block N (aR m) (by omega)).trans m;have b2:=X.box J (by decide) M;have a2:Hid (Mo ((W.setCell ⟨w.heap.size+1,0,none⟩ (.bool true)).putObj N (.deferred none)) a g st F∧aH (Dm a g st) w ((W.setCell ⟨w.heap.size+1,0,none⟩ (.bool true)).putObj N (.deferred none))):=
   ⟨b2.put h7 rfl (fun d0=>by have:=a0 N d0;omega) _,(Y.trans M (fun i e=>.inr (by have V:i=w.heap.size+1:=e;omega))).put (by omega) _⟩
  have d2:((W.setCell ⟨w.heap.size+1,0,none⟩ (.bool true)).putObj N (.deferred none)).cell? ⟨w.heap.size+1,0,none⟩=some (.bool true):=by
   rw[World.cell?_of_block (World.putObj_heap_other (by dsimp only;omega))];exact(J.set (.bool true)).cell
  have h8:=aI h7;have h9:=aI d2;clear a7 X c3 c4 J a6 Y m h7 b2 M d2 b9 a0 h e0 e1 h6
  gi_wp2
  refine⟨by simp,.inl ⟨_,_,rfl,run_takeDeferred h8.out,?_⟩⟩;rw[o8.out];exact⟨.bool true,by simp[results,Tryz.results107,go_sem,h9.out],rfl,a2.out.1,a2.out.2⟩
 case stop=>
  rintro N c T W o7 ⟨k,r1,o9⟩ ⟨⟨rfl,U,x,e3,V,c1,c2,a9⟩,Y⟩ m;have i0:R=gA (d x.1).part.toNat (st,F):=by
   rw[j4.out];unfold sN;rw[c0]at V c1 ⊢;rw[Ns (kR st.now st.cf.frame) st.cf.wins r g2.out k U x (by rw[←o9];exact e3) V c1]
  rw[←i0]at c2 a9;have l3:Lk st R.2.1:=by rw[i0];exact nD _ (st,F)
  have h6:=e2.out;have a2:Hid (Mo (W.putObj N (.deferred none)) a g R.2.1 R.2.2∧aH (Dm a g st) w (W.putObj N (.deferred none))):=
   ⟨c2.put m rfl (fun d0=>by have:=a0 N (Dm.like l3 d0);omega) _,Y.put (by omega) _⟩
  have d2:(W.putObj N (.deferred none)).cell? ⟨w.heap.size+1,0,none⟩=some (.bool R.1):=by
   rw[World.cell?_of_block (World.putObj_heap_other (by dsimp only;omega))];exact a9.cell
  have h8:=aI m;have h9:=aI d2;clear e3 V c1 c2 a9 Y m d2 b9 a0 h e0 e1 h6 i0 l3
  gi_wp2
  refine⟨by simp,.inl ⟨_,_,rfl,run_takeDeferred h8.out,?_⟩⟩;exact⟨.bool R.1,by simp[results,Tryz.results107,go_sem,h9.out],rfl,a2.out.1,a2.out.2⟩
end
section
open Go.RowKit
section
variable {st:aQ} {i n:Nat}
theorem aQ.proc_set(a:i<st.parts.length)(b:n<(st.part i).procs.length)(x:cQ):(st.setProc i n x).proc i n=x:=by
 unfold aQ.proc aQ.setProc;rw[aQ.part_set a];simp[List.getD_eq_getElem?_getD,b]
theorem aQ.part_setProc(a:i<st.parts.length)(x:cQ):(st.setProc i n x).part i={ st.part i with procs:=(st.part i).procs.set n x }:=by
 unfold aQ.setProc;rw[aQ.part_set a]
theorem aQ.setProc_set(b:i<st.parts.length)(x a:cQ):(st.setProc i n x).setProc i n a=st.setProc i n a:=by
 show(st.setProc i n x).setPart i { (st.setProc i n x).part i with procs:=((st.setProc i n x).part i).procs.set n a }=_
 rw[aQ.part_setProc b];simp only[List.set_set];exact aQ.setPart_set _ _ _ _
theorem eA.queues(a:eA st)(q:List (List Int))(b:q.length=st.queues.length):eA { st with queues:=q }:=⟨a.good,a.len,a.part,b.trans a.qlen⟩
theorem eA.setProc(a:eA st)(x:cQ):eA (st.setProc i n x):=a.setPart i _ rfl (by simp)
end
def Bi(F:Fl)(r:Int×aQ):Prop:=cS (r.2,F)
theorem Sv(F:Fl)(i n:Nat)(op:Int)(a:Nat)(rc:Int)(st:aQ)(h:cS (st,F))(f:i<st.parts.length)(q:n<(st.part i).procs.length)(O:a≤255)(G:op=4→a<(st.codeOf i n).length):Bi F (mO F.bs i n op a rc st):=by
 have d:dY st:=h.1;have j:eA st:=h.2;have b:=d.proc i n f q;have P:=j.codeLen i n f q;have Q:=d.now;have m:∀ (c:Int) (x:cQ),qS (st.codeOf i n).length st.now x→Bi F (c,st.setProc i n x):=fun _ x b=>⟨d.setProc i n x f b,j.setProc x⟩
 have g:∀ (c:Int),Bi F (c,st):=fun _=>⟨d,j⟩
 have o:∀ (c:Int) (v:Int),Bi F (c,st.setProc i n { st.proc i n with acc:=v }):=fun c v=>m c _ ⟨b.next,b.til,b.dl⟩
 have H:∀ (c:Int) (v:Int),Bi F (c,st.setPart i { st.part i with words:=(st.part i).words.set a v }):=fun c v=>⟨d.setPart i _ f (d.watch i f) (fun k I=>d.proc i k f I),j.setPart i _ (by simp) rfl⟩
 unfold mO fH mQ mR
 by_cases r:op=1
 ·rw[if_pos r];exact o _ _
 rw[if_neg r]
 by_cases c1:op=2∨op=3∨op=12
 ·rw[if_pos c1]
  repeat' (first| exact o _ _| exact H _ _| exact g _| apply kJ)
 rw[if_neg c1]
 by_cases c2:op=4
 ·rw[if_pos c2];have J:=c2;show Bi F (-1,if _ then _ else _)
  split
  ·refine m _ _ ⟨⟨Int.natCast_nonneg a,by show(a:Int)≤1000;omega,.inr (by show(a:Int)<_;have:=G J;omega)⟩,b.til,b.dl⟩
  ·exact g _
 rw[if_neg c2]
 by_cases s:op=5
 ·rw[if_pos s];exact m _ _ ⟨b.next,⟨by show(0:Int)≤st.now+a;omega,by show st.now+(a:Int)≤st.now+255;omega⟩,b.dl⟩
 rw[if_neg s]
 by_cases u:op=6
 ·rw[if_pos u];split
  ·refine⟨⟨d.now,d.watch,d.proc,fun l L=>?_⟩,j.queues _ ?_⟩
   ·have:=d.queue l L;show(((if _ then _ else _:List (List Int)).getD l []).length:Int)≤(st.cf.chans.getD l default).depth
    split
    ·rename_i R
     by_cases e:a=l
     ·subst e
      by_cases M:a<st.queues.length
      ·have p:(st.queues.set a (st.queues.getD a []++[(st.proc i n).acc])).getD a []=st.queues.getD a []++[(st.proc i n).acc]:=by
        rw[List.getD_eq_getElem?_getD,List.getElem?_set_self M];rfl
       rw[p,List.length_append];simp only[List.length_cons,List.length_nil];omega
      ·rw[List.set_eq_of_length_le (by omega)];exact this
     ·have p:(st.queues.set a (st.queues.getD a []++[(st.proc i n).acc])).getD l []=st.queues.getD l []:=by
       rw[List.getD_eq_getElem?_getD,List.getElem?_set_ne e,←List.getD_eq_getElem?_getD]
      rw[p];exact this
    ·exact this
   ·show(if _ then _ else _:List (List Int)).length=_
    split<;>simp
  ·exact g _
 rw[if_neg u]
 by_cases y:op=7
 ·rw[if_pos y]
  repeat' (first| exact o _ _| exact g _| apply kJ)
 rw[if_neg y]
 by_cases A:op=8
 ·rw[if_pos A];exact g _
 rw[if_neg A]
 by_cases B:op=9
 ·rw[if_pos B];exact⟨d.watched i f,j.setPart i _ rfl rfl⟩
 rw[if_neg B]
 by_cases C:op=10
 ·rw[if_pos C];exact m _ _ ⟨⟨b.next.1,b.next.2.1,.inl rfl⟩,b.til,b.dl⟩
 rw[if_neg C]
 by_cases D:op=11
 ·rw[if_pos D];refine m _ _ ⟨b.next,b.til,?_⟩;have N:∀z:Int,z=-1∨(1≤z∧z≤st.now+255)→-1≤z∧z≤st.now+255∧z≠0:=fun z S=>⟨by omega,by omega,by omega⟩
  refine N (if a=0 then -1 else st.now+a) ?_
  by_cases e:a=0
  ·rw[if_pos e];exact .inl rfl
  ·rw[if_neg e];exact .inr ⟨by omega,by omega⟩
 rw[if_neg D]
 by_cases E:op=13
 ·rw[if_pos E]
  repeat' (first| exact o _ _| exact g _| apply kJ)
 rw[if_neg E];exact g _
theorem Oi(F:Fl)(i n:Nat)(rc:Int)(st:aQ)(h:cS (st,F))(a:i<st.parts.length)(c:n<(st.part i).procs.length)(m:(st.proc i n).stopped=false):cS (oG i n rc (st,F)).2:=by
 have o:dY st:=h.1;have k:eA st:=h.2;have d:=o.proc i n a c;have r:(st.proc i n).next<(st.codeOf i n).length:=by
  rcases d.next.2.2 with b| b
  ·rw[m]at b;cases b
  ·exact b
 have s:=k.codeLen i n a c;have f:=sT k i n (st.proc i n).next.toNat a c (by have:=d.next.1;omega);have b:cS (st.setProc i n (st.follow i n ((st.proc i n).next+1)),F):=by
  refine⟨h.1.setProc i n _ a ⟨⟨?_,?_,?_⟩,d.til,d.dl⟩,h.2.setProc _⟩
  ·show 0≤(st.proc i n).next+1
   have:=d.next.1;omega
  ·show(st.proc i n).next+1≤1000
   omega
  ·show decide (((st.codeOf i n).length:Int)≤(st.proc i n).next+1)=true∨(st.proc i n).next+1<(st.codeOf i n).length
   by_cases e:((st.codeOf i n).length:Int)≤(st.proc i n).next+1
   ·exact .inl (by simpa using e)
   ·exact .inr (by omega)
 have g:=eK st i n (st.follow i n ((st.proc i n).next+1));have j:cS ((pU i n rc (st,F)).2,F):=by
  refine Sv F i n _ _ rc _ b (by rw[g.2.1];exact a) (by rw[g.2.2];exact c) ?_ ?_
  ·show(dE st i n).2.toNat≤255
   have:=f.2.1;unfold dE;omega
  ·intro p;have q:(st.setProc i n (st.follow i n ((st.proc i n).next+1))).codeOf i n=st.codeOf i n:=by unfold aQ.codeOf aQ.cpart;rw[g.1]
   rw[q];have u:=f.2.2 p;have:=f.2.1.1;show(dE st i n).2.toNat<_
   unfold dE;omega
 have l:Lk st (pU i n rc (st,F)).2:=(Lk.setProc _ _ _ _).trans (zD _ _ _ _ _ _ _);unfold oG;split
 ·exact j
 ·exact j.fault i n _ (by rw[l.len];exact a) (by rw[l.procs h.2 j.2 i a];exact c)
theorem Sl(i n:Nat)(st:aQ)(h:eA st):eA (dI i n st).2:=by
 unfold dI;split
 ·split
  ·exact h
  ·exact h.queues _ (by simp)
 ·exact h
theorem Ai(F:Fl)(i:Nat)(st:aQ)(h:cS (st,F))(b:i<st.parts.length):cS (gA i (st,F)).2:=by
 unfold gA;split
 ·exact h
 ·split
  ·exact h
  ·rename_i q c
   have g:=List.mem_of_find?_eq_some c;have j:=List.find?_some c;have k:=(Gb st h.2 i q b (by simpa using g)).1;have l:(st.proc i (bK st i q)).stopped=false:=by
    have a:dS i (bK st i q) st=true:=j;unfold dS at a;simp only[Bool.and_eq_true,Bool.not_eq_true']at a;exact a.1.1
   have d:=sA i (bK st i q) st;have f:(dI i (bK st i q) st).2.part i=st.part i:=by unfold aQ.part;rw[d]
   have m:(dI i (bK st i q) st).2.proc i (bK st i q)=st.proc i (bK st i q):=by unfold aQ.proc;rw[f]
   exact Oi F i _ _ _ ⟨Fs i _ st h.1,Sl i _ st h.2⟩ (by rw[d];exact b) (by rw[f];exact k) (by rw[m];exact l)
theorem Qp(F:Fl)(st:aQ)(h:cS (st,F)):cS (sN (st,F)).2:=by
 unfold sN;split
 ·exact h
 ·rename_i x b
  have a:eA st:=h.2;have:=a.good.wins x (List.mem_of_find?_eq_some b);have c:=a.len;exact Ai F _ st h (by omega)
theorem oL(s:SF)(h:cS s):cS (kV s).2:=by
 unfold kV;rw[←gG dF s.1.parts.length s _ (Nat.le_refl _)];exact cS.loopL dF Lk.lates (fun k s a b=>a.lates k b) s rfl _ _ h (Lk.refl _)
theorem mD(s:SF)(h:cS s):cS (dW s).2:=by
 unfold dW;split
 ·exact h
 ·rw[←gG cF s.1.parts.length s _ (Nat.le_refl _)];exact cS.loopL cF Lk.watch (fun k s a b=>a.watch k b) s rfl _ _ h (Lk.refl _)
def rL(s:SF):Bool×SF:=eL (eL (kV s) dW) sN
theorem sW(r:Bool×SF)(f:SF→Bool×SF)(h:cS r.2)(a:∀s,cS s→cS (f s).2):cS (eL r f).2:=jO cS h a
theorem Ly(s:SF)(h:cS s):cS (rL s).2:=sW _ _ (sW _ _ (oL s h) mD) (fun s h=>Qp s.2 s.1 h)
theorem cS.later{s:SF}(h:cS s)(a:s.1.now+1≤1000000000000):cS ({ s.1 with now:=s.1.now+1 },s.2):=by
 refine⟨⟨⟨by have:=h.1.now;show 0≤s.1.now+1;omega,a⟩,fun i b=>?_,fun i n b a=>?_,h.1.queue⟩,⟨h.2.good,h.2.len,h.2.part,h.2.qlen⟩⟩
 ·have:=h.1.watch i b;exact⟨this.1,by show _≤s.1.now+1;have:=this.2;show(s.1.part i).watch≤_;omega⟩
 ·have:=h.1.proc i n b a;refine⟨this.next,⟨this.til.1,?_⟩,this.dl.1,?_,this.dl.2.2⟩
  ·have:=this.til.2;show(s.1.proc i n).til≤s.1.now+1+255
   omega
  ·have:=this.dl.2.1;show(s.1.proc i n).dl≤s.1.now+1+255
   omega
end
section
open Go.RowKit Go.Shelf
theorem yH(s:SF):Lk s.1 (kV s).2.1:=Lk.loopB dF Lk.lates _ s
theorem rK(s:SF):Lk s.1 (dW s).2.1:=by
 unfold dW;split
 ·exact Lk.refl _
 ·exact Lk.loopB cF Lk.watch _ s
theorem Nc(s:SF):Lk s.1 (sN s).2.1:=by
 unfold sN;split
 ·exact Lk.refl _
 ·exact nD _ s
theorem Nx(c:bN)(g:Nat)(st:aQ)(F:Fl)(w:World)(h:Mo w c g st F)(n:dY st):
 Calls Tryz.prog 71 #[.pointer (some ⟨c.mb,0,none⟩)] w fun e w'=>e=.returned (.bool (rL (st,F)).1)∧Mo w' c g (rL (st,F)).2.1 (rL (st,F)).2.2∧aH (Dm c g st) w w':=by
 have v:=aI (zM c g st F w h n);have o:=aI (oL (st,F) ⟨n,h.ok⟩);have p:=aI (yH (st,F));have a:Hid (rL (st,F)=eL (eL (kV (st,F)) dW) sN):=rfl;obtain⟨x,y⟩:∃x,x=rL (st,F):=⟨_,rfl⟩;rw[←y]at a ⊢;clear y h n;obtain⟨r1,z⟩:∃r1,r1=kV (st,F):=⟨_,rfl⟩;rw[←z]at v o p a;clear z;obtain⟨O,f,i⟩:=r1;simp only at *
 go_enter Tryz.func71,Tryz.ntmps71
 go_wp2_with fail
 refine v.out.mono ?_;rintro e P ⟨rfl,j,k⟩;cases O with
 | false=>
  have d:=aI (And.intro j k);clear j k;rw[vY,vY]at a;go_wp2
  go_ret
  rw[a.out];exact⟨rfl,d.out.1,d.out.2⟩
 | true=>
  have A:=aI (Eu c g f i P j o.out.1);have B:=aI (mD (f,i) o.out);have C:=aI (rK (f,i));rw[kQ]at a;obtain⟨q,D⟩:∃q,q=dW (f,i):=⟨_,rfl⟩;rw[←D]at A B C a;have Q:=aI k;clear D j k;obtain⟨R,E,G⟩:=q;simp only at *;go_wp2_with fail
  refine A.out.mono ?_;rintro e H ⟨rfl,l,r⟩;have m:aH (Dm c g st) w H:=Q.out.andThen (r.to (fun b s=>Dm.like p.out s));cases R with
  | false=>
   have d:=aI (And.intro l m);clear l r m;rw[vY]at a;go_wp2
   go_ret
   rw[a.out];exact⟨rfl,d.out.1,d.out.2⟩
  | true=>
   have I:=aI (Ka c g E G H l B.out.1);rw[kQ]at a;obtain⟨u,J⟩:∃u,u=sN (E,G):=⟨_,rfl⟩;rw[←J]at I a;have S:=aI m;clear J l r m;obtain⟨U,V,W⟩:=u;simp only at *;go_wp2_with fail
   refine I.out.mono ?_;rintro e T ⟨rfl,L,M⟩;have N:aH (Dm c g st) w T:=S.out.andThen (M.to (fun b s=>Dm.like (p.out.trans C.out) s));have d:=aI (And.intro L N);clear L M N;go_wp2
   go_ret
   rw[a.out];exact⟨rfl,d.out.1,d.out.2⟩
end
end Go.Proofs.YtnjlbgolnbdkaaaGreat
