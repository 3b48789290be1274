/- All, with short names -/
import Derived.Test.YtnjlbgolnbdkaaaGreatP07
import Derived.RangeFuncBox
import Derived.RangeFuncLeaves
import Derived.RangeFuncFrom
import Derived.Shelf.Abstract
import Derived.WalkKit
import Derived.OwnWalkIn
import Derived.TacticsInMore
import Derived.LoopNIn
import Derived.LoopIn
import Derived.Test.YtnjlbgolnbdkaaaGreatP04
import Derived.RangeFuncNested
import Derived.RangeFuncWrites
import Derived.RangeFuncCalls
import Derived.Stop.RegionWithIn
set_option maxRecDepth 100000
set_option maxHeartbeats 16000000
namespace Go.Proofs.YtnjlbgolnbdkaaaGreat
open Go Go.RowKit
section
open Go.RowKit Go.Shelf
attribute [local go_sem] Oper.semAt_some
def upto(a k:Nat):List (Fin a):=(List.finRange a).take k
theorem eW(a k:Nat)(h:k<a):upto a (k+1)=upto a k++[⟨k,h⟩]:=by
 unfold upto;rw[List.take_add_one,List.getElem?_eq_getElem (by simp;exact h)];simp
theorem jX(a k:Nat)(h:k≤a):(upto a k).length=k:=by simp[upto];omega
theorem By(F:Fence)(n:Nat)(o:F.fn 199)(p:F.round=none)(C:1≤n)(l B x:Nat)(c f:List (Fin 8)→World→Prop)
 (q:∀a (i:Fin 8) W,c a W→a.length<8→YieldAt F (n-1) Tryz.prog l #[.int .i64 (i.1:Int),.pointer (some ⟨x,i.1*6,none⟩)] W fun e b=>
  (e=.returned (.bool true)∧c (a++[i]) b∧b.heap[B]?=W.heap[B]?)∨(e=.returned (.bool false)∧f (a++[i]) b))
 (W:World) (g:W.heap[B]?=some (.cells #[.slice (some ⟨x,0,none⟩) 8 8] 181 (0,0))) (r:c [] W):
 CallsIn F n Tryz.prog 199 #[.func (.yield l) #[] #[],.pointer (some ⟨B,0,none⟩)] W fun e b=>(∃v,e=.returned v)∧
  ((∃h,h=upto 8 8∧c h b)∨(∃a,(∃k,k≤8∧a=upto 8 k)∧f a b)):=by
 have D:W.cell? ⟨B,0,none⟩=some (.slice (some ⟨x,0,none⟩) 8 8):=aD g;refine callsIn_of_wp Tryz.func199 rfl o ?_ p;simp only[Tryz.ntmps199,List.size_toArray,List.length_cons,List.length_nil,Nat.reduceAdd,Nat.reduceSub,Array.replicate_succ,Array.replicate_zero,List.push_toArray,List.append_toArray,List.nil_append,List.cons_append]
 gi_wp2
 gi_loopw [7] (fun i wr=>∃k:Nat,k≤8∧i=.int .i64 k∧c (upto 8 k) wr∧wr.heap[B]?=some (.cells #[.slice (some ⟨x,0,none⟩) 8 8] 181 (0,0))) (fun i _=>8-(intOf i).toNat)
 case atStart=>exact⟨0,by omega,rfl,r,g⟩
 case round=>
  obtain⟨k,E,rfl,j,m⟩:=hrel
  by_cases d:k<8
  ·obtain⟨fn,tmps,G,body,s,u⟩:=q _ ⟨k,d⟩ wr j (by rw[jX 8 k (by omega)];exact d)
   dsimp only at s
   have c1:wr.cell? ⟨B,0,none⟩=some (.slice (some ⟨x,0,none⟩) 8 8):=aD m
   gi_wp2
   refine u.mono ?_;rintro e H (⟨rfl,y,z⟩| ⟨rfl,A⟩)
   ·gi_wp2
    go_roundw
    case rel=>exact⟨k+1,by omega,by simp,by rw[eW 8 k d];exact y,z.trans m⟩
    case measure=>simp[intOf];omega
   ·gi_wp2
    refine bodyPost_ret (results_none rfl _ _ _) rfl ?_;exact⟨⟨_,rfl⟩,.inr ⟨_,⟨k+1,by omega,(eW 8 k d).symm⟩,A⟩⟩
  ·obtain rfl:k=8:=by omega
   gi_wp2
   go_end0
   exact⟨⟨_,rfl⟩,.inl ⟨_,rfl,j⟩⟩
theorem sQ(F:Fence)(n:Nat)(a:F.fn 199)(b:F.round=none)(c:1≤n)(B x:Nat)(w:World)(d:B<w.heap.size)(f:w.heap[B]?=some (.cells #[.slice (some ⟨x,0,none⟩) 8 8] 181 (0,0))):
 SeqStopsK F n Tryz.prog 199 #[.pointer (some ⟨B,0,none⟩)] (fun i:Fin 8=>#[.int .i64 (i.1:Int),.pointer (some ⟨x,i.1*6,none⟩)]) (fun W g=>g.heap[B]?=W.heap[B]?) (fun h=>h=upto 8 8) (fun j=>∃k,k≤8∧j=upto 8 k) 8 w:=
 fun l m o W p _ _ q r=>By F n a b c l B x m o q W ((p.block B d).trans f) r
theorem yD(x:Nat)(w:World):Calls Tryz.prog 172 #[.agg #[.slice (some ⟨x,0,none⟩) 8 8]] w fun e w'=>e=.returned (.func (.func 199) #[] #[.pointer (some ⟨w.heap.size,0,none⟩)])∧w'=w.alloc (.cells #[.slice (some ⟨x,0,none⟩) 8 8] 181):=by
 go_enter Tryz.func172,Tryz.ntmps172
 go_wp2
 go_ret
 exact⟨rfl,rfl⟩
end
section
open Go.RowKit
def fZ(r:Nat→Int):List Value:=[.int .i64 (r 0),.int .i64 (r 1),.int .i64 (r 2),.int .i64 (r 3),.int .i64 (r 4)]
def cI(l:List (Nat→Int)):List Value:=l.flatMap fZ
theorem jE(a b:List (Nat→Int)):cI (a++b)=cI a++cI b:=by simp[cI]
theorem oN(l:List (Nat→Int)):(cI l).length=l.length*5:=by
 induction l with
 | nil=>rfl
 | cons a l ih=>show(fZ a++cI l).length=_;rw[List.length_append,ih];show 5+_=_;simp;omega
theorem rT(l:List (Nat→Int)):∀a∈cI l,a.oneCell'=true:=by
 apply oM
 intro a c;obtain⟨r,_,b⟩:=List.mem_flatMap.1 c;simp[fZ]at b;rcases b with rfl| rfl| rfl| rfl| rfl<;>exact⟨_,_,rfl⟩
def dM(base:Nat)(v:Value)(l:List (Nat→Int))(w:World):Prop:=w.ownsRow base 52 5 v l.length (cI l)
def nM(bs:List Int)(s i:Nat):Bool:=gQ bs s i == 3&&cY bs s i 0 == 1
def fC(bs:List Int)(s:Nat):Nat→List (Nat→Int)
 | 0=>[]
 | k+1=>fC bs s k++if nM bs s (k+1)then [cY bs s (k+1)]else []
theorem vA(bs:List Int)(s k:Nat):(fC bs s k).length≤k:=by
 induction k with
 | zero=>exact Nat.le_refl _
 | succ k ih=>show(fC bs s k++_).length≤_;rw[List.length_append];split<;>simp<;>omega
def dQ(bs:List Int)(s:Int):List (Nat→Int):=if s<0 then []else fC bs s.toNat 7
def bT(bs:List Int):List (Nat→Int):=dQ bs (bD bs).2++dQ bs (bD bs).1
theorem jA(bs:List Int)(s:Int):(dQ bs s).length≤7:=by
 unfold dQ;split
 ·simp
 ·exact vA _ _ _
theorem nS(bs:List Int):(-1≤(bD bs).1∧(bD bs).1<2)∧(-1≤(bD bs).2∧(bD bs).2<2):=by
 unfold bD lB
 repeat' split
 all_goals simp
theorem uS(x cap:Nat)(bs:List Int)(s:Int)(w:World)(T:-1≤s∧s<2)(h:Gv x cap bs w):
 Calls Tryz.prog 138 #[.slice (some ⟨x,0,none⟩) 256 cap,.int .i64 s] w fun e w'=>∃v,e=.returned v∧(dM w.heap.size v (dQ bs s) w'∧(dQ bs s=[]→v=.slice none 0 0))∧Below w.heap.size w w':=by
 obtain⟨U,V,W,X,Y⟩:=info_parts Tryz.info52;have y:=aI h
 by_cases G:s<0
 ·have a6:decide (0≤s)=false:=by simp;omega
  clear h
  go_enter Tryz.func138,Tryz.ntmps138
  go_wp2
  go_loop [5,6] (fun v i=>v=.slice none 0 0∧i=.int .i64 1) (fun _ _=>0)
  case atStart=>exact⟨rfl,rfl⟩
  case round=>
   obtain⟨rfl,rfl⟩:=hrel;go_wp2
   go_ret
   refine⟨_,rfl,⟨?_,fun _=>rfl⟩,Below.refl _ _⟩;unfold dQ;rw[if_pos G];exact World.ownsRow_nil _ _ _ _
 ·obtain⟨t,rfl⟩:∃t:Nat,s=(t:Int):=⟨s.toNat,by omega⟩;have Z:t<2:=by omega
  have a0:Hid (dQ bs (t:Int)=fC bs t 7):=by
   show _=_
   unfold dQ;rw[if_neg G];rfl
  clear h G T
  go_enter Tryz.func138,Tryz.ntmps138
  go_wp2
  go_loopw [5,6] (fun v i wr=>∃ (k:Nat),k≤7∧i=.int .i64 ((k:Int)+1)∧(dM w.heap.size v (fC bs t k) wr∧(fC bs t k=[]→v=.slice none 0 0))∧Below w.heap.size w wr) (fun _ i _=>8-(intOf i).toNat)
  case atStart=>exact⟨0,by omega,rfl,⟨World.ownsRow_nil _ _ _ _,fun _=>rfl⟩,Below.refl _ _⟩
  case round=>
   obtain⟨k,a7,rfl,⟨z,M⟩,r⟩:=hrel;have H:=aI M;clear M
   by_cases a8:k<7
   ·have I:=aI (qN x cap bs t (k+1) wr Z (by omega) y.out.len y.out.bytes (y.out.below r).row y.out.c1 y.out.c2);have J:=aI z;have N:=aI r;have a1:=r.size;obtain⟨ad,c,rfl⟩:=bL z;have a2:=vA bs t k;have a:Hid (fC bs t (k+1)=fC bs t k++if(gQ bs t (k+1) == 3&&cY bs t (k+1) 0 == 1)=true then [cY bs t (k+1)]else []):=rfl;clear z r;rw[show((k+1:Nat):Int)=(k:Int)+1 from by omega]at I;go_wp2_with fail
    refine I.out.mono ?_;rintro e u ⟨rfl,D⟩;have a9:=D.size;have d:Hid (dM w.heap.size (.slice ad (fC bs t k).length c) (fC bs t k) (u.alloc (.cells (fZ (cY bs t (k+1))).toArray 52))):=(aO J.out (fun b e=>D.block b (World.ownsRow.lt J.out b e).2)).alloc _;have f:Hid (Below w.heap.size w (u.alloc (.cells (fZ (cY bs t (k+1))).toArray 52))):=(N.out.trans (D.mono a1)).alloc (by omega) _;have l:Hid (fZ (cY bs t (k+1))=[.int .i64 (cY bs t (k+1) 0),.int .i64 (cY bs t (k+1) 1),.int .i64 (cY bs t (k+1) 2),.int .i64 (cY bs t (k+1) 3),.int .i64 (cY bs t (k+1) 4)]):=rfl;clear D I J N;simp only[jZ];rw[l.out]at d f;obtain⟨m,O⟩:∃m,m=cY bs t (k+1):=⟨_,rfl⟩;rw[←O]at d f l a ⊢;clear O;generalize gQ bs t (k+1)=kk at a ⊢;generalize a3:m 0=n at d f l a ⊢;generalize m 1=r1 at d f l a ⊢;generalize m 2=A at d f l a ⊢;generalize m 3=B at d f l a ⊢;generalize m 4=C at d f l a ⊢;clear a3;generalize P:(fC bs t k).length=len at d a2 ⊢;have E:=aI P;clear P
    by_cases o:(kk == 3&&n == 1)=true
    ·have F:(kk == 3)=true:=by simp at o;simp[o.1]
     have b0:(n == 1)=true:=by simp at o;simp[o.2]
     have j:=aI o;clear o;go_wp2_with (at_builtin;go_must (refine wpList_append_lies _ rfl (.tmp 31) (.tmp 33) 49 rfl w.heap.size 52 U _ 5 40 Tryz.underlying49 V W X Y rfl (by decide) (.slice ad len c) len (cI (fC bs t k)) rfl (by have:=d.out;unfold dM at this;rw[E.out]at this;exact this.alloc _) ⟨u.heap.size+1,0,none⟩ 1 1 [.int .i64 n,.int .i64 r1,.int .i64 A,.int .i64 B,.int .i64 C] (by rfl) rfl (by have:=dA (u.alloc (.cells #[.int .i64 n,.int .i64 r1,.int .i64 A,.int .i64 B,.int .i64 C] 52)) #[.int .i64 n,.int .i64 r1,.int .i64 A,.int .i64 B,.int .i64 C] 52;simpa using this) (oM _ (by simp)) (by omega) (by unfold maxLen;omega) (by omega) (by simp;omega) _ rfl ?_))
     intro g a4 L Q R _ _;have S:=aZ R;have q:Hid (dM w.heap.size (.slice (some ⟨g,0,none⟩) (len+1) a4) (fC bs t (k+1)) L∧Below w.heap.size w L):=by
      refine⟨?_,f.out.grown S (by simp;omega) (fun b e=>(World.ownsRow.lt d.out b e).1)⟩;rw[a.out,if_pos j.out];unfold dM;rw[jE,List.length_append,E.out];show L.ownsRow _ _ _ _ _ (_++(fZ m++[]))
      rw[List.append_nil,l.out];exact Q
     clear Q R S d f;go_wp2
     go_roundw
     case rel=>exact⟨k+1,by omega,by go_num,⟨q.out.1,fun p=>by rw[a.out,if_pos j.out]at p;simp at p⟩,q.out.2⟩
     case measure=>simp[intOf];omega
    ·have j:=aI o;have q:Hid (dM w.heap.size (.slice ad len c) (fC bs t (k+1)) (u.alloc (.cells #[.int .i64 n,.int .i64 r1,.int .i64 A,.int .i64 B,.int .i64 C] 52))∧Below w.heap.size w (u.alloc (.cells #[.int .i64 n,.int .i64 r1,.int .i64 A,.int .i64 B,.int .i64 C] 52))):=by
      refine⟨?_,f.out⟩;rw[a.out,if_neg j.out,List.append_nil];exact d.out
     clear o
     by_cases F:kk=3
     ·have a5:(kk == 3)=true:=by simp[F]
      have b1:(n == 1)=false:=by have:=j.out;simp[F]at this;simp[this]
      go_wp2
      go_roundw
      case rel=>exact⟨k+1,by omega,by go_num,⟨q.out.1,fun p=>by rw[a.out,if_neg j.out,List.append_nil]at p;rw[←E.out];exact H.out p⟩,q.out.2⟩
      case measure=>simp[intOf];omega
     ·have a5:(kk == 3)=false:=by simp[F]
      go_wp2
      go_roundw
      case rel=>exact⟨k+1,by omega,by go_num,⟨q.out.1,fun p=>by rw[a.out,if_neg j.out,List.append_nil]at p;rw[←E.out];exact H.out p⟩,q.out.2⟩
      case measure=>simp[intOf];omega
   ·obtain rfl:k=7:=by omega
    have j:=aI (And.intro (And.intro z H.out) r);clear z r;go_wp2
    go_ret
    exact⟨_,rfl,by rw[a0.out];exact j.out.1,j.out.2⟩
end
section
open Go.RowKit Go.Shelf
attribute [local go_sem] Oper.semAt_some
attribute [-go_sem] Builtin.append_
def iM(bs:List Int)(s:Nat)(a:List (Fin 8)):List (Nat→Int):=a.flatMap fun i=>if cH bs s&&nM bs s i.1 then [cY bs s i.1]else []
theorem Qz(bs:List Int)(s:Nat)(a:List (Fin 8))(i:Fin 8)(h:(cH bs s&&nM bs s i.1)=true):iM bs s (a++[i])=iM bs s a++[cY bs s i.1]:=by simp at h;simp[iM,h]
theorem Aj(bs:List Int)(s:Nat)(a:List (Fin 8))(i:Fin 8)(h:(cH bs s&&nM bs s i.1)=false):iM bs s (a++[i])=iM bs s a:=by simp at h;simp only[iM,List.flatMap_append,List.flatMap_cons,List.flatMap_nil,List.append_nil];simp;exact h
theorem Ki(bs:List Int)(s:Nat)(b:List (Fin 8)):(iM bs s b).length≤b.length:=by
 induction b with
 | nil=>exact Nat.le_refl _
 | cons a l ih=>show((if _ then _ else _)++iM bs s l).length≤_;rw[List.length_append];split<;>simp<;>omega
theorem kN{W a:World}(h:Below W.heap.size W a):KeepsOthers W a:=⟨h.size,fun k _ b _=>(h.block k (Array.getElem?_eq_some_iff.1 b).1).trans b⟩
theorem yX(x:Nat)(bs:List Int)(s:Nat)(w:World)(h:cA x bs s w):
 Calls Tryz.prog 127 #[.agg #[.int .i64 s,.slice (some ⟨x,0,none⟩) 8 8]] w fun e w'=>∃v,e=.returned v∧(dM w.heap.size v (iM bs s (upto 8 8)) w'∧(v=.slice none 0 0↔iM bs s (upto 8 8)=[]))∧Below w.heap.size w w':=by
 obtain⟨d9,e0,e1,e2,e3⟩:=info_parts Tryz.info52;have f6:Tryz.prog.follows .mixedOrders=true:=by kernel_rfl
 refine(callsIn_wide (n:=4)).1 ?_;refine callsIn_of_wp_marks Tryz.func127 rfl trivial ?_ rfl;simp only[Tryz.ntmps127,List.size_toArray,List.length_cons,List.length_nil,Nat.reduceAdd,Nat.reduceSub,Array.replicate_succ,Array.replicate_zero,List.push_toArray,List.append_toArray,List.nil_append,List.cons_append]
 gi_wp2_with (refine⟨trivial,?_⟩;gi_at_call 172;refine(callsIn_wide.2 (yD _ _)).mono ?_;rintro e w' ⟨rfl,rfl⟩)
 have X:Below w.heap.size w (w.alloc (.cells #[.int .i64 s,.slice (some ⟨x,0,none⟩) 8 8] 183)):=aG _ _;obtain⟨g,Y⟩:∃g,g=w.alloc (.cells #[.int .i64 s,.slice (some ⟨x,0,none⟩) 8 8] 183):=⟨_,rfl⟩;have b1:g.heap.size=w.heap.size+1:=by rw[Y];simp
 have e4:g.heap[w.heap.size]?=some (.cells #[.int .i64 s,.slice (some ⟨x,0,none⟩) 8 8] 183 (0,0)):=aF Y;rw[←Y]at X ⊢;have e5:=h.below X;have b2:=Boxed.new g 49 (.slice none 0 0);have I:=Boxed.new (g.alloc (.cells #[.slice none 0 0] 49)) 181 (.slice (some ⟨x,0,none⟩) 8 8);rw[World.size_alloc]at I;rw[b1]at b2 I;have b3:Below (w.heap.size+1) g ((g.alloc (.cells #[.slice none 0 0] 49)).alloc (.cells #[.slice (some ⟨x,0,none⟩) 8 8] 181)):=((Below.refl _ g).alloc (by omega) _).alloc (by simp;omega) _;obtain⟨O,b4⟩:∃O,O=(g.alloc (.cells #[.slice none 0 0] 49)).alloc (.cells #[.slice (some ⟨x,0,none⟩) 8 8] 181):=⟨_,rfl⟩;have f7:O.heap.size=w.heap.size+3:=by rw[b4];simp;omega
 have b5:=b2.alloc (.cells #[.slice (some ⟨x,0,none⟩) 8 8] 181);rw[←b4]at I b3 b5 ⊢;refine wpIn_rangeFunc_ownF rfl (by omega) (gf:=199) (lb:=#[.pointer (some ⟨w.heap.size+1+1,0,none⟩)]) rfl trivial (enters_of Tryz.func199 (by kernel_rfl) rfl)
  (sQ _ _ trivial rfl (by omega) (w.heap.size+1+1) x O (by omega) I) (fun h k=>k.trans h) (fun W l o f8 f9 _ _ _=>World.putObj_heap_other (by omega)) (Below.refl _ _) (fun _=>rfl)
  (fun a W=>(∃v,Boxed W (w.heap.size+1) 49 v∧W.ownsRow (w.heap.size+1) 52 5 v (iM bs s a).length (cI (iM bs s a))∧(v=.slice none 0 0↔iM bs s a=[]))∧Boxed W (w.heap.size+1+1) 181 (.slice (some ⟨x,0,none⟩) 8 8)∧Below (w.heap.size+1) g W)
  (fun _ _ _=>False)
  (OwnFrom.and (Own.from (holdsRow_own (w.heap.size+1) (w.heap.size+1) 49 52 5 (fun a=>(iM bs s a).length) (fun a=>cI (iM bs s a)) (fun a v=>v=.slice none 0 0↔iM bs s a=[])) _) (OwnFrom.and (Own.from (boxed_own _ _ _) _) (ownFrom_below (by omega) (by omega))))
  (fun _ _ _ _ _ e6 _ _=>e6)
  ⟨⟨_,b5,World.ownsRow_nil _ _ _ _,by simp[iM]⟩,I,b3⟩
  (fun i=>{ tmps:=#[.agg #[.int .i64 s,.slice (some ⟨x,0,none⟩) 8 8],.pointer (some ⟨w.heap.size,0,none⟩),.slice none 0 0,.pointer (some ⟨w.heap.size+1,0,none⟩),undef,.pointer (some ⟨x,i.1*6,none⟩),.pointer (some ⟨w.heap.size,1,none⟩),.agg #[.slice (some ⟨x,0,none⟩) 8 8],.func (.func 199) #[] #[.pointer (some ⟨w.heap.size+1+1,0,none⟩)],.int .i64 i.1,.pointer (some ⟨x,i.1*6,none⟩),undef,undef,undef,undef,undef,undef,undef,undef,undef,undef,undef,undef,undef,undef,undef,undef],defers:=[] }) ?assign ?body ?done ?stop
 case assign=>
  intro l i W K m
  gi_wp2
  exact m
 case body=>
  rintro l a i W ⟨⟨v,Q,R,S⟩,Z,u⟩ b6;have b7:=u.size;have a0:=(u.block w.heap.size (by omega)).trans e4;have e7:W.cell? ⟨w.heap.size,0,none⟩=some (.int .i64 s):=aD a0;have e8:W.cell? ⟨w.heap.size,1,none⟩=some (.slice (some ⟨x,0,none⟩) 8 8):=aD a0;have a1:cA x bs s W:=e5.below (by rw[b1];exact u);have E:=aI Q;have F:=aI R;have b8:=aI S;have q:=aI Z;have a2:=aI u;have G:=aI a1;have g0:=i.2;obtain⟨b9,c0⟩:∃b9:World→Prop,b9=fun e9=>Below W.heap.size W e9:=⟨_,rfl⟩
  have g1:=aI c0;have c3:Hid (Calls Tryz.prog 125 #[.agg #[.int .i64 s,.slice (some ⟨x,0,none⟩) 8 8]] W fun e w'=>e=.returned (.bool (cH bs s))∧Below W.heap.size W w'):=kZ x bs s W a1;have c4:=aI b6;have T:=aI b7;clear Q R S Z u a1 c0 b6 a0 b7
  gi_wp2_with fail
  refine⟨trivial,?_⟩;refine(CallsIn.inRound l (callsIn_wide.2 c3.out)).mono ?_;rintro e y ⟨rfl,c5⟩;have f:=aI c5;clear c5 c3;cases hd:cH bs s with
  | false=>
   have a3:=aI hd;clear hd
   gi_wp2
   refine⟨trivial,?_⟩
   gi_wp2
   have r:=Aj bs s a i (by rw[a3.out];rfl);refine⟨kN f.out,f.out.block _ q.out.lt,⟨⟨v,(f.out.block _ E.out.lt).trans E.out,by rw[r];exact aO F.out (fun b e=>f.out.block b (World.ownsRow.lt F.out b e).2),by rw[r];exact b8.out⟩,(f.out.block _ q.out.lt).trans q.out,a2.out.trans (f.out.mono (by have:=T.out;omega))⟩⟩
  | true=>
   have a3:=aI hd;clear hd;have z:=G.out.below f.out;have f0:y.cell? ⟨x,i.1*6,none⟩=some (.int .i64 (cD bs s i.1 0)):=by simpa using z.cell i.1 0 (by omega) (by omega)
   have c1:y.cell? ⟨x,i.1*6+1,none⟩=some (.int .i64 (cD bs s i.1 1)):=by simpa using z.cell i.1 1 (by omega) (by omega)
   have c2:y.cell? ⟨x,i.1*6+2,none⟩=some (.int .i64 (cD bs s i.1 2)):=by simpa using z.cell i.1 2 (by omega) (by omega)
   have c6:y.cell? ⟨x,i.1*6+3,none⟩=some (.int .i64 (cD bs s i.1 3)):=by simpa using z.cell i.1 3 (by omega) (by omega)
   have c7:y.cell? ⟨x,i.1*6+4,none⟩=some (.int .i64 (cD bs s i.1 4)):=by simpa using z.cell i.1 4 (by omega) (by omega)
   have c8:y.cell? ⟨x,i.1*6+5,none⟩=some (.int .i64 (cD bs s i.1 5)):=by simpa using z.cell i.1 5 (by omega) (by omega)
   have c9:=aI (Au (cD bs s i.1 0) (cD bs s i.1 1) (cD bs s i.1 2) (cD bs s i.1 3) (cD bs s i.1 4) (cD bs s i.1 5) 1 y);have d0:Hid (nM bs s i.1=(cD bs s i.1 0 == 3&&cD bs s i.1 1 == 1)):=rfl;have f1:Hid (fZ (cY bs s i.1)=[.int .i64 (cD bs s i.1 1),.int .i64 (cD bs s i.1 2),.int .i64 (cD bs s i.1 3),.int .i64 (cD bs s i.1 4),.int .i64 (cD bs s i.1 5)]):=rfl;clear z;generalize cD bs s i.1 0=f2 at *;generalize cD bs s i.1 1=H at *;generalize cD bs s i.1 2=J at *;generalize cD bs s i.1 3=L at *;generalize cD bs s i.1 4=M at *;generalize cD bs s i.1 5=N at *
   gi_wp2_with fail
   refine⟨trivial,?_⟩;refine(CallsIn.inRound l (callsIn_wide.2 c9.out)).mono ?_;rintro e d ⟨rfl,A⟩;have j:Hid (Below W.heap.size W d):=f.out.trans (A.mono f.out.size);have g2:d.cell? ⟨x,i.1*6+1,none⟩=some (.int .i64 H):=(A.cell (p:=⟨x,i.1*6+1,none⟩) (Nat.lt_of_lt_of_le G.out.lt f.out.size)).trans c1;have g3:d.cell? ⟨x,i.1*6+2,none⟩=some (.int .i64 J):=(A.cell (p:=⟨x,i.1*6+2,none⟩) (Nat.lt_of_lt_of_le G.out.lt f.out.size)).trans c2;have g4:d.cell? ⟨x,i.1*6+3,none⟩=some (.int .i64 L):=(A.cell (p:=⟨x,i.1*6+3,none⟩) (Nat.lt_of_lt_of_le G.out.lt f.out.size)).trans c6;have g5:d.cell? ⟨x,i.1*6+4,none⟩=some (.int .i64 M):=(A.cell (p:=⟨x,i.1*6+4,none⟩) (Nat.lt_of_lt_of_le G.out.lt f.out.size)).trans c7;have g6:d.cell? ⟨x,i.1*6+5,none⟩=some (.int .i64 N):=(A.cell (p:=⟨x,i.1*6+5,none⟩) (Nat.lt_of_lt_of_le G.out.lt f.out.size)).trans c8;clear A c9 f0 c1 c2 c6 c7 c8 e7 e8;cases hf:(f2 == 3&&H == 1)with
   | false=>
    have a4:=aI hf;clear hf
    gi_wp2
    have r:=Aj bs s a i (by rw[d0.out,a4.out,Bool.and_false]);refine⟨kN j.out,j.out.block _ q.out.lt,⟨⟨v,(j.out.block _ E.out.lt).trans E.out,by rw[r];exact aO F.out (fun b e=>j.out.block b (World.ownsRow.lt F.out b e).2),by rw[r];exact b8.out⟩,(j.out.block _ q.out.lt).trans q.out,a2.out.trans (j.out.mono (by have:=T.out;omega))⟩⟩
   | true=>
    have a4:=aI hf;clear hf;have f3:=Ki bs s a;have U:Boxed d.drew (w.heap.size+1) 49 v:=(j.out.block _ E.out.lt).trans E.out;have a5:Boxed d.drew (w.heap.size+1+1) 181 (.slice (some ⟨x,0,none⟩) 8 8):=(j.out.block _ q.out.lt).trans q.out;have V:d.drew.ownsRow (w.heap.size+1) 52 5 v (iM bs s a).length (cI (iM bs s a)):=aO F.out (fun b e=>j.out.block b (World.ownsRow.lt F.out b e).2);have a6:w.heap.size+1≤d.drew.heap.size:=by have:=T.out;have:=j.out.size;show _≤d.heap.size;omega
    obtain⟨g7,B,d1,a7,a8,f4⟩:=run_append_own (P:=Tryz.prog) (d.drew.alloc (.cells #[.int .i64 H,.int .i64 J,.int .i64 L,.int .i64 M,.int .i64 N] 52)) (w.heap.size+1) 49 49 52 d9 _ 5 40 Tryz.underlying49 e0 e1 e2 e3 rfl (by decide) v _ _ (V.alloc _) ⟨d.heap.size,0,none⟩ 1 1 [.int .i64 H,.int .i64 J,.int .i64 L,.int .i64 M,.int .i64 N] rfl (by have:=dA d.drew #[.int .i64 H,.int .i64 J,.int .i64 L,.int .i64 M,.int .i64 N] 52;simpa using this) (oM _ (by simp)) (by have:=c4.out;unfold maxLen;omega) (by have:=c4.out;omega) (Nat.le_trans a6 (by simp));obtain⟨C,D,rfl⟩:=ownsRow_succ a7;have f5:(Builtin.append_ #[49,49] 49 #[v,.slice (some ⟨d.heap.size,0,none⟩) 1 1]).run Tryz.prog (d.alloc (.cells #[.int .i64 H,.int .i64 J,.int .i64 L,.int .i64 M,.int .i64 N] 52)).drew=_:=d1;obtain⟨a9,d2,d3,d4,d5⟩:=U.appended (by decide) V a6 (Nat.le_refl _) a7 a8;have d6:Boxed B (w.heap.size+1+1) 181 (.slice (some ⟨x,0,none⟩) 8 8):=(a5.alloc _).kept a8 (a5.not_row (by decide) V);have b0:=d6.other (B':=w.heap.size+1) (by omega) (.slice (some ⟨C,0,none⟩) ((iM bs s a).length+1) D);have g8:d.cell? ⟨w.heap.size+1,0,none⟩=some v:=U.cell;have g9:∀o,(d.alloc o).cell? ⟨w.heap.size+1,0,none⟩=some v:=fun o=>(U.alloc o).cell
    have h0:=a9.cell;have h1:=a9.frozen;have r:=Qz bs s a i (by rw[d0.out,a4.out,a3.out];rfl);have d7:Hid (KeepsOthers W (B.setCell ⟨w.heap.size+1,0,none⟩ (.slice (some ⟨C,0,none⟩) ((iM bs s a).length+1) D))∧(B.setCell ⟨w.heap.size+1,0,none⟩ (.slice (some ⟨C,0,none⟩) ((iM bs s a).length+1) D)).heap[w.heap.size+1+1]?=W.heap[w.heap.size+1+1]?∧((∃v,Boxed (B.setCell ⟨w.heap.size+1,0,none⟩ (.slice (some ⟨C,0,none⟩) ((iM bs s a).length+1) D)) (w.heap.size+1) 49 v∧(B.setCell ⟨w.heap.size+1,0,none⟩ (.slice (some ⟨C,0,none⟩) ((iM bs s a).length+1) D)).ownsRow (w.heap.size+1) 52 5 v (iM bs s (a++[i])).length (cI (iM bs s (a++[i])))∧(v=.slice none 0 0↔iM bs s (a++[i])=[]))∧Boxed (B.setCell ⟨w.heap.size+1,0,none⟩ (.slice (some ⟨C,0,none⟩) ((iM bs s a).length+1) D)) (w.heap.size+1+1) 181 (.slice (some ⟨x,0,none⟩) 8 8)∧Below (w.heap.size+1) g (B.setCell ⟨w.heap.size+1,0,none⟩ (.slice (some ⟨C,0,none⟩) ((iM bs s a).length+1) D)))):=by
     refine⟨(kN j.out.drew).trans d4,b0.trans q.out.symm,⟨_,d2,?_,?_⟩,b0,a2.out.trans ((j.out.drew.mono (by have:=T.out;omega)).trans d5)⟩
     ·rw[r,List.length_append,jE,show cI [cY bs s i.1]=fZ (cY bs s i.1)from by simp[cI],f1.out];exact d3
     ·rw[r];simp
    clear U a5 V a6 a7 a8 f4 a9 d2 d3 d4 d5 d6 b0 r f3 d1;obtain⟨K,m⟩:∃K:Nat,K=(iM bs s a).length:=⟨_,rfl⟩;rw[←m]at f5 d7;have h2:=aI m;clear m
    gi_wp2_with fail
    gi_region_with fail
    all_goals gi_wp2
    all_goals exact d7.out
 case done=>
  rintro d8 h3 W h4 rfl ⟨⟨v,Q,R,S⟩,Z,u⟩ m;have h5:=Q.cell
  gi_wp2
  refine⟨by simp,.inl ⟨_,_,rfl,run_takeDeferred m,?_⟩⟩;refine⟨_,results_tmp rfl _ _ _,v,rfl,⟨bI (ownsRow_putObj R _ m rfl) (by omega),S⟩,?_⟩;exact X.trans ((u.mono (by omega)).trans (belowK_b (w:=w) (Nat.le_refl _) W d8 _ _ (by omega) m rfl rfl))
 case stop=>
  rintro d8 c a W _ _ h _;exact h.elim
end
section
open Go.RowKit
theorem tG{P:Program}(w:World){b:Array Oper}{c:List Oper}{o:Oper}{a:Act}{Q:Exit→Act→World→Prop}
 (f:o.guard=none) (s x:Operand) (t:TypeId) (g:o.op=Op.call { callee:=Callee.builtin Builtin.append,args:=#[s,x],argTypes:=#[t,t] })
 (base:Nat) (e:TypeId) (i:TypeInfo) (size:Nat) (h:P.underlying t=some (.slice e)) (j:P.info? e=some i)
 (v:Value) (n:Nat) (d:List Value) (k:a.eval s=v) (l:w.ownsRow base e size v n d) (m:a.eval x=.slice none 0 0)
 (p:wpList P b Q c (a.put o.dst v) w):wpList P b Q (o::c) a w:=by
 refine wpList_plain f fun K q=>?_
 have r:=run_append_owned_none (P:=P) (w:=w) base t o.type e i size h j v n d l;unfold Oper.wp;simp[execOp,g,resolve,invoke,builtin,k,m,r,Result.andThen];exact q _ _ p
theorem dM.below{base:Nat}{v:Value}{l:List (Nat→Int)}{w w':World}(h:dM base v l w)(a:Below w.heap.size w w'):dM base v l w':=aO h (fun b e=>a.block b (World.ownsRow.lt h b e).2)
theorem tL(g:Nat)(bs:List Int)(left res:Int)(dead:Bool)(done:Int)(w:World)(h:aS w g bs left res dead done):
 Calls Tryz.prog 97 #[.pointer (some ⟨g,0,none⟩)] w fun e w'=>∃v,e=.returned v∧(dM w.heap.size v (bT bs) w'∧(bT bs=[]→v=.slice none 0 0))∧Below w.heap.size w w':=by
 obtain⟨L,M,a8,a9,b0⟩:=info_parts Tryz.info52;have N:=aI (oK g bs left res dead done w h);have O:=h.bytes;have m:=nS bs;have f:Hid (bT bs=dQ bs (bD bs).2++dQ bs (bD bs).1):=rfl;have P:=jA bs (bD bs).1;have Q:=jA bs (bD bs).2;clear h
 go_enter Tryz.func97,Tryz.ntmps97
 go_wp2_with fail
 refine N.out.mono ?_;rintro e j ⟨x,cap,rfl,R,E⟩;have n:=yT R O;have b1:=E.size;have c6:=aI n;have b2:=aI E;have p:=aI (oX x cap bs j n);have F:Hid (∀W s,Below j.heap.size j W→(-1≤s∧s<2)→Calls Tryz.prog 138 #[.slice (some ⟨x,0,none⟩) 256 cap,.int .i64 s] W fun e w'=>∃v,e=.returned v∧(dM W.heap.size v (dQ bs s) w'∧(dQ bs s=[]→v=.slice none 0 0))∧Below W.heap.size W w'):=fun W s b3 b4=>uS x cap bs s W b4 (n.below b3)
 clear R E n N O;generalize (bD bs).1=a at p f m P;generalize (bD bs).2=o at p f m Q;go_wp2_with fail
 refine p.out.mono ?_;rintro e q ⟨rfl,r⟩;have b5:=r.size;have b6:=aI r;have G:=aI (F.out q o r m.2);clear r p;generalize dQ bs o=c at G f Q;go_wp2_with fail
 refine G.out.mono ?_;rintro e S ⟨c7,rfl,⟨T,U⟩,H⟩;have c8:=H.size;have V:Hid (Below j.heap.size j S):=b6.out.trans (H.mono b5);have I:=aI (F.out S a V.out m.1);have X:=aI T;have b7:=aI U;clear T U H G F;obtain⟨k,l,rfl⟩:=bL X.out;generalize dQ bs a=d at I f P;go_wp2_with fail
 refine I.out.mono ?_;rintro e u ⟨c9,rfl,⟨Y,Z⟩,y⟩;have d0:=y.size;have z:Hid (dM q.heap.size (.slice k c.length l) c u):=X.out.below y;have a0:Hid (Below w.heap.size w u):=b2.out.trans ((V.out.trans (y.mono (by omega))).mono b1);have J:=aI Y;have b8:=aI Z;clear Y Z y I
 by_cases A:d=[]
 ·obtain rfl:=b8.out A;subst A;have B:Hid (dM w.heap.size (.slice k c.length l) (bT bs) u∧(bT bs=[]→(Value.slice k c.length l)=.slice none 0 0)):=by
   rw[f.out,List.append_nil];exact⟨bI z.out (by omega),b7.out⟩
  go_wp2_with (at_builtin;go_must (refine tG _ rfl (.tmp 21) (.tmp 22) 49 rfl q.heap.size 52 L 5 Tryz.underlying49 M (.slice k c.length l) c.length (cI c) rfl z.out rfl ?_))
  go_wp2
  go_ret
  exact⟨_,rfl,B.out,a0.out⟩
 ·obtain⟨b9,c0,c1⟩:=bL J.out;subst c1;have c2:0<d.length:=List.length_pos_iff.2 A;obtain⟨i,c3⟩:∃i,b9=some ⟨i,0,none⟩:=by
   rcases J.out.2 with⟨_,d1⟩| ⟨i,d2,cur,a1,_⟩
   ·omega
   ·simp at a1;exact⟨i,a1.1⟩
  subst c3;have c4:Hid (∀C D,(cI d)[C]?=some D→u.cell? ((⟨i,0,none⟩:Addr).add C)=some D):=fun C D c5=>World.ownsRow.cells J.out rfl C D c5
  go_wp2_with (at_builtin;go_must (refine wpList_append_lies _ rfl (.tmp 21) (.tmp 22) 49 rfl q.heap.size 52 L _ 5 40 Tryz.underlying49 M a8 a9 b0 rfl (by decide) (.slice k c.length l) c.length (cI c) rfl z.out ⟨i,0,none⟩ d.length c0 (cI d) (by rfl) (oN d) c4.out (rT d) c2 (by unfold maxLen;omega) (by omega) (by omega) _ rfl ?_))
  intro a2 a3 a4 a5 a6 _ _;have B:Hid ((dM w.heap.size (.slice (some ⟨a2,0,none⟩) (c.length+d.length) a3) (bT bs) a4∧(bT bs=[]→(Value.slice (some ⟨a2,0,none⟩) (c.length+d.length) a3)=.slice none 0 0))∧Below w.heap.size w a4):=by
   refine⟨⟨?_,fun a7=>?_⟩,a0.out.grown a6 (by omega) (fun b e=>by have:=(World.ownsRow.lt z.out b e).1;omega)⟩
   ·rw[f.out];unfold dM;rw[jE,List.length_append];exact bI a5 (by omega)
   ·rw[f.out]at a7;exact absurd (List.append_eq_nil_iff.1 a7).2 A
  clear a5 a6;go_wp2
  go_ret
  exact⟨_,rfl,B.out.1,B.out.2⟩
end
end Go.Proofs.YtnjlbgolnbdkaaaGreat
