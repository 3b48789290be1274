/- All, with short names -/
import Derived.Test.YtnjlbgolnbdkaaaGreatP10
import Derived.Test.YtnjlbgolnbdkaaaGreatP05
import Derived.Test.YtnjlbgolnbdkaaaGreatP04
set_option maxRecDepth 100000
set_option maxHeartbeats 16000000
namespace Go.Proofs.YtnjlbgolnbdkaaaGreat
open Go Go.RowKit
structure cQ where
 next:Int
 acc:Int
 til:Int
 dl:Int
 stopped:Bool
structure fF where
 mode:Int
 words:List Int
 procs:List cQ
 watch:Int
structure aQ where
 cf:Cf
 parts:List fF
 queues:List (List Int)
 now:Int
 dead:Bool
def bM(p:cQ):List Value:=[.int .i64 p.next,.int .i64 p.acc,.int .i64 p.til,.int .i64 p.dl,.bool p.stopped]
def pM(base:Nat)(v:Value)(l:List cQ)(w:World):Prop:=w.ownsRow base 200 5 v l.length (l.flatMap bM)
def Fp(base:Nat)(v:Value)(l:List Int)(w:World):Prop:=w.ownsRow base 3 1 v l.length (l.map (Value.int .i64))
def iH(p:fF×Value×Value):List Value:=[.int .i64 p.1.mode,p.2.1,p.2.2,.int .i64 p.1.watch]
def oS(base:Nat)(v:Value)(a:List fF)(w:World):Prop:=∃l:List (fF×Value×Value),l.map Prod.fst=a∧w.ownsRow base 198 4 v l.length (l.flatMap iH)∧∀q∈l,Fp base q.2.1 q.1.words w∧pM base q.2.2 q.1.procs w
def oR(base:Nat)(v:Value)(qs:List (List Int))(w:World):Prop:=∃l:List (List Int×Value),l.map Prod.fst=qs∧w.ownsRow base 40 1 v l.length (l.map Prod.snd)∧∀q∈l,Fp base q.2 q.1 w
def cE(a b:Int)(c vW vC:Value)(g:Nat)(d f:Value)(now:Int)(dead:Bool):Array Value:=#[.int .i64 a,.int .i64 b,c,vW,vC,.pointer (some ⟨g,0,none⟩),d,f,.int .i64 now,.bool dead]
structure Bo(base kb g:Nat)(st:aQ)(w:World):Prop where
 lo:base≤kb
 ex:∃vP vW vC vR vQ,w.heap[kb]?=some (.cells (cE st.cf.frame st.cf.watch vP vW vC g vR vQ st.now st.dead) 151 (0,0))∧kA base vP vW vC st.cf w∧oS base vR st.parts w∧oR base vQ st.queues w
theorem oS.keep{base:Nat}{v:Value}{g:List fF}{w w':World}(h:oS base v g w)(d:∀b,base≤b→b<w.heap.size→w'.heap[b]?=w.heap[b]?):oS base v g w':=by
 obtain⟨l,i,f,a⟩:=h;exact⟨l,i,aO f (fun b e=>d b (World.ownsRow.lt f b e).1 (World.ownsRow.lt f b e).2),fun q c=>⟨aO (a q c).1 (fun b e=>d b (World.ownsRow.lt (a q c).1 b e).1 (World.ownsRow.lt (a q c).1 b e).2),aO (a q c).2 (fun b e=>d b (World.ownsRow.lt (a q c).2 b e).1 (World.ownsRow.lt (a q c).2 b e).2)⟩⟩
theorem oS.low{base base':Nat}{v:Value}{b:List fF}{w:World}(h:oS base v b w)(a:base'≤base):oS base' v b w:=by
 obtain⟨l,f,g,c⟩:=h;exact⟨l,f,bI g a,fun q d=>⟨bI (c q d).1 a,bI (c q d).2 a⟩⟩
theorem oR.keep{base:Nat}{v:Value}{qs:List (List Int)}{w w':World}(h:oR base v qs w)(f:∀b,base≤b→b<w.heap.size→w'.heap[b]?=w.heap[b]?):oR base v qs w':=by
 obtain⟨l,g,a,c⟩:=h;exact⟨l,g,aO a (fun b e=>f b (World.ownsRow.lt a b e).1 (World.ownsRow.lt a b e).2),fun q d=>aO (c q d) (fun b e=>f b (World.ownsRow.lt (c q d) b e).1 (World.ownsRow.lt (c q d) b e).2)⟩
theorem oR.low{base base':Nat}{v:Value}{qs:List (List Int)}{w:World}(h:oR base v qs w)(a:base'≤base):oR base' v qs w:=by
 obtain⟨l,b,c,d⟩:=h;exact⟨l,b,bI c a,fun q f=>bI (d q f) a⟩
theorem Bo.keep{base kb g:Nat}{st:aQ}{w w':World}(h:Bo base kb g st w)(a:∀b,base≤b→b<w.heap.size→w'.heap[b]?=w.heap[b]?):Bo base kb g st w':=by
 obtain⟨c,f,vW,vC,i,j,d,k,l,m⟩:=h;exact⟨c,f,vW,vC,i,j,(a kb c (lt_of_block d)).trans d,k.keep a,l.keep a,m.keep a⟩
def fY(i:Int)(a:Int)(r:Nat→Int):Int:=if r 1=i then(if r 4=4 then 2 else if r 4=6 then 3 else 1)else a
def nV(l:List (Nat→Int))(i:Int):Int:=l.foldl (fY i) 1
def dC:cQ:=⟨0,0,0,-1,false⟩
def jY(a:List (Nat→Int))(i:Nat)(p:Pt):fF:=⟨nV a i,List.replicate p.words.toNat 0,List.replicate p.procs.length dC,0⟩
def kI(a:List (Nat→Int))(b:List Pt):Nat→List fF
 | 0=>[]
 | k+1=>kI a b k++(match b[k]? with | some p=>[jY a k p] | none=>[])
def cJ(cf:Cf)(bs:List Int):aQ:=⟨cf,kI (bT bs) cf.parts cf.parts.length,List.replicate cf.chans.length [],0,false⟩
theorem Tryz.info198:(Tryz.prog.info? 198).map (fun i=>(i.zero,i.size,i.bytes))=some (some (.agg #[.int .i64 0,.slice none 0 0,.slice none 0 0,.int .i64 0]),4,64):=by kernel_rfl
theorem Tryz.info200:(Tryz.prog.info? 200).map (fun i=>(i.zero,i.size,i.bytes))=some (some (.agg #[.int .i64 0,.int .i64 0,.int .i64 0,.int .i64 0,.bool false]),5,40):=by kernel_rfl
theorem uD(n:Nat):(madeCells #[Value.int .i64 0] n).toList=(List.replicate n (0:Int)).map (Value.int .i64):=by
 apply List.ext_getElem?
 intro a;simp[madeCells]
 by_cases h:a<n
 ·simp[h,Nat.mod_one]
 ·simp[h]
theorem Gt(n:Nat):(madeCells #[Value.slice none 0 0] n).toList=List.replicate n (Value.slice none 0 0):=by
 apply List.ext_getElem?
 intro a;simp[madeCells]
 by_cases h:a<n
 ·simp[h,Nat.mod_one]
 ·simp[h]
theorem In(zs:List Int)(r:Rd):1≤(dP zs r).1.words∧(dP zs r).1.words≤16:=jF zs 1 16 _ (by omega)
theorem iE{base:Nat}{v:Value}{l:List (Nat→Int)}{w:World}(h:dM base v l w):∃ad c,v=.slice ad l.length c∧∀i r,l[i]?=some r→∃g,ad=some ⟨g,0,none⟩∧g<w.heap.size∧w.cell? ⟨g,i*5,none⟩=some (.int .i64 (r 0))∧w.cell? ⟨g,i*5+1,none⟩=some (.int .i64 (r 1))∧w.cell? ⟨g,i*5+2,none⟩=some (.int .i64 (r 2))∧w.cell? ⟨g,i*5+3,none⟩=some (.int .i64 (r 3))∧w.cell? ⟨g,i*5+4,none⟩=some (.int .i64 (r 4)):=by
 obtain⟨ad,c,rfl,b⟩:=oO h;refine⟨ad,c,rfl,fun i r d=>?_⟩;obtain⟨g,f,a,j⟩:=b i r d;exact⟨g,f,aN a,a,j⟩
theorem yB(base:Nat)(v:Value)(l:List (Nat→Int))(i:Nat)(w:World)(a0:l.length≤100)(B:dM base v l w):
 Calls Tryz.prog 52 #[v,.int .i64 i] w fun e w'=>e=.returned (.int .i64 (nV l i))∧Below w.heap.size w w':=by
 obtain⟨ad,c,rfl,C⟩:=iE B;have M:=aI C;have N:Hid (nV l i=l.foldl (fY i) 1):=rfl;generalize D:l.length=u at *;have E:=aI D;clear C D B
 go_enter Tryz.func52,Tryz.ntmps52
 go_wp2
 go_loopw [5,10] (fun n t wr=>∃ (k:Nat),k≤u∧t=.int .i64 k∧n=.int .i64 ((l.take k).foldl (fY i) 1)∧Below w.heap.size w wr) (fun _ t _=>u-(intOf t).toNat)
 case atStart=>exact⟨0,by omega,rfl,rfl,Below.refl _ _⟩
 case round=>
  obtain⟨k,a1,rfl,rfl,a⟩:=hrel
  by_cases O:k<u
  ·obtain⟨r,z⟩:∃r,l[k]?=some r:=⟨l[k]'(by rw[E.out];exact O),List.getElem?_eq_getElem _⟩;obtain⟨m,P,q,F,G,H,I,J⟩:=M.out k r z;subst P;have Q:=(a.cell (p:=⟨m,k*5,none⟩) q).trans F;have R:=(a.cell (p:=⟨m,k*5+1,none⟩) q).trans G;have S:=(a.cell (p:=⟨m,k*5+2,none⟩) q).trans H;have T:=(a.cell (p:=⟨m,k*5+3,none⟩) q).trans I;have U:=(a.cell (p:=⟨m,k*5+4,none⟩) q).trans J;have d:Hid ((l.take (k+1)).foldl (fY i) 1=fY i ((l.take k).foldl (fY i) 1) r):=by
    show _=_
    rw[List.take_add_one,z,List.foldl_append];rfl
   have f:Hid (∀L,fY i L r=if r 1=i then(if r 4=4 then 2 else if r 4=6 then 3 else 1)else L):=fun n=>rfl
   have x:Hid (∀o,Below w.heap.size w (wr.alloc o)):=fun o=>a.alloc a.size o
   clear z F G H I J a;generalize (l.take k).foldl (fY i) 1=a2 at d ⊢;generalize r 0=p0 at Q;generalize r 1=p1 at R f;generalize r 2=p2 at S;generalize r 3=p3 at T;generalize r 4=g at U f
   by_cases b:p1=(i:Int)
   ·have V:(p1 != (i:Int))=false:=by simp[b]
    have W:(p1 == (i:Int))=true:=by simp[b]
    have s:=aI b;clear b
    by_cases h:g=6
    ·have X:(g == 6)=true:=by simp[h]
     have y:=aI h;clear h;go_wp2
     go_roundw
     case rel=>exact⟨k+1,by omega,by go_num,by rw[d.out,f.out,if_pos s.out,if_neg (by rw[y.out];omega),if_pos y.out],x.out _⟩
     case measure=>simp[intOf];omega
    ·have X:(g == 6)=false:=by simp[h]
     have y:=aI h;clear h
     by_cases j:g=4
     ·have Y:(g == 4)=true:=by simp[j]
      have A:=aI j;clear j;go_wp2
      go_roundw
      case rel=>exact⟨k+1,by omega,by go_num,by rw[d.out,f.out,if_pos s.out,if_pos A.out],x.out _⟩
      case measure=>simp[intOf];omega
     ·have Y:(g == 4)=false:=by simp[j]
      have A:=aI j;clear j;go_wp2
      go_roundw
      case rel=>exact⟨k+1,by omega,by go_num,by rw[d.out,f.out,if_pos s.out,if_neg A.out,if_neg y.out],x.out _⟩
      case measure=>simp[intOf];omega
   ·have V:(p1 != (i:Int))=true:=by simp[b]
    have W:(p1 == (i:Int))=false:=by simp[b]
    have s:=aI b;clear b;go_wp2
    go_roundw
    case rel=>exact⟨k+1,by omega,by go_num,by rw[d.out,f.out,if_neg s.out],x.out _⟩
    case measure=>simp[intOf];omega
  ·obtain rfl:k=u:=by omega
   have d:Hid (l.take k=l):=by show _=_;rw[←E.out];exact List.take_length
   have Z:=aI a;clear a;go_wp2
   go_ret
   exact⟨rC (by rw[N.out,d.out]),Z.out⟩
theorem Ni(a:Int)(w:World):Calls Tryz.prog 174 #[.int .i64 a] w fun e w'=>e=.returned (.bool false)∧w'=w:=by
 have h:(a != a)=false:=by simp
 go_enter Tryz.func174,Tryz.ntmps174
 go_wp2
 go_ret
 exact⟨rfl,rfl⟩
theorem Gz(a b:Int)(w:World):Calls Tryz.prog 130 #[.int .i64 a,.int .i64 b] w fun e w'=>e=.returned (.int .i64 (if a<b then -1 else if b<a then 1 else 0))∧w'=w:=by
 have c:=aI Ni
 by_cases d:a<b
 ·rw[if_pos d]
  go_enter Tryz.func130,Tryz.ntmps130
  go_wp2_with (go_at_call 174;refine(c.out _ _).mono ?_;rintro e w' ⟨rfl,rfl⟩)
  go_ret
  exact⟨rfl,rfl⟩
 ·rw[if_neg d]
  by_cases f:b<a
  ·rw[if_pos f]
   go_enter Tryz.func130,Tryz.ntmps130
   go_wp2_with (go_at_call 174;refine(c.out _ _).mono ?_;rintro e w' ⟨rfl,rfl⟩)
   go_ret
   exact⟨rfl,rfl⟩
  ·rw[if_neg f]
   go_enter Tryz.func130,Tryz.ntmps130
   go_wp2_with (go_at_call 174;refine(c.out _ _).mono ?_;rintro e w' ⟨rfl,rfl⟩)
   go_ret
   exact⟨rfl,rfl⟩
theorem Ib(a:Int)(w:World):Calls Tryz.prog 92 #[.int .i64 a] w fun e w'=>e=.returned (.int .i64 0)∧w'=w:=by
 go_enter Tryz.func92,Tryz.ntmps92
 go_wp2
 go_ret
 exact⟨rfl,rfl⟩
structure sZ(w:World)(pb:Nat)(q n c:Nat)(prio:Nat→Int):Prop where
 box:w.cell? ⟨pb,0,none⟩=some (.slice (some ⟨q,0,none⟩) n c)
 cell:∀k,k<n→w.cell? ⟨q,k*2,none⟩=some (.int .i64 (prio k))
theorem sZ.below{w w':World}{pb q n c:Nat}{prio:Nat→Int}(h:sZ w pb q n c prio){B:Nat}(a:Below B w w')(b:pb<B)(d:q<B):sZ w' pb q n c prio:=
 ⟨(a.cell (p:=⟨pb,0,none⟩) b).trans h.box,fun k f=>(a.cell (p:=⟨q,k*2,none⟩) d).trans (h.cell k f)⟩
theorem Ft(pb q n c:Nat)(prio:Nat→Int)(a b:Nat)(w:World)(d:a<n)(f:b<n)(h:sZ w pb q n c prio):
 Calls Tryz.prog 129 #[.int .i64 a,.int .i64 b,.pointer (some ⟨pb,0,none⟩)] w fun e w'=>e=.returned (.int .i64 (if prio b<prio a then -1 else if prio a<prio b then 1 else 0))∧∃g,w'=w.drewN g:=by
 have i:=h.box;have c1:=h.cell a d;have c2:=h.cell b f;clear h;generalize prio a=j at *;generalize prio b=k at *
 go_enter Tryz.func129,Tryz.ntmps129
 go_wp2_with fail
 go_quiet ((go_at_call 130;exact Calls.quiet_of_same (Gz _ _ _)))
 go_wp2
 all_goals
  go_ret
  exact⟨rfl,_,rfl⟩
theorem Eo(x pb:Nat)(w:World):
 Calls Tryz.prog 200 #[.slice (some ⟨x,0,none⟩) 1 1,.int .i64 0,.int .i64 1,.func (.func 129) #[] #[.pointer (some ⟨pb,0,none⟩)]] w fun e w'=>(∃v,e=.returned v)∧w'=w:=by
 go_enter Tryz.func200,Tryz.ntmps200
 go_wp2
 go_loopw [8] (fun i wr=>i=.int .i64 1∧w=wr) (fun _ _=>0)
 case atStart=>exact⟨rfl,rfl⟩
 case round=>
  obtain⟨rfl,rfl⟩:=hrel;go_wp2
  go_end0
  exact⟨⟨_,rfl⟩,rfl⟩
def iU(prio:Nat→Int):Bool:=decide (prio 0<prio 1)
def zC(b:Bool):Array Value:=if b then #[.int .i64 1,.int .i64 0]else #[.int .i64 0,.int .i64 1]
theorem Fi(x pb q c:Nat)(prio:Nat→Int)(w:World)(h:sZ w pb q 2 c prio)(r:w.heap[x]?=some (.cells #[.int .i64 0,.int .i64 1] 3 (0,0))):
 Calls Tryz.prog 200 #[.slice (some ⟨x,0,none⟩) 2 2,.int .i64 0,.int .i64 2,.func (.func 129) #[] #[.pointer (some ⟨pb,0,none⟩)]] w fun e w'=>(∃v,e=.returned v)∧w'.heap[x]?=some (.cells (zC (iU prio)) 3 (0,0))∧aH (·=x) w w':=by
 have a:=aI r;have u:Hid (∀W,sZ W pb q 2 c prio→Calls Tryz.prog 129 #[.int .i64 1,.int .i64 0,.pointer (some ⟨pb,0,none⟩)] W fun e w'=>e=.returned (.int .i64 (if prio 0<prio 1 then -1 else if prio 1<prio 0 then 1 else 0))∧∃m,w'=W.drewN m):=fun W y=>Ft pb q 2 c prio 1 0 W (by omega) (by omega) y
 have s:=aI h;clear h r
 go_enter Tryz.func200,Tryz.ntmps200
 go_wp2
 go_loopw [8] (fun i wr=>(i=.int .i64 1∧w=wr)∨(i=.int .i64 2∧wr.heap[x]?=some (.cells (zC (iU prio)) 3 (0,0))∧aH (·=x) w wr)) (fun i _=>2-(intOf i).toNat)
 case atStart=>exact .inl ⟨rfl,rfl⟩
 case round=>
  rcases hrel with⟨rfl,rfl⟩| ⟨rfl,f,g⟩
  ·have A:w.cell? ⟨x,0,none⟩=some (.int .i64 0):=aD a.out;have B:w.cell? ⟨x,1,none⟩=some (.int .i64 1):=aD a.out;have C:=aJ a.out 0;have D:=aJ a.out 1;go_wp2
   go_loopw [9] (fun k o=>(k=.int .i64 1∧w=o)∨(k=.int .i64 0∧iU prio=true∧o.heap[x]?=some (.cells (zC (iU prio)) 3 (0,0))∧aH (·=x) w o)) (fun k _=>(intOf k).toNat)
   case atStart=>exact .inl ⟨rfl,rfl⟩
   case round=>
    rcases hrel with⟨rfl,rfl⟩| ⟨rfl,E,f,g⟩
    ·have j:Hid (∀n,Calls Tryz.prog 129 #[.int .i64 1,.int .i64 0,.pointer (some ⟨pb,0,none⟩)] (w.drewN n) fun e w'=>e=.returned (.int .i64 (if prio 0<prio 1 then -1 else if prio 1<prio 0 then 1 else 0))∧∃m,w'=(w.drewN n).drewN m):=fun n=>u.out _ ⟨s.out.box,s.out.cell⟩
     by_cases d:prio 0<prio 1
     ·rw[if_pos d]at j;have l:Hid (iU prio=true):=decide_eq_true d;clear d;go_wp2_with fail
      go_quiet ((go_at_call 129;exact Calls.quiet_of (j.out _)))
      go_wp2_with fail
      go_region
      all_goals
       go_wp2
       refine⟨.inr ⟨rfl,l.out,?_,?_⟩,by simp[intOf]⟩
       ·rw[l.out]
        first| exact aK (aK (show(w.drewN _).heap[x]?=_ from a.out) 1 _) 0 _| exact aK (aK (show(w.drewN _).heap[x]?=_ from a.out) 0 _) 1 _
       ·exact aH.trans (T:=(·=x)) (aH.trans (T:=(·=x)) (aH.ofBelow (S:=(·=x)) (below_drewN (Below.refl _ _) _)) (aH.ofSet _ _ _ _ rfl) (fun _ h=>.inl h)) (aH.ofSet _ _ _ _ rfl) (fun _ h=>.inl h)
     ·rw[if_neg d]at j;have l:Hid (iU prio=false):=decide_eq_false d;clear d;have z:¬ (if prio 1<prio 0 then(1:Int)else 0)<0:=by split<;>omega
      generalize (if prio 1<prio 0 then(1:Int)else 0)=F at j z;go_wp2_with fail
      go_quiet ((go_at_call 129;exact Calls.quiet_of (j.out _)))
      go_wp2
      refine⟨.inr ⟨rfl,?_,aH.ofBelow (below_drewN (Below.refl _ _) _)⟩,by simp[intOf]⟩;rw[l.out];exact a.out
    ·have p:=aI f;have b:=aI g;clear f g;go_wp2_with fail
     go_quiet (fail)
     go_wp2
     exact⟨.inr ⟨rfl,p.out,⟨b.out.os,b.out.tape,b.out.output,b.out.size,b.out.block⟩⟩,by simp[intOf]⟩
  ·have p:=aI f;have b:=aI g;clear f g;go_wp2
   go_end0
   exact⟨⟨_,rfl⟩,p.out,b.out⟩
theorem Nh(x pb:Nat)(w:World):
 Calls Tryz.prog 128 #[.slice (some ⟨x,0,none⟩) 1 1,.func (.func 129) #[] #[.pointer (some ⟨pb,0,none⟩)]] w fun e w'=>(∃v,e=.returned v)∧w'=w:=by
 have g:=aI (Eo x pb w);have h:Hid (Calls Tryz.prog 173 #[.slice (some ⟨x,0,none⟩) 1 1,.int .i64 1,.func (.func 129) #[] #[.pointer (some ⟨pb,0,none⟩)]] w fun e w'=>(∃v,e=.returned v)∧w'=w):=by
  show Calls _ _ _ _ _
  go_enter Tryz.func173,Tryz.ntmps173
  go_wp2
  go_loopw [7,8] (fun a b wr=>a=.int .i64 0∧b=.int .i64 20∧w=wr) (fun _ _ _=>0)
  case atStart=>exact⟨rfl,rfl,rfl⟩
  case round=>
   obtain⟨rfl,rfl,rfl⟩:=hrel;go_wp2_with fail
   refine g.out.mono ?_;rintro e f ⟨⟨v,rfl⟩,c⟩;have d:=aI c;clear c;go_wp2
   go_loopw [6] (fun b wr=>b=.int .i64 20∧f=wr) (fun _ _=>0)
   case atStart=>exact⟨rfl,rfl⟩
   case round=>
    obtain⟨rfl,rfl⟩:=hrel;go_wp2
    go_end0
    exact⟨⟨_,rfl⟩,d.out⟩
 go_enter Tryz.func128,Tryz.ntmps128
 go_wp2_with fail
 refine h.out.mono ?_;rintro e f ⟨⟨v,rfl⟩,c⟩;have d:=aI c;clear c;go_wp2
 go_end0
 exact⟨⟨_,rfl⟩,d.out⟩
theorem Oq(x pb q c:Nat)(prio:Nat→Int)(w:World)(h:sZ w pb q 2 c prio)(i:w.heap[x]?=some (.cells #[.int .i64 0,.int .i64 1] 3 (0,0))):
 Calls Tryz.prog 128 #[.slice (some ⟨x,0,none⟩) 2 2,.func (.func 129) #[] #[.pointer (some ⟨pb,0,none⟩)]] w fun e w'=>(∃v,e=.returned v)∧w'.heap[x]?=some (.cells (zC (iU prio)) 3 (0,0))∧aH (·=x) w w':=by
 have j:=aI (Fi x pb q c prio w h i);have k:Hid (Calls Tryz.prog 173 #[.slice (some ⟨x,0,none⟩) 2 2,.int .i64 2,.func (.func 129) #[] #[.pointer (some ⟨pb,0,none⟩)]] w fun e w'=>(∃v,e=.returned v)∧w'.heap[x]?=some (.cells (zC (iU prio)) 3 (0,0))∧aH (·=x) w w'):=by
  show Calls _ _ _ _ _
  go_enter Tryz.func173,Tryz.ntmps173
  go_wp2
  go_loopw [7,8] (fun a b wr=>a=.int .i64 0∧b=.int .i64 20∧w=wr) (fun _ _ _=>0)
  case atStart=>exact⟨rfl,rfl,rfl⟩
  case round=>
   obtain⟨rfl,rfl,rfl⟩:=hrel;go_wp2_with fail
   refine j.out.mono ?_;rintro e g ⟨⟨v,rfl⟩,d⟩;have f:=aI d;clear d;go_wp2
   go_loopw [6] (fun b wr=>b=.int .i64 20∧g=wr) (fun _ _=>0)
   case atStart=>exact⟨rfl,rfl⟩
   case round=>
    obtain⟨rfl,rfl⟩:=hrel;go_wp2
    go_end0
    exact⟨⟨_,rfl⟩,f.out⟩
 go_enter Tryz.func128,Tryz.ntmps128
 go_wp2_with fail
 refine k.out.mono ?_;rintro e g ⟨⟨v,rfl⟩,d⟩;have f:=aI d;clear d;go_wp2
 go_end0
 exact⟨⟨_,rfl⟩,f.out⟩
structure El where
 i:Nat→Int
 b:Bool
 ad:Nat→Option Addr
 n:Nat→Nat
 c:Nat→Nat
 ch:Option Nat
def Rz(x:Int):List Value:=[.int .i64 x]
def vH(l:List Int):List Value:=l.flatMap Rz
theorem Do(many:Nat)(O:many≤255)(S:Nat→Prop)(w:World)(z:∀b,S b→b<w.heap.size)(a:Nat→List Int→World→Prop)
 (A:∀c l wr w',a c l wr→aH (fun b=>w.heap.size≤b∧b<w.heap.size+3) wr w'→a c l w')
 (B:∀c l wr,c<many→a c l wr→w.heap.size+3≤wr.heap.size→Calls Tryz.prog 92 #[.int .i64 c] wr fun e w'=>∃x:Int,e=.returned (.int .i64 x)∧a (c+1) (l++[x]) w'∧aH S wr w')
 (C:a 0 [] w):Calls Tryz.prog 91 #[.int .i64 many,.func (.func 92) #[] #[]] w fun e w'=>∃x l,e=.returned (.agg #[.slice (some ⟨x,0,none⟩) many many])∧a many l w'∧l.length=many∧w'.ownsRow w.heap.size 3 1 (.slice (some ⟨x,0,none⟩) many many) many (vH l):=by
 obtain⟨Q,R,T,U,V⟩:=info_parts Tryz.info3;have X:∀W:World,(Instr.makeSlice 40 (.int .i64 (many:Int)) (.int .i64 (many:Int))).run Tryz.prog W=.ok (.slice (some ⟨W.heap.size,0,none⟩) many many) (W.alloc (.cells (madeCells #[.int .i64 0] (many*1)) 3)):=by
  intro W;have:=run_make (P:=Tryz.prog) (w:=W) 40 3 Q _ Tryz.underlying40 R T .i64 .i64 (many:Int) (many:Int) (by omega) (by omega) (by rw[V];omega) (by omega)
  simpa[U,Value.cells]using this
 generalize D:madeCells #[.int .i64 0] (many*1)=u at X;have E:u.size=many*1:=by rw[←D];simp[madeCells]
 have o:=aI A;have Y:=aI z;have Z:=aI B;have a0:=aI C;clear A z B C D;have a1:=aI (nF w 115 3 1 many u O E)
 go_enter Tryz.func91,Tryz.ntmps91
 go_wp2
 go_loopw [13] (fun t wr=>∃ (k:Nat) (l:List Int) (d:List Value),k≤many∧t=.int .i64 k∧l.length=k∧a k l wr∧w.heap.size+3≤wr.heap.size∧wr.heap[w.heap.size]?=some (.cells #[.slice none 0 0] 115 (0,0))∧wr.heap[w.heap.size+2]?=some (.cells #[.slice (some ⟨w.heap.size+1,0,none⟩) many many] 115 (0,0))∧wr.ownsRow w.heap.size 3 1 (.slice (some ⟨w.heap.size+1,0,none⟩) many many) many (vH l++d)∧d.length=(many-k)*1) (fun t _=>many-(intOf t).toNat)
 case atStart=>
  obtain⟨a2,b4,a3,a4,p⟩:=a1.out _ rfl;exact⟨0,[],u.toList,by omega,rfl,rfl,o.out _ _ _ _ a0.out (a2.mono (fun _ h=>h.elim)),by omega,a3,a4,p,by simp[E]⟩
 case round=>
  obtain⟨k,l,d,b5,rfl,j,q,a5,g,r,i,m⟩:=hrel;have b6:wr.cell? ⟨w.heap.size+2,0,none⟩=some (.slice (some ⟨w.heap.size+1,0,none⟩) many many):=aD r
  by_cases F:k<many
  ·have a6:=aI (Z.out k l wr.drew F (o.out _ _ _ _ q ⟨rfl,rfl,rfl,Nat.le_refl _,fun _ _ _=>rfl⟩) (by show w.heap.size+3≤wr.heap.size;omega));have G:=aI (lM Rz 1 (fun _=>rfl) 115 3 w many k S Y.out a o.out l d wr F j a5 g r i m);rw[Nat.mul_one]at G;have a7:Hid ((d.drop 1).length=(many-(k+1))*1):=by show _=_;rw[List.length_drop,m];omega
   have a8:Hid (∀x:Int,(l++[x]).length=k+1):=fun x=>by rw[List.length_append,j];rfl
   clear q g r i j m;go_wp2_with fail
   go_region_law (go_simp;(with_reducible show Calls Tryz.prog 92 _ _ _);refine a6.out.mono ?_;rintro e H ⟨x,rfl,I,J⟩;obtain⟨b7,⟨a9,L⟩,M,p⟩:=G.out x H I J;have n:=aI p;have b8:H.cell? ⟨w.heap.size+1,k,none⟩=some (a9 0):=L 0 (by omega);have b9:=M k;clear I J L M p)
   all_goals (
    go_wp2
    go_roundw
    case rel=>exact⟨k+1,l++[x],d.drop 1,by omega,by go_num,a8.out x,n.out.1,n.out.2.1,n.out.2.2.1,n.out.2.2.2.1,n.out.2.2.2.2,a7.out⟩
    case measure=>simp[intOf];omega)
  ·obtain rfl:k=many:=by omega
   obtain rfl:d=[]:=List.eq_nil_of_length_eq_zero (by rw[m,Nat.sub_self,Nat.zero_mul]);rw[List.append_nil]at i;have c0:wr.cell? ⟨w.heap.size,0,none⟩=some (.slice none 0 0):=aD g;have c1:=aJ g 0;obtain⟨f,s⟩:∃f,f=wr.setCell ⟨w.heap.size,0,none⟩ (.slice (some ⟨w.heap.size+1,0,none⟩) k k):=⟨_,rfl⟩;have N:f.heap[w.heap.size]?=some (.cells #[.slice (some ⟨w.heap.size+1,0,none⟩) k k] 115 (0,0)):=by rw[s];exact aK g 0 _
   have b0:f.cell? ⟨w.heap.size,0,none⟩=some (.slice (some ⟨w.heap.size+1,0,none⟩) k k):=aD N;have y:aH (·=w.heap.size) wr f:=by rw[s];exact aH.ofSet _ _ _ _ rfl
   have b1:Hid (a k l f∧l.length=k∧f.ownsRow w.heap.size 3 1 (.slice (some ⟨w.heap.size+1,0,none⟩) k k) k (vH l)):=⟨o.out _ _ _ _ q (y.mono (fun b b2=>by rw[b2];omega)),j,aO i (fun b e=>y.block b (World.ownsRow.lt i b e).2 (by simp[Value.ownBlock]at e;omega))⟩;have b3:=aI s;clear q g r i j m N y s;go_wp2
   rw[←b3.out];refine bodyPost_ret (v:=.agg #[.slice (some ⟨w.heap.size+1,0,none⟩) k k]) (by simp[results,Tryz.results91,go_sem,b0]) rfl ?_;exact⟨_,l,rfl,b1.out⟩
theorem tM(cb:Nat)(many:Nat)(O:many≤255)(S:Nat→Prop)(w:World)(z:∀b,S b→b<w.heap.size)(a:Nat→List Int→World→Prop)
 (A:∀c l wr w',a c l wr→aH (fun b=>w.heap.size≤b∧b<w.heap.size+3) wr w'→a c l w')
 (B:∀c l wr,c<many→a c l wr→w.heap.size+3≤wr.heap.size→Calls Tryz.prog 131 #[.int .i64 c,.pointer (some ⟨cb,0,none⟩)] wr fun e w'=>∃x:Int,e=.returned (.int .i64 x)∧a (c+1) (l++[x]) w'∧aH S wr w')
 (C:a 0 [] w):Calls Tryz.prog 91 #[.int .i64 many,.func (.func 131) #[] #[.pointer (some ⟨cb,0,none⟩)]] w fun e w'=>∃x l,e=.returned (.agg #[.slice (some ⟨x,0,none⟩) many many])∧a many l w'∧l.length=many∧w'.ownsRow w.heap.size 3 1 (.slice (some ⟨x,0,none⟩) many many) many (vH l):=by
 obtain⟨Q,R,T,U,V⟩:=info_parts Tryz.info3;have X:∀W:World,(Instr.makeSlice 40 (.int .i64 (many:Int)) (.int .i64 (many:Int))).run Tryz.prog W=.ok (.slice (some ⟨W.heap.size,0,none⟩) many many) (W.alloc (.cells (madeCells #[.int .i64 0] (many*1)) 3)):=by
  intro W;have:=run_make (P:=Tryz.prog) (w:=W) 40 3 Q _ Tryz.underlying40 R T .i64 .i64 (many:Int) (many:Int) (by omega) (by omega) (by rw[V];omega) (by omega)
  simpa[U,Value.cells]using this
 generalize D:madeCells #[.int .i64 0] (many*1)=u at X;have E:u.size=many*1:=by rw[←D];simp[madeCells]
 have o:=aI A;have Y:=aI z;have Z:=aI B;have a0:=aI C;clear A z B C D;have a1:=aI (nF w 115 3 1 many u O E)
 go_enter Tryz.func91,Tryz.ntmps91
 go_wp2
 go_loopw [13] (fun t wr=>∃ (k:Nat) (l:List Int) (d:List Value),k≤many∧t=.int .i64 k∧l.length=k∧a k l wr∧w.heap.size+3≤wr.heap.size∧wr.heap[w.heap.size]?=some (.cells #[.slice none 0 0] 115 (0,0))∧wr.heap[w.heap.size+2]?=some (.cells #[.slice (some ⟨w.heap.size+1,0,none⟩) many many] 115 (0,0))∧wr.ownsRow w.heap.size 3 1 (.slice (some ⟨w.heap.size+1,0,none⟩) many many) many (vH l++d)∧d.length=(many-k)*1) (fun t _=>many-(intOf t).toNat)
 case atStart=>
  obtain⟨a2,b4,a3,a4,p⟩:=a1.out _ rfl;exact⟨0,[],u.toList,by omega,rfl,rfl,o.out _ _ _ _ a0.out (a2.mono (fun _ h=>h.elim)),by omega,a3,a4,p,by simp[E]⟩
 case round=>
  obtain⟨k,l,d,b5,rfl,j,q,a5,g,r,i,m⟩:=hrel;have b6:wr.cell? ⟨w.heap.size+2,0,none⟩=some (.slice (some ⟨w.heap.size+1,0,none⟩) many many):=aD r
  by_cases F:k<many
  ·have a6:=aI (Z.out k l wr.drew F (o.out _ _ _ _ q ⟨rfl,rfl,rfl,Nat.le_refl _,fun _ _ _=>rfl⟩) (by show w.heap.size+3≤wr.heap.size;omega));have G:=aI (lM Rz 1 (fun _=>rfl) 115 3 w many k S Y.out a o.out l d wr F j a5 g r i m);rw[Nat.mul_one]at G;have a7:Hid ((d.drop 1).length=(many-(k+1))*1):=by show _=_;rw[List.length_drop,m];omega
   have a8:Hid (∀x:Int,(l++[x]).length=k+1):=fun x=>by rw[List.length_append,j];rfl
   clear q g r i j m;go_wp2_with fail
   go_region_law (go_simp;(with_reducible show Calls Tryz.prog 131 _ _ _);refine a6.out.mono ?_;rintro e H ⟨x,rfl,I,J⟩;obtain⟨b7,⟨a9,L⟩,M,p⟩:=G.out x H I J;have n:=aI p;have b8:H.cell? ⟨w.heap.size+1,k,none⟩=some (a9 0):=L 0 (by omega);have b9:=M k;clear I J L M p)
   all_goals (
    go_wp2
    go_roundw
    case rel=>exact⟨k+1,l++[x],d.drop 1,by omega,by go_num,a8.out x,n.out.1,n.out.2.1,n.out.2.2.1,n.out.2.2.2.1,n.out.2.2.2.2,a7.out⟩
    case measure=>simp[intOf];omega)
  ·obtain rfl:k=many:=by omega
   obtain rfl:d=[]:=List.eq_nil_of_length_eq_zero (by rw[m,Nat.sub_self,Nat.zero_mul]);rw[List.append_nil]at i;have c0:wr.cell? ⟨w.heap.size,0,none⟩=some (.slice none 0 0):=aD g;have c1:=aJ g 0;obtain⟨f,s⟩:∃f,f=wr.setCell ⟨w.heap.size,0,none⟩ (.slice (some ⟨w.heap.size+1,0,none⟩) k k):=⟨_,rfl⟩;have N:f.heap[w.heap.size]?=some (.cells #[.slice (some ⟨w.heap.size+1,0,none⟩) k k] 115 (0,0)):=by rw[s];exact aK g 0 _
   have b0:f.cell? ⟨w.heap.size,0,none⟩=some (.slice (some ⟨w.heap.size+1,0,none⟩) k k):=aD N;have y:aH (·=w.heap.size) wr f:=by rw[s];exact aH.ofSet _ _ _ _ rfl
   have b1:Hid (a k l f∧l.length=k∧f.ownsRow w.heap.size 3 1 (.slice (some ⟨w.heap.size+1,0,none⟩) k k) k (vH l)):=⟨o.out _ _ _ _ q (y.mono (fun b b2=>by rw[b2];omega)),j,aO i (fun b e=>y.block b (World.ownsRow.lt i b e).2 (by simp[Value.ownBlock]at e;omega))⟩;have b3:=aI s;clear q g r i j m N y s;go_wp2
   rw[←b3.out];refine bodyPost_ret (v:=.agg #[.slice (some ⟨w.heap.size+1,0,none⟩) k k]) (by simp[results,Tryz.results91,go_sem,b0]) rfl ?_;exact⟨_,l,rfl,b1.out⟩
theorem sU(cb x n a:Nat)(val:Int)(w:World)(b:w.cell? ⟨cb,0,none⟩=some (.slice (some ⟨x,0,none⟩) n n))(c:w.cell? ⟨x,a,none⟩=some (.int .i64 val))(d:a<n):
 Calls Tryz.prog 131 #[.int .i64 a,.pointer (some ⟨cb,0,none⟩)] w fun e w'=>e=.returned (.int .i64 val)∧w'=w:=by
 go_enter Tryz.func131,Tryz.ntmps131
 go_wp2
 go_ret
 exact⟨rfl,rfl⟩
theorem aT{w w':World}{b:Nat}(h:w'.heap[b]?=w.heap[b]?)(o:Nat):w'.cell? ⟨b,o,none⟩=w.cell? ⟨b,o,none⟩:=World.cell?_of_block h
def fM(n:Nat)(prio:Nat→Int):List Int:=if n=1 then [0]else if iU prio then [1,0]else [0,1]
theorem Qm(prio:Nat→Int):zC (iU prio)=((fM 2 prio).map (Value.int .i64)).toArray:=by
 unfold zC fM;cases iU prio<;>rfl
theorem mK(n:Nat)(prio:Nat→Int)(h:n=1∨n=2):(fM n prio).length=n:=by
 rcases h with rfl| rfl
 ·rfl
 ·unfold fM;cases iU prio<;>rfl
theorem xU(l:List Int):vH l=l.map (Value.int .i64):=by
 induction l with
 | nil=>rfl
 | cons a l ih=>show Rz a++vH l=_;rw[ih];rfl
theorem Hg(q c:Nat)(prio:Nat→Int)(w:World)(y:∀k,k<1→w.cell? ⟨q,k*2,none⟩=some (.int .i64 (prio k))):
 Calls Tryz.prog 95 #[.slice (some ⟨q,0,none⟩) 1 c] w fun e w'=>∃x,e=.returned (.agg #[.slice (some ⟨x,0,none⟩) 1 1])∧w'.ownsRow w.heap.size 3 1 (.slice (some ⟨x,0,none⟩) 1 1) 1 ((fM 1 prio).map (Value.int .i64))∧Below w.heap.size w w':=by
 obtain⟨Y,o,Z,a0,a1⟩:=info_parts Tryz.info3;have a2:∀W:World,(Instr.makeSlice 40 (.int .i64 1) (.int .i64 1)).run Tryz.prog W=.ok (.slice (some ⟨W.heap.size,0,none⟩) 1 1) (W.alloc (.cells #[.int .i64 0] 3)):=by
  intro W;have:=run_make (P:=Tryz.prog) (w:=W) 40 3 Y _ Tryz.underlying40 o Z .i64 .i64 1 1 (by omega) (by omega) (by rw[a1];omega) (by omega);have a3:madeCells #[Value.int .i64 0] 1=#[.int .i64 0]:=by apply Array.ext';rw[uD];rfl
  simpa[a0,Value.cells,a3]using this
 have b8:=aI a2;obtain⟨a,f⟩:∃a,a=(((w.alloc (.cells #[.slice (some ⟨q,0,none⟩) 1 c] 122)).alloc (.cells #[.slice none 0 0] 115)).alloc (.cells #[.int .i64 0] 3)).alloc (.cells #[.slice (some ⟨w.heap.size+1+1,0,none⟩) 1 1] 40):=⟨_,rfl⟩;have E:a.heap.size=w.heap.size+4:=by rw[f];simp
 have F:a.heap[w.heap.size]?=some (.cells #[.slice (some ⟨q,0,none⟩) 1 c] 122 (0,0)):=by rw[f,Below.heap_alloc _ _ _ (by simp;omega),Below.heap_alloc _ _ _ (by simp;omega),Below.heap_alloc _ _ _ (by simp)];exact cG rfl
 have G:a.heap[w.heap.size+1]?=some (.cells #[.slice none 0 0] 115 (0,0)):=by rw[f,Below.heap_alloc _ _ _ (by simp),Below.heap_alloc _ _ _ (by simp)];exact cG (by simp)
 have H:a.heap[w.heap.size+2]?=some (.cells #[.int .i64 0] 3 (0,0)):=by rw[f,Below.heap_alloc _ _ _ (by simp)];exact cG (by simp)
 have z:a.heap[w.heap.size+3]?=some (.cells #[.slice (some ⟨w.heap.size+2,0,none⟩) 1 1] 40 (0,0)):=by rw[f];exact cG (by simp)
 have A:Below w.heap.size w a:=by rw[f];exact(((aG _ _).alloc (by simp) _).alloc (by simp;omega) _).alloc (by simp;omega) _
 have a4:Hid (∀W,aH (fun b=>w.heap.size+1≤b) a W→∀k,k<1→W.cell? ⟨q,k*2,none⟩=some (.int .i64 (prio k))):=fun W a5 k d=>by
  have a6:q<w.heap.size:=aN (y k d);rw[World.cell?_of_block (w:=a) (a5.block q (by omega) (by omega)),World.cell?_of_block (w:=w) (A.block q a6)];exact y k d
 have a7:=aI F;have a8:=aI G;have a9:=aI H;have b9:=aI z;have b0:=aI A;have b1:=aI f;have I:=aI E;have J:a.cell? ⟨w.heap.size+1+1+1,0,none⟩=some (.slice (some ⟨w.heap.size+1+1,0,none⟩) 1 1):=aD z;clear y F G H z A f E
 go_enter Tryz.func95,Tryz.ntmps95
 go_wp2_with fail
 rw[←b1.out];go_wp2
 go_loopw [10] (fun t wr=>aH (·=w.heap.size+2) a wr∧((t=.int .i64 0∧wr.heap[w.heap.size+2]?=some (.cells #[.int .i64 0] 3 (0,0)))∨(t=.int .i64 1∧wr.heap[w.heap.size+2]?=some (.cells #[.int .i64 0] 3 (0,0))))) (fun t _=>1-(intOf t).toNat)
 case atStart=>exact⟨aH.refl _ _,.inl ⟨rfl,a9.out⟩⟩
 case round=>
  obtain⟨g,hrel⟩:=hrel;have L:wr.cell? ⟨w.heap.size+1+1+1,0,none⟩=some (.slice (some ⟨w.heap.size+1+1,0,none⟩) 1 1):=(aT (g.block (w.heap.size+1+1+1) (by have:=I.out;omega) (by omega)) 0).trans J;clear J;rcases hrel with⟨rfl,d⟩| ⟨rfl,d⟩
  ·have c0:wr.cell? ⟨w.heap.size+2,0,none⟩=some (.int .i64 0):=aD d;have ff:=aJ d 0;have M:=aI d;have B:=aI g;clear d g;go_wp2
   go_roundw
   case rel=>exact⟨B.out.thenSet _ _ rfl,.inr (⟨by rfl,aK M.out 0 _⟩)⟩
   case measure=>simp[intOf]
  ·have M:=aI d;have c1:=I.out;have c2:=g.size;have b2:sZ wr w.heap.size q 1 c prio:=⟨by rw[cell_of_row _ _ _ _ _ _ ((g.block _ (by omega) (by omega)).trans a7.out)];rfl,a4.out wr (g.mono (fun _ h=>by omega))⟩;have N:Hid (Calls Tryz.prog 128 #[.slice (some ⟨w.heap.size+1+1,0,none⟩) 1 1,.func (.func 129) #[] #[.pointer (some ⟨w.heap.size,0,none⟩)]] wr fun e w'=>(∃v,e=.returned v)∧w'.heap[w.heap.size+2]?=some (.cells ((fM 1 prio).map (Value.int .i64)).toArray 3 (0,0))∧aH (·=w.heap.size+2) wr w'):=(Nh (w.heap.size+2) w.heap.size wr).mono (fun e w' ⟨b3,O⟩=>⟨b3,by rw[O];exact d,by rw[O];exact aH.refl _ _⟩);have B:=aI g;clear d g b2;go_wp2_with fail
   refine N.out.mono ?_;rintro e p ⟨⟨c3,rfl⟩,Q,s⟩;have c4:=s.size;have R:Hid (aH (·=w.heap.size+2) a p):=B.out.andThen s;have b4:p.cell? ⟨w.heap.size+1+1+1,0,none⟩=some (.slice (some ⟨w.heap.size+1+1,0,none⟩) 1 1):=(aT (s.block (w.heap.size+1+1+1) (by omega) (by omega)) 0).trans L;have T:=aI (tM (w.heap.size+1+1+1) 1 (by omega) (fun _=>False) p (fun _ h=>h.elim) (fun m l W=>l=(fM 1 prio).take m∧aH (fun b=>p.heap.size≤b) p W) (fun m l W c5 n t=>⟨n.1,n.2.trans t (fun i o=>.inl o.1)⟩)
    (fun m l W U n c6=>by
     have V:m<(fM 1 prio).length:=by rw[mK _ _ (by omega)];exact U
     refine(sU (w.heap.size+1+1+1) (w.heap.size+2) 1 m ((fM 1 prio)[m]) W ?_ ?_ U).mono ?_
     ·exact(aT (n.2.block (w.heap.size+1+1+1) (by omega) (by omega)) 0).trans b4
     ·rw[aT (n.2.block (w.heap.size+2) (by omega) (by omega)) m,cell_of_row _ _ _ _ _ _ Q];simp[V]
     ·rintro e w' ⟨rfl,rfl⟩;exact⟨_,rfl,⟨by rw[n.1,List.take_append_getElem V],n.2⟩,aH.refl _ _⟩)
    ⟨by simp,aH.refl _ _⟩)
   clear Q s N L;go_wp2_with fail
   refine T.out.mono ?_;rintro e j ⟨x,l,rfl,⟨C,u⟩,b5,r⟩;have c7:=u.size;have D:j.heap[w.heap.size+1]?=some (.cells #[.slice none 0 0] 115 (0,0)):=(u.block _ (by omega) (by omega)).trans ((R.out.block _ (by omega) (by omega)).trans a8.out);have b6:j.cell? ⟨w.heap.size+1,0,none⟩=some (.slice none 0 0):=aD D;have c8:=aJ D 0;have c9:w.heap.size+1<j.heap.size:=by omega
   have b7:Hid ((j.setCell ⟨w.heap.size+1,0,none⟩ (.slice (some ⟨x,0,none⟩) 1 1)).ownsRow w.heap.size 3 1 (.slice (some ⟨x,0,none⟩) 1 1) 1 ((fM 1 prio).map (Value.int .i64))∧Below w.heap.size w (j.setCell ⟨w.heap.size+1,0,none⟩ (.slice (some ⟨x,0,none⟩) 1 1))):=by
    rw[List.take_of_length_le (by rw[mK _ _ (by omega)];omega)]at C;rw[C,xU]at r;have X:aH (·=w.heap.size+1) j (j.setCell ⟨w.heap.size+1,0,none⟩ (.slice (some ⟨x,0,none⟩) 1 1)):=aH.ofSet _ _ _ _ rfl;refine⟨bI (aO r (fun b e=>X.block b (World.ownsRow.lt r b e).2 (by have:=(World.ownsRow.lt r b e).1;omega))) (by omega),?_⟩;have t:aH (fun b=>w.heap.size≤b) w (j.setCell ⟨w.heap.size+1,0,none⟩ (.slice (some ⟨x,0,none⟩) 1 1)):=aH.trans (aH.trans (aH.trans (aH.ofBelow (S:=fun b=>w.heap.size≤b) b0.out) R.out (fun i o=>.inl (by omega))) u (fun i o=>.inl (by omega))) X (fun i o=>.inl (by omega));exact t.below (Nat.le_refl _) (fun k d=>d)
   clear C u b5 r D T;go_wp2
   refine bodyPost_ret (v:=.agg #[.slice (some ⟨x,0,none⟩) 1 1]) (by simp[results,Tryz.results95,go_sem,b6]) rfl ?_;exact⟨x,rfl,b7.out⟩
theorem Ke(q c:Nat)(prio:Nat→Int)(w:World)(A:∀k,k<2→w.cell? ⟨q,k*2,none⟩=some (.int .i64 (prio k))):
 Calls Tryz.prog 95 #[.slice (some ⟨q,0,none⟩) 2 c] w fun e w'=>∃x,e=.returned (.agg #[.slice (some ⟨x,0,none⟩) 2 2])∧w'.ownsRow w.heap.size 3 1 (.slice (some ⟨x,0,none⟩) 2 2) 2 ((fM 2 prio).map (Value.int .i64))∧Below w.heap.size w w':=by
 obtain⟨Y,o,Z,a0,a1⟩:=info_parts Tryz.info3;have a2:∀W:World,(Instr.makeSlice 40 (.int .i64 2) (.int .i64 2)).run Tryz.prog W=.ok (.slice (some ⟨W.heap.size,0,none⟩) 2 2) (W.alloc (.cells #[.int .i64 0,.int .i64 0] 3)):=by
  intro W;have:=run_make (P:=Tryz.prog) (w:=W) 40 3 Y _ Tryz.underlying40 o Z .i64 .i64 2 2 (by omega) (by omega) (by rw[a1];omega) (by omega);have a3:madeCells #[Value.int .i64 0] 2=#[.int .i64 0,.int .i64 0]:=by apply Array.ext';rw[uD];rfl
  simpa[a0,Value.cells,a3]using this
 have b9:=aI a2;obtain⟨d,g⟩:∃d,d=(((w.alloc (.cells #[.slice (some ⟨q,0,none⟩) 2 c] 122)).alloc (.cells #[.slice none 0 0] 115)).alloc (.cells #[.int .i64 0,.int .i64 0] 3)).alloc (.cells #[.slice (some ⟨w.heap.size+1+1,0,none⟩) 2 2] 40):=⟨_,rfl⟩;have F:d.heap.size=w.heap.size+4:=by rw[g];simp
 have G:d.heap[w.heap.size]?=some (.cells #[.slice (some ⟨q,0,none⟩) 2 c] 122 (0,0)):=by rw[g,Below.heap_alloc _ _ _ (by simp;omega),Below.heap_alloc _ _ _ (by simp;omega),Below.heap_alloc _ _ _ (by simp)];exact cG rfl
 have H:d.heap[w.heap.size+1]?=some (.cells #[.slice none 0 0] 115 (0,0)):=by rw[g,Below.heap_alloc _ _ _ (by simp),Below.heap_alloc _ _ _ (by simp)];exact cG (by simp)
 have I:d.heap[w.heap.size+2]?=some (.cells #[.int .i64 0,.int .i64 0] 3 (0,0)):=by rw[g,Below.heap_alloc _ _ _ (by simp)];exact cG (by simp)
 have B:d.heap[w.heap.size+3]?=some (.cells #[.slice (some ⟨w.heap.size+2,0,none⟩) 2 2] 40 (0,0)):=by rw[g];exact cG (by simp)
 have C:Below w.heap.size w d:=by rw[g];exact(((aG _ _).alloc (by simp) _).alloc (by simp;omega) _).alloc (by simp;omega) _
 have a4:Hid (∀W,aH (fun b=>w.heap.size+1≤b) d W→∀k,k<2→W.cell? ⟨q,k*2,none⟩=some (.int .i64 (prio k))):=fun W a5 k a=>by
  have a6:q<w.heap.size:=aN (A k a);rw[World.cell?_of_block (w:=d) (a5.block q (by omega) (by omega)),World.cell?_of_block (w:=w) (C.block q a6)];exact A k a
 have a7:=aI G;have a8:=aI H;have a9:=aI I;have c0:=aI B;have b0:=aI C;have b1:=aI g;have J:=aI F;have L:d.cell? ⟨w.heap.size+1+1+1,0,none⟩=some (.slice (some ⟨w.heap.size+1+1,0,none⟩) 2 2):=aD B;clear A G H I B C g F
 go_enter Tryz.func95,Tryz.ntmps95
 go_wp2_with fail
 rw[←b1.out];go_wp2
 go_loopw [10] (fun t wr=>aH (·=w.heap.size+2) d wr∧((t=.int .i64 0∧wr.heap[w.heap.size+2]?=some (.cells #[.int .i64 0,.int .i64 0] 3 (0,0)))∨(t=.int .i64 1∧wr.heap[w.heap.size+2]?=some (.cells #[.int .i64 0,.int .i64 0] 3 (0,0)))∨(t=.int .i64 2∧wr.heap[w.heap.size+2]?=some (.cells #[.int .i64 0,.int .i64 1] 3 (0,0))))) (fun t _=>2-(intOf t).toNat)
 case atStart=>exact⟨aH.refl _ _,.inl ⟨rfl,a9.out⟩⟩
 case round=>
  obtain⟨f,hrel⟩:=hrel;have M:wr.cell? ⟨w.heap.size+1+1+1,0,none⟩=some (.slice (some ⟨w.heap.size+1+1,0,none⟩) 2 2):=(aT (f.block (w.heap.size+1+1+1) (by have:=J.out;omega) (by omega)) 0).trans L;clear L;rcases hrel with⟨rfl,a⟩| ⟨rfl,a⟩| ⟨rfl,a⟩
  ·have c1:wr.cell? ⟨w.heap.size+2,0,none⟩=some (.int .i64 0):=aD a;have ff:=aJ a 0;have u:=aI a;have p:=aI f;clear a f;go_wp2
   go_roundw
   case rel=>exact⟨p.out.thenSet _ _ rfl,.inr (.inl ⟨by rfl,aK u.out 0 _⟩)⟩
   case measure=>simp[intOf]
  ·have c2:wr.cell? ⟨w.heap.size+2,1,none⟩=some (.int .i64 0):=aD a;have ff:=aJ a 1;have u:=aI a;have p:=aI f;clear a f;go_wp2
   go_roundw
   case rel=>exact⟨p.out.thenSet _ _ rfl,.inr (.inr (⟨by rfl,aK u.out 1 _⟩))⟩
   case measure=>simp[intOf]
  ·have u:=aI a;have c3:=J.out;have c4:=f.size;have N:sZ wr w.heap.size q 2 c prio:=⟨by rw[cell_of_row _ _ _ _ _ _ ((f.block _ (by omega) (by omega)).trans a7.out)];rfl,a4.out wr (f.mono (fun _ h=>by omega))⟩;have O:Hid (Calls Tryz.prog 128 #[.slice (some ⟨w.heap.size+1+1,0,none⟩) 2 2,.func (.func 129) #[] #[.pointer (some ⟨w.heap.size,0,none⟩)]] wr fun e w'=>(∃v,e=.returned v)∧w'.heap[w.heap.size+2]?=some (.cells ((fM 2 prio).map (Value.int .i64)).toArray 3 (0,0))∧aH (·=w.heap.size+2) wr w'):=(Oq (w.heap.size+2) w.heap.size q c prio wr N a).mono (fun e w' ⟨b2,b3,b4⟩=>⟨b2,by rw[←Qm];exact b3,b4⟩);have p:=aI f;clear a f N;go_wp2_with fail
   refine O.out.mono ?_;rintro e r ⟨⟨c5,rfl⟩,Q,y⟩;have c6:=y.size;have R:Hid (aH (·=w.heap.size+2) d r):=p.out.andThen y;have b5:r.cell? ⟨w.heap.size+1+1+1,0,none⟩=some (.slice (some ⟨w.heap.size+1+1,0,none⟩) 2 2):=(aT (y.block (w.heap.size+1+1+1) (by omega) (by omega)) 0).trans M;have T:=aI (tM (w.heap.size+1+1+1) 2 (by omega) (fun _=>False) r (fun _ h=>h.elim) (fun m l W=>l=(fM 2 prio).take m∧aH (fun b=>r.heap.size≤b) r W) (fun m l W c7 n t=>⟨n.1,n.2.trans t (fun i o=>.inl o.1)⟩)
    (fun m l W U n c8=>by
     have V:m<(fM 2 prio).length:=by rw[mK _ _ (by omega)];exact U
     refine(sU (w.heap.size+1+1+1) (w.heap.size+2) 2 m ((fM 2 prio)[m]) W ?_ ?_ U).mono ?_
     ·exact(aT (n.2.block (w.heap.size+1+1+1) (by omega) (by omega)) 0).trans b5
     ·rw[aT (n.2.block (w.heap.size+2) (by omega) (by omega)) m,cell_of_row _ _ _ _ _ _ Q];simp[V]
     ·rintro e w' ⟨rfl,rfl⟩;exact⟨_,rfl,⟨by rw[n.1,List.take_append_getElem V],n.2⟩,aH.refl _ _⟩)
    ⟨by simp,aH.refl _ _⟩)
   clear Q y O M;go_wp2_with fail
   refine T.out.mono ?_;rintro e j ⟨x,l,rfl,⟨D,z⟩,b6,s⟩;have c9:=z.size;have E:j.heap[w.heap.size+1]?=some (.cells #[.slice none 0 0] 115 (0,0)):=(z.block _ (by omega) (by omega)).trans ((R.out.block _ (by omega) (by omega)).trans a8.out);have b7:j.cell? ⟨w.heap.size+1,0,none⟩=some (.slice none 0 0):=aD E;have d0:=aJ E 0;have d1:w.heap.size+1<j.heap.size:=by omega
   have b8:Hid ((j.setCell ⟨w.heap.size+1,0,none⟩ (.slice (some ⟨x,0,none⟩) 2 2)).ownsRow w.heap.size 3 1 (.slice (some ⟨x,0,none⟩) 2 2) 2 ((fM 2 prio).map (Value.int .i64))∧Below w.heap.size w (j.setCell ⟨w.heap.size+1,0,none⟩ (.slice (some ⟨x,0,none⟩) 2 2))):=by
    rw[List.take_of_length_le (by rw[mK _ _ (by omega)];omega)]at D;rw[D,xU]at s;have X:aH (·=w.heap.size+1) j (j.setCell ⟨w.heap.size+1,0,none⟩ (.slice (some ⟨x,0,none⟩) 2 2)):=aH.ofSet _ _ _ _ rfl;refine⟨bI (aO s (fun b e=>X.block b (World.ownsRow.lt s b e).2 (by have:=(World.ownsRow.lt s b e).1;omega))) (by omega),?_⟩;have t:aH (fun b=>w.heap.size≤b) w (j.setCell ⟨w.heap.size+1,0,none⟩ (.slice (some ⟨x,0,none⟩) 2 2)):=aH.trans (aH.trans (aH.trans (aH.ofBelow (S:=fun b=>w.heap.size≤b) b0.out) R.out (fun i o=>.inl (by omega))) z (fun i o=>.inl (by omega))) X (fun i o=>.inl (by omega));exact t.below (Nat.le_refl _) (fun k a=>a)
   clear D z b6 s E T;go_wp2
   refine bodyPost_ret (v:=.agg #[.slice (some ⟨x,0,none⟩) 2 2]) (by simp[results,Tryz.results95,go_sem,b7]) rfl ?_;exact⟨x,rfl,b8.out⟩
theorem Tryz.info166:(Tryz.prog.info? 166).map (fun i=>(i.zero,i.size,i.bytes))=some (some (.agg #[.slice none 0 0,.int .i64 0,.int .i64 0,.bool false,.int .i64 0,.int .i64 0]),6,64):=by kernel_rfl
def Su(x:El):List Value:=[.slice (x.ad 0) (x.n 0) (x.c 0),.int .i64 (x.i 0),.int .i64 (x.i 1),.bool x.b,.int .i64 (x.i 2),.int .i64 (x.i 3)]
def Lb(l:List El):List Value:=l.flatMap Su
theorem Dp(cb:Nat)(many:Nat)(N:many≤255)(S:Nat→Prop)(w:World)(B:∀b,S b→b<w.heap.size)(a:Nat→List El→World→Prop)
 (C:∀c l wr w',a c l wr→aH (fun b=>w.heap.size≤b∧b<w.heap.size+3) wr w'→a c l w')
 (D:∀c l wr,c<many→a c l wr→w.heap.size+3≤wr.heap.size→Calls Tryz.prog 94 #[.int .i64 c,.pointer (some ⟨cb,0,none⟩)] wr fun e w'=>∃x:El,e=.returned (.agg #[.slice (x.ad 0) (x.n 0) (x.c 0),.int .i64 (x.i 0),.int .i64 (x.i 1),.bool x.b,.int .i64 (x.i 2),.int .i64 (x.i 3)])∧a (c+1) (l++[x]) w'∧aH S wr w')
 (E:a 0 [] w):Calls Tryz.prog 93 #[.int .i64 many,.func (.func 94) #[] #[.pointer (some ⟨cb,0,none⟩)]] w fun e w'=>∃x l,e=.returned (.agg #[.slice (some ⟨x,0,none⟩) many many])∧a many l w'∧l.length=many∧w'.ownsRow w.heap.size 166 6 (.slice (some ⟨x,0,none⟩) many many) many (Lb l):=by
 obtain⟨O,Q,R,T,U⟩:=info_parts Tryz.info166;have V:∀W:World,(Instr.makeSlice 116 (.int .i64 (many:Int)) (.int .i64 (many:Int))).run Tryz.prog W=.ok (.slice (some ⟨W.heap.size,0,none⟩) many many) (W.alloc (.cells (madeCells #[.slice none 0 0,.int .i64 0,.int .i64 0,.bool false,.int .i64 0,.int .i64 0] (many*6)) 166)):=by
  intro W;have:=run_make (P:=Tryz.prog) (w:=W) 116 166 O _ Tryz.underlying116 Q R .i64 .i64 (many:Int) (many:Int) (by omega) (by omega) (by rw[U];omega) (by omega)
  simpa[T,Value.cells]using this
 generalize F:madeCells #[.slice none 0 0,.int .i64 0,.int .i64 0,.bool false,.int .i64 0,.int .i64 0] (many*6)=z at V;have G:z.size=many*6:=by rw[←F];simp[madeCells]
 have q:=aI C;have X:=aI B;have Y:=aI D;have Z:=aI E;clear C B D E F;have a0:=aI (nF w 118 166 6 many z N G)
 go_enter Tryz.func93,Tryz.ntmps93
 go_wp2
 go_loopw [13] (fun t wr=>∃ (k:Nat) (l:List El) (d:List Value),k≤many∧t=.int .i64 k∧l.length=k∧a k l wr∧w.heap.size+3≤wr.heap.size∧wr.heap[w.heap.size]?=some (.cells #[.slice none 0 0] 118 (0,0))∧wr.heap[w.heap.size+2]?=some (.cells #[.slice (some ⟨w.heap.size+1,0,none⟩) many many] 118 (0,0))∧wr.ownsRow w.heap.size 166 6 (.slice (some ⟨w.heap.size+1,0,none⟩) many many) many (Lb l++d)∧d.length=(many-k)*6) (fun t _=>many-(intOf t).toNat)
 case atStart=>
  obtain⟨a1,b4,a2,a3,r⟩:=a0.out _ rfl;exact⟨0,[],z.toList,by omega,rfl,rfl,q.out _ _ _ _ Z.out (a1.mono (fun _ h=>h.elim)),by omega,a2,a3,r,by simp[G]⟩
 case round=>
  obtain⟨k,l,d,b5,rfl,n,s,a4,j,u,m,o⟩:=hrel;have b6:wr.cell? ⟨w.heap.size+2,0,none⟩=some (.slice (some ⟨w.heap.size+1,0,none⟩) many many):=aD u
  by_cases H:k<many
  ·have a5:=aI (Y.out k l wr.drew H (q.out _ _ _ _ s ⟨rfl,rfl,rfl,Nat.le_refl _,fun _ _ _=>rfl⟩) (by show w.heap.size+3≤wr.heap.size;omega));have a6:=aI (lM Su 6 (fun _=>rfl) 118 166 w many k S X.out a q.out l d wr H n a4 j u m o);have a7:Hid ((d.drop 6).length=(many-(k+1))*6):=by show _=_;rw[List.length_drop,o];omega
   have a8:Hid (∀x:El,(l++[x]).length=k+1):=fun x=>by rw[List.length_append,n];rfl
   clear s j u m n o;go_wp2_with fail
   go_region_law (go_simp;(with_reducible show Calls Tryz.prog 94 _ _ _);refine a5.out.mono ?_;rintro e I ⟨x,rfl,J,L⟩;obtain⟨b7,⟨a9,f⟩,g,r⟩:=a6.out x I J L;have p:=aI r;have b8:I.cell? ⟨w.heap.size+1,k*6,none⟩=some (a9 0):=f 0 (by omega);have b9:=f 1 (by omega);have c0:=f 2 (by omega);have c1:=f 3 (by omega);have c2:=f 4 (by omega);have c3:=f 5 (by omega);have c4:=g (k*6);have c5:=g (k*6+1);have c6:=g (k*6+2);have c7:=g (k*6+3);have f4:=g (k*6+4);have c8:=g (k*6+5);clear J L f g r)
   all_goals (
    go_wp2
    go_roundw
    case rel=>exact⟨k+1,l++[x],d.drop 6,by omega,by go_num,a8.out x,p.out.1,p.out.2.1,p.out.2.2.1,p.out.2.2.2.1,p.out.2.2.2.2,a7.out⟩
    case measure=>simp[intOf];omega)
  ·obtain rfl:k=many:=by omega
   obtain rfl:d=[]:=List.eq_nil_of_length_eq_zero (by rw[o,Nat.sub_self,Nat.zero_mul]);rw[List.append_nil]at m;have c9:wr.cell? ⟨w.heap.size,0,none⟩=some (.slice none 0 0):=aD j;have d0:=aJ j 0;obtain⟨i,y⟩:∃i,i=wr.setCell ⟨w.heap.size,0,none⟩ (.slice (some ⟨w.heap.size+1,0,none⟩) k k):=⟨_,rfl⟩;have M:i.heap[w.heap.size]?=some (.cells #[.slice (some ⟨w.heap.size+1,0,none⟩) k k] 118 (0,0)):=by rw[y];exact aK j 0 _
   have b0:i.cell? ⟨w.heap.size,0,none⟩=some (.slice (some ⟨w.heap.size+1,0,none⟩) k k):=aD M;have A:aH (·=w.heap.size) wr i:=by rw[y];exact aH.ofSet _ _ _ _ rfl
   have b1:Hid (a k l i∧l.length=k∧i.ownsRow w.heap.size 166 6 (.slice (some ⟨w.heap.size+1,0,none⟩) k k) k (Lb l)):=⟨q.out _ _ _ _ s (A.mono (fun b b2=>by rw[b2];omega)),n,aO m (fun b e=>A.block b (World.ownsRow.lt m b e).2 (by simp[Value.ownBlock]at e;omega))⟩;have b3:=aI y;clear s j u m n o M A y;go_wp2
   rw[←b3.out];refine bodyPost_ret (v:=.agg #[.slice (some ⟨w.heap.size+1,0,none⟩) k k]) (by simp[results,Tryz.results93,go_sem,b0]) rfl ?_;exact⟨_,l,rfl,b1.out⟩
end Go.Proofs.YtnjlbgolnbdkaaaGreat
