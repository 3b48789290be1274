/- All, with short names -/
import Derived.Test.YtnjlbgolnbdkaaaGreatP11
import Derived.Test.YtnjlbgolnbdkaaaGreatP09
import Derived.Test.YtnjlbgolnbdkaaaGreatP06
import Derived.Laws.Rows
import Derived.Deep.MidRow
import Derived.Test.YtnjlbgolnbdkaaaGreatP04
import Derived.Deep.RegionHeld3
import Derived.Test.YtnjlbgolnbdkaaaGreatP05
import Derived.Test.YtnjlbgolnbdkaaaGreatP03
set_option maxRecDepth 100000
set_option maxHeartbeats 16000000
namespace Go.Proofs.YtnjlbgolnbdkaaaGreat
open Go Go.RowKit
theorem jW{w:World}{base:Nat}{e:TypeId}{d:Nat}{x n:Nat}{a:List Value}(h:w.ownsRow base e d (.slice (some ⟨x,0,none⟩) n n) n a):base≤x∧w.heap[x]?=some (.cells a.toArray e (0,0)):=by
 have l:=h.1;rcases h.2 with⟨f,_⟩| ⟨g,cap,cur,b,i,j,_,_,k,c⟩
 ·cases f
 ·simp at b;obtain⟨rfl,rfl⟩:=b;refine⟨i,?_⟩;rw[List.take_of_length_le (by simp[k])]at c;rw[j,←c]
theorem Fk(cb q n c a:Nat)(ad:Option Addr)(b d:Nat)(w:World)(h:a<n)(f:w.cell? ⟨cb,9,none⟩=some (.slice (some ⟨q,0,none⟩) n c))(g:w.cell? ⟨q,a*2+1,none⟩=some (.slice ad b d)):
 Calls Tryz.prog 94 #[.int .i64 a,.pointer (some ⟨cb,0,none⟩)] w fun e w'=>e=.returned (.agg #[.slice ad b d,.int .i64 0,.int .i64 0,.bool false,.int .i64 0,.int .i64 0])∧Below w.heap.size w w':=by
 have i:=aN f;have j:=aN g
 go_enter Tryz.func94,Tryz.ntmps94
 go_wp2
 exact bodyPost_ret (v:=.agg #[.slice ad b d,.int .i64 0,.int .i64 0,.bool false,.int .i64 0,.int .i64 0]) (by simp[results,Tryz.results94,go_sem]) rfl ⟨rfl,aG _ _⟩
theorem Mu(n:Nat)(f:n≤255)(w:World):
 Calls Tryz.prog 91 #[.int .i64 n,.func (.func 92) #[] #[]] w fun e w'=>∃x,e=.returned (.agg #[.slice (some ⟨x,0,none⟩) n n])∧w.heap.size≤x∧w'.heap[x]?=some (.cells ((List.replicate n (0:Int)).map (Value.int .i64)).toArray 3 (0,0))∧Below w.heap.size w w':=by
 refine(Do n f (fun _=>False) w (fun _ h=>h.elim) (fun c l W=>l=List.replicate c 0∧aH (fun b=>w.heap.size≤b) w W) (fun c l W s a t=>⟨a.1,a.2.trans t (fun i g=>.inl g.1)⟩) (fun c l W u a v=>(Ib c W).mono (fun e w' ⟨j,d⟩=>⟨0,j,⟨by rw[a.1,List.replicate_succ'],by rw[d];exact a.2⟩,by rw[d];exact aH.refl _ _⟩)) ⟨rfl,aH.refl _ _⟩).mono ?_;rintro e w' ⟨x,l,rfl,⟨rfl,m⟩,_,o⟩;obtain⟨p,q⟩:=jW o;exact⟨x,rfl,p,by rw[q,xU],m.below (Nat.le_refl _) (fun k r=>r)⟩
def Ea(a:Int):Int:=if a<0 then 0 else a
def aY(v:Value)(p:cQ):List Value:=[v,.int .i64 p.next,.int .i64 p.acc,.bool p.stopped,.int .i64 p.til,.int .i64 (Ea p.dl)]
def Ta:Value→El
 | .slice a n c=>⟨fun _=>0,false,fun _=>a,fun _=>n,fun _=>c,none⟩
 | _=>⟨fun _=>0,false,fun _=>none,fun _=>0,fun _=>0,none⟩
theorem Tq{v:Value}(h:∃a b c,v=.slice a b c):Su (Ta v)=aY v dC:=by
 obtain⟨a,b,c,rfl⟩:=h;rfl
theorem Mn(cb q c:Nat)(l:List (Pr×Value))(w:World)(I:l.length≤2)(z:cb<w.heap.size)(A:q<w.heap.size)(B:w.cell? ⟨cb,9,none⟩=some (.slice (some ⟨q,0,none⟩) l.length c))
 (s:∀k p,l[k]?=some p→(∃a g j,p.2=.slice a g j)∧w.cell? ⟨q,k*2+1,none⟩=some p.2):
 Calls Tryz.prog 93 #[.int .i64 l.length,.func (.func 94) #[] #[.pointer (some ⟨cb,0,none⟩)]] w fun e w'=>∃x,e=.returned (.agg #[.slice (some ⟨x,0,none⟩) l.length l.length])∧w.heap.size≤x∧w'.heap[x]?=some (.cells (l.flatMap fun p=>aY p.2 dC).toArray 166 (0,0))∧Below w.heap.size w w':=by
 refine(Dp cb l.length (by omega) (fun _=>False) w (fun _ h=>h.elim) (fun d r W=>r=(l.take d).map (fun p=>Ta p.2)∧aH (fun b=>w.heap.size≤b) w W) (fun d r W J f t=>⟨f.1,f.2.trans t (fun i m=>.inl m.1)⟩) (fun d r W n f L=>?_) ⟨by simp,aH.refl _ _⟩).mono ?_
 ·obtain⟨⟨a,g,j,u⟩,C⟩:=s d l[d] (List.getElem?_eq_getElem n);refine(Fk cb q l.length c d a g j W n ((aT (f.2.block cb z (by omega)) 9).trans B) ((aT (f.2.block q A (by omega)) _).trans (C.trans (by rw[u])))).mono ?_;rintro e w' ⟨rfl,v⟩;refine⟨Ta (l[d]).2,by rw[u];rfl,⟨?_,f.2.trans (aH.ofBelow (S:=fun _=>False) v) (fun _ h=>h.elim)⟩,aH.ofBelow v⟩;rw[f.1,List.take_add_one,List.getElem?_eq_getElem n,List.map_append];rfl
 ·rintro e w' ⟨x,r,rfl,⟨rfl,D⟩,_,E⟩;obtain⟨F,G⟩:=jW E;refine⟨x,rfl,F,?_,D.below (Nat.le_refl _) (fun k H=>H)⟩;rw[G,List.take_length]
  congr 3
  unfold Lb;rw[List.flatMap_map];have:∀ (r:List (Pr×Value)),(∀p∈r,∃a g j,p.2=.slice a g j)→(r.flatMap fun p=>Su (Ta p.2))=r.flatMap fun p=>aY p.2 dC:=by
   intro r y
   induction r with
   | nil=>rfl
   | cons a r ih=>
    rw[List.flatMap_cons,List.flatMap_cons,Tq (y a (List.mem_cons_self ..)),ih (fun p o=>y p (List.mem_cons_of_mem _ o))]
  exact this l (fun p o=>by obtain⟨i,m⟩:=List.getElem?_of_mem o;exact(s i p m).1)
theorem qI{fn:Func}{p:Tmp}{a:TypeId}(h:fn.results=#[.cell p a])(tmps:Array Value)(P:Program)(w:World){b:Nat}{c:Array Value}{t:TypeId}{d:Nat×Nat}{f:Array Field}
 (g:tmps[p]?.getD undef=.pointer (some ⟨b,0,none⟩)) (i:w.heap[b]?=some (.cells c t d)) (j:P.underlying a=some (.struct f)) (k:(P.info? a).map (·.size)=some c.size):
 (results fn tmps).run P w=.ok (.agg c) w:=by
 have l:=run_loadVar_row (P:=P) w b t a c d (.struct f) i j rfl k;simp only[results,h];simp[g,asAddr,l]
theorem kL{fn:Func}{p d:Tmp}{a:TypeId}(h:fn.results=#[.cell p a,.tmp d])(tmps:Array Value)(P:Program)(w:World){b:Nat}{c:Array Value}{t:TypeId}{f:Nat×Nat}{g:Array Field}
 (i:tmps[p]?.getD undef=.pointer (some ⟨b,0,none⟩)) (j:w.heap[b]?=some (.cells c t f)) (k:P.underlying a=some (.struct g)) (l:(P.info? a).map (·.size)=some c.size):
 (results fn tmps).run P w=.ok (.tuple #[.agg c,tmps[d]?.getD undef]) w:=by
 have m:=run_loadVar_row (P:=P) w b t a c f (.struct g) j k rfl l;simp only[results,h];simp[i,asAddr,m]
theorem aR{w:World}{x:Nat}{o:Obj}(h:w.heap[x]?=some o):x<w.heap.size:=(Array.getElem?_eq_some_iff.1 h).1
theorem eT{W w:World}{x:Nat}{o:Obj}(a:Below W.heap.size W w)(h:W.heap[x]?=some o):w.heap[x]?=some o:=(a.block x (Array.getElem?_eq_some_iff.1 h).1).trans h
def Ov(a:Array Value):Nat→List Value→Array Value
 | _,[]=>a
 | o,v::r=>Ov (a.setIfInBounds o v) (o+1) r
theorem Bc:∀ (b:List Value) (o:Nat) (a:Array Value),o+b.length=a.size→(Ov a o b).toList=a.toList.take o++b
 | [],o,a,h=>by
  show a.toList=_
  rw[List.append_nil,List.take_of_length_le (by simp at h;simp;omega)]
 | v::r,o,a,h=>by
  have c:o<a.toList.length:=by simp at h ⊢;omega
  show(Ov (a.setIfInBounds o v) (o+1) r).toList=_
  rw[Bc r (o+1) (a.setIfInBounds o v) (by simp at h ⊢;omega),Array.toList_setIfInBounds,List.take_add_one,List.take_set_of_le (Nat.le_refl _),List.getElem?_set_self c];simp
theorem Qs(b:Array Value)(a:List Value)(h:a.length=b.size):Ov b 0 a=a.toArray:=by
 apply Array.ext'
 rw[Bc a 0 b (by omega)];simp
theorem qK{b:Nat}{t:TypeId}:∀ (a:List Value) (o:Nat) (w:World) (c:Array Value),w.heap[b]?=some (.cells c t (0,0))→(w.setCells b o a).heap[b]?=some (.cells (Ov c o a) t (0,0))
 | [],_,_,_,h=>h
 | v::r,o,w,_,h=>qK r (o+1) (w.setCell ⟨b,o,none⟩ v) _ (aK h o v)
theorem kO{w:World}{b:Nat}{c:Array Value}{t:TypeId}(a:List Value)(h:w.heap[b]?=some (.cells c t (0,0)))(d:a.length=c.size):(w.setCells b 0 a).heap[b]?=some (.cells a.toArray t (0,0)):=by
 rw[qK a 0 w c h,Qs c a d]
theorem jB(b:Nat):∀ (a:List Value) (o:Nat) (w:World),aH (·=b) w (w.setCells b o a)
 | [],_,w=>aH.refl _ w
 | v::r,o,w=>(aH.ofSet (S:=(·=b)) w b o v rfl).andThen (jB b r (o+1) _)
theorem kB{w:World}{b:Nat}{a:Array Value}{t:TypeId}(h:w.heap[b]?=some (.cells a t (0,0)))(n:Nat)(d:n≤a.size):w.there b 0 n:=fun c f=>by
 rw[Nat.zero_add];refine⟨?_,aJ h c⟩;rw[cell_of_row _ _ _ _ _ _ h,Array.getElem?_eq_getElem (by omega)];rfl
theorem Tryz.info120:(Tryz.prog.info? 120).map (fun i=>(i.zero,i.size,i.bytes))=some (some (.agg #[.int .i64 0,.bool false,.int .i64 0,.int .i64 0,.int .i64 0,.int .i64 0,.int .i64 0,.int .i64 0,.int .i64 0,.int .i64 0,.slice none 0 0,.slice none 0 0,.slice none 0 0,.int .i64 0]),14,160):=by kernel_rfl
def Sg(x:El):List Value:=[.int .i64 (x.i 0),.bool x.b,.int .i64 (x.i 1),.int .i64 (x.i 2),.int .i64 (x.i 3),.int .i64 (x.i 4),.int .i64 (x.i 5),.int .i64 (x.i 6),.int .i64 (x.i 7),.int .i64 (x.i 8),.slice (x.ad 0) (x.n 0) (x.c 0),.slice (x.ad 1) (x.n 1) (x.c 1),.slice (x.ad 2) (x.n 2) (x.c 2),.int .i64 (x.i 9)]
def Ks(l:List El):List Value:=l.flatMap Sg
theorem Cs(cb lb:Nat)(many:Nat)(N:many≤255)(S:Nat→Prop)(w:World)(B:∀b,S b→b<w.heap.size)(d:Nat→List El→World→Prop)
 (C:∀f l wr w',d f l wr→aH (fun b=>w.heap.size≤b∧b<w.heap.size+3) wr w'→d f l w')
 (D:∀f l wr,f<many→d f l wr→w.heap.size+3≤wr.heap.size→Calls Tryz.prog 50 #[.int .i64 f,.pointer (some ⟨cb,0,none⟩),.pointer (some ⟨lb,0,none⟩)] wr fun e w'=>∃x:El,e=.returned (.agg #[.int .i64 (x.i 0),.bool x.b,.int .i64 (x.i 1),.int .i64 (x.i 2),.int .i64 (x.i 3),.int .i64 (x.i 4),.int .i64 (x.i 5),.int .i64 (x.i 6),.int .i64 (x.i 7),.int .i64 (x.i 8),.slice (x.ad 0) (x.n 0) (x.c 0),.slice (x.ad 1) (x.n 1) (x.c 1),.slice (x.ad 2) (x.n 2) (x.c 2),.int .i64 (x.i 9)])∧d (f+1) (l++[x]) w'∧aH S wr w')
 (E:d 0 [] w):Calls Tryz.prog 49 #[.int .i64 many,.func (.func 50) #[] #[.pointer (some ⟨cb,0,none⟩),.pointer (some ⟨lb,0,none⟩)]] w fun e w'=>∃x l,e=.returned (.agg #[.slice (some ⟨x,0,none⟩) many many])∧d many l w'∧l.length=many∧w'.ownsRow w.heap.size 120 14 (.slice (some ⟨x,0,none⟩) many many) many (Ks l):=by
 obtain⟨O,Q,R,T,U⟩:=info_parts Tryz.info120;have V:∀W:World,(Instr.makeSlice 109 (.int .i64 (many:Int)) (.int .i64 (many:Int))).run Tryz.prog W=.ok (.slice (some ⟨W.heap.size,0,none⟩) many many) (W.alloc (.cells (madeCells #[.int .i64 0,.bool false,.int .i64 0,.int .i64 0,.int .i64 0,.int .i64 0,.int .i64 0,.int .i64 0,.int .i64 0,.int .i64 0,.slice none 0 0,.slice none 0 0,.slice none 0 0,.int .i64 0] (many*14)) 120)):=by
  intro W;have:=run_make (P:=Tryz.prog) (w:=W) 109 120 O _ Tryz.underlying109 Q R .i64 .i64 (many:Int) (many:Int) (by omega) (by omega) (by rw[U];omega) (by omega)
  simpa[T,Value.cells]using this
 generalize F:madeCells #[.int .i64 0,.bool false,.int .i64 0,.int .i64 0,.int .i64 0,.int .i64 0,.int .i64 0,.int .i64 0,.int .i64 0,.int .i64 0,.slice none 0 0,.slice none 0 0,.slice none 0 0,.int .i64 0] (many*14)=z at V;have G:z.size=many*14:=by rw[←F];simp[madeCells]
 have q:=aI C;have X:=aI B;have Y:=aI D;have Z:=aI E;clear C B D E F;have a0:=aI (nF w 111 120 14 many z N G)
 go_enter Tryz.func49,Tryz.ntmps49
 go_wp2
 go_loopw [13] (fun t wr=>∃ (k:Nat) (l:List El) (g:List Value),k≤many∧t=.int .i64 k∧l.length=k∧d k l wr∧w.heap.size+3≤wr.heap.size∧wr.heap[w.heap.size]?=some (.cells #[.slice none 0 0] 111 (0,0))∧wr.heap[w.heap.size+2]?=some (.cells #[.slice (some ⟨w.heap.size+1,0,none⟩) many many] 111 (0,0))∧wr.ownsRow w.heap.size 120 14 (.slice (some ⟨w.heap.size+1,0,none⟩) many many) many (Ks l++g)∧g.length=(many-k)*14) (fun t _=>many-(intOf t).toNat)
 case atStart=>
  obtain⟨a1,b4,a2,a3,r⟩:=a0.out _ rfl;exact⟨0,[],z.toList,by omega,rfl,rfl,q.out _ _ _ _ Z.out (a1.mono (fun _ h=>h.elim)),by omega,a2,a3,r,by simp[G]⟩
 case round=>
  obtain⟨k,l,g,b5,rfl,n,s,a4,j,u,m,o⟩:=hrel;have b6:wr.cell? ⟨w.heap.size+2,0,none⟩=some (.slice (some ⟨w.heap.size+1,0,none⟩) many many):=aD u
  by_cases H:k<many
  ·have a5:=aI (Y.out k l wr.drew H (q.out _ _ _ _ s ⟨rfl,rfl,rfl,Nat.le_refl _,fun _ _ _=>rfl⟩) (by show w.heap.size+3≤wr.heap.size;omega));have a6:=aI (lM Sg 14 (fun _=>rfl) 111 120 w many k S X.out d q.out l g wr H n a4 j u m o);have a7:Hid ((g.drop 14).length=(many-(k+1))*14):=by show _=_;rw[List.length_drop,o];omega
   have a8:Hid (∀x:El,(l++[x]).length=k+1):=fun x=>by rw[List.length_append,n];rfl
   clear s j u m n o;go_wp2_with fail
   go_region_law (go_simp;(with_reducible show Calls Tryz.prog 50 _ _ _);refine a5.out.mono ?_;rintro e I ⟨x,rfl,J,L⟩;obtain⟨b7,⟨a9,a⟩,c,r⟩:=a6.out x I J L;have p:=aI r;have b8:I.cell? ⟨w.heap.size+1,k*14,none⟩=some (a9 0):=a 0 (by omega);have b9:=a 1 (by omega);have c0:=a 2 (by omega);have c1:=a 3 (by omega);have c2:=a 4 (by omega);have c3:=a 5 (by omega);have c4:=a 6 (by omega);have c5:=a 7 (by omega);have c6:=a 8 (by omega);have c7:=a 9 (by omega);have c8:=a 10 (by omega);have c9:=a 11 (by omega);have d0:=a 12 (by omega);have d1:=a 13 (by omega);have d2:=c (k*14);have d3:=c (k*14+1);have d4:=c (k*14+2);have d5:=c (k*14+3);have f4:=c (k*14+4);have d6:=c (k*14+5);have d7:=c (k*14+6);have d8:=c (k*14+7);have f8:=c (k*14+8);have d9:=c (k*14+9);have e0:=c (k*14+10);have e1:=c (k*14+11);have e2:=c (k*14+12);have e3:=c (k*14+13);clear J L a c r)
   all_goals (
    go_wp2
    go_roundw
    case rel=>exact⟨k+1,l++[x],g.drop 14,by omega,by go_num,a8.out x,p.out.1,p.out.2.1,p.out.2.2.1,p.out.2.2.2.1,p.out.2.2.2.2,a7.out⟩
    case measure=>simp[intOf];omega)
  ·obtain rfl:k=many:=by omega
   obtain rfl:g=[]:=List.eq_nil_of_length_eq_zero (by rw[o,Nat.sub_self,Nat.zero_mul]);rw[List.append_nil]at m;have e4:wr.cell? ⟨w.heap.size,0,none⟩=some (.slice none 0 0):=aD j;have e5:=aJ j 0;obtain⟨i,y⟩:∃i,i=wr.setCell ⟨w.heap.size,0,none⟩ (.slice (some ⟨w.heap.size+1,0,none⟩) k k):=⟨_,rfl⟩;have M:i.heap[w.heap.size]?=some (.cells #[.slice (some ⟨w.heap.size+1,0,none⟩) k k] 111 (0,0)):=by rw[y];exact aK j 0 _
   have b0:i.cell? ⟨w.heap.size,0,none⟩=some (.slice (some ⟨w.heap.size+1,0,none⟩) k k):=aD M;have A:aH (·=w.heap.size) wr i:=by rw[y];exact aH.ofSet _ _ _ _ rfl
   have b1:Hid (d k l i∧l.length=k∧i.ownsRow w.heap.size 120 14 (.slice (some ⟨w.heap.size+1,0,none⟩) k k) k (Ks l)):=⟨q.out _ _ _ _ s (A.mono (fun b b2=>by rw[b2];omega)),n,aO m (fun b e=>A.block b (World.ownsRow.lt m b e).2 (by simp[Value.ownBlock]at e;omega))⟩;have b3:=aI y;clear s j u m n o M A y;go_wp2
   rw[←b3.out];refine bodyPost_ret (v:=.agg #[.slice (some ⟨w.heap.size+1,0,none⟩) k k]) (by simp[results,Tryz.results49,go_sem,b0]) rfl ?_;exact⟨_,l,rfl,b1.out⟩
section
open Go.RowKit
attribute [-go_sem] Instr.storeAt
theorem Tryz.size120:(Tryz.prog.info? 120).map (·.size)=some 14:=by kernel_rfl
structure mJ(w:World)(q c:Nat)(l:List (Pr×Value))(prio:Nat→Int):Prop where
 few:l.length=1∨l.length=2
 lt:q<w.heap.size
 cell:∀k p,l[k]?=some p→(∃a m cc,p.2=.slice a m cc)∧w.cell? ⟨q,k*2,none⟩=some (.int .i64 (prio k))∧w.cell? ⟨q,k*2+1,none⟩=some p.2
theorem mJ.keep{w w':World}{q c:Nat}{l:List (Pr×Value)}{prio:Nat→Int}(h:mJ w q c l prio)(d:w.heap.size≤w'.heap.size)(b:w'.heap[q]?=w.heap[q]?):mJ w' q c l prio:=
 ⟨h.few,Nat.lt_of_lt_of_le h.lt d,fun k p a=>⟨(h.cell k p a).1,(aT b _).trans (h.cell k p a).2.1,(aT b _).trans (h.cell k p a).2.2⟩⟩
theorem Od(q c:Nat)(l:List (Pr×Value))(prio:Nat→Int)(w:World)(h:mJ w q c l prio):
 Calls Tryz.prog 95 #[.slice (some ⟨q,0,none⟩) l.length c] w fun e w'=>∃x,e=.returned (.agg #[.slice (some ⟨x,0,none⟩) l.length l.length])∧w.heap.size≤x∧w'.heap[x]?=some (.cells ((fM l.length prio).map (Value.int .i64)).toArray 3 (0,0))∧Below w.heap.size w w':=by
 have a:∀k,k<l.length→w.cell? ⟨q,k*2,none⟩=some (.int .i64 (prio k)):=fun k j=>(h.cell k l[k] (List.getElem?_eq_getElem j)).2.1
 rcases h.few with b| b
 ·rw[b]at a ⊢;refine(Hg q c prio w a).mono ?_;rintro e w' ⟨x,rfl,d,f⟩;obtain⟨g,i⟩:=jW d;exact⟨x,rfl,g,i,f⟩
 ·rw[b]at a ⊢;refine(Ke q c prio w a).mono ?_;rintro e w' ⟨x,rfl,d,f⟩;obtain⟨g,i⟩:=jW d;exact⟨x,rfl,g,i,f⟩
theorem Nu(i:Int)(o:Bool)(m:Nat)(r s u y z A B mo:Int)(q c:Nat)(l:List (Pr×Value))(prio:Nat→Int)(w:World)(c1:m≤16)(h:mJ w q c l prio):
 Calls Tryz.prog 51 #[.int .i64 i,.agg #[.bool o,.int .i64 m,.int .i64 r,.int .i64 s,.int .i64 u,.int .i64 y,.int .i64 z,.int .i64 A,.int .i64 B,.slice (some ⟨q,0,none⟩) l.length c],.int .i64 mo] w fun e w'=>∃d g f,e=.returned (.agg #[.int .i64 i,.bool o,.int .i64 r,.int .i64 s,.int .i64 u,.int .i64 y,.int .i64 z,.int .i64 A,.int .i64 B,.int .i64 mo,.slice (some ⟨d,0,none⟩) m m,.slice (some ⟨g,0,none⟩) l.length l.length,.slice (some ⟨f,0,none⟩) l.length l.length,.int .i64 0])∧(w.heap.size≤d∧w.heap.size≤g∧w.heap.size≤f∧d≠f)∧w'.heap[d]?=some (.cells ((List.replicate m (0:Int)).map (Value.int .i64)).toArray 3 (0,0))∧w'.heap[g]?=some (.cells (l.flatMap fun p=>aY p.2 dC).toArray 166 (0,0))∧w'.heap[f]?=some (.cells ((fM l.length prio).map (Value.int .i64)).toArray 3 (0,0))∧Below w.heap.size w w':=by
 obtain⟨n,H⟩:∃n,n=(w.alloc (.cells #[.bool o,.int .i64 m,.int .i64 r,.int .i64 s,.int .i64 u,.int .i64 y,.int .i64 z,.int .i64 A,.int .i64 B,.slice (some ⟨q,0,none⟩) l.length c] 124)).alloc (.cells #[.int .i64 0,.bool false,.int .i64 0,.int .i64 0,.int .i64 0,.int .i64 0,.int .i64 0,.int .i64 0,.int .i64 0,.int .i64 0,.slice none 0 0,.slice none 0 0,.slice none 0 0,.int .i64 0] 120):=⟨_,rfl⟩;have U:n.heap.size=w.heap.size+2:=by rw[H];simp
 have N:Below w.heap.size w n:=by rw[H];exact(aG _ _).alloc (by simp) _
 have V:n.heap[w.heap.size]?=some (.cells #[.bool o,.int .i64 m,.int .i64 r,.int .i64 s,.int .i64 u,.int .i64 y,.int .i64 z,.int .i64 A,.int .i64 B,.slice (some ⟨q,0,none⟩) l.length c] 124 (0,0)):=by rw[H,Below.heap_alloc _ _ _ (by simp)];exact cG rfl
 have a2:n.heap[w.heap.size+1]?=some (.cells #[.int .i64 0,.bool false,.int .i64 0,.int .i64 0,.int .i64 0,.int .i64 0,.int .i64 0,.int .i64 0,.int .i64 0,.int .i64 0,.slice none 0 0,.slice none 0 0,.slice none 0 0,.int .i64 0] 120 (0,0)):=by rw[H];exact cG (by simp)
 obtain⟨P,J⟩:∃P:World→Prop,P=fun W=>Below n.heap.size n W:=⟨_,rfl⟩
 have I:Hid (P n):=by show P n;rw[J];exact Below.refl _ _
 have C:Hid (∀W,P W→Below n.heap.size n W):=fun W h=>by rw[J]at h;exact h
 have X:Hid (∀W Y,P W→Below W.heap.size W Y→P Y):=fun W Y h b0=>by rw[J]at h ⊢;exact h.trans (b0.mono h.size)
 have O:Hid (∀W,P W→P W.drew):=fun W h=>by rw[J]at h ⊢;exact h.drew
 have a3:Hid (∀W:World,W.heap[w.heap.size]?=some (.cells #[.bool o,.int .i64 m,.int .i64 r,.int .i64 s,.int .i64 u,.int .i64 y,.int .i64 z,.int .i64 A,.int .i64 B,.slice (some ⟨q,0,none⟩) l.length c] 124 (0,0))→W.cell? ⟨w.heap.size,0,none⟩=some (.bool o)∧W.cell? ⟨w.heap.size,1,none⟩=some (.int .i64 m)∧W.cell? ⟨w.heap.size,2,none⟩=some (.int .i64 r)∧W.cell? ⟨w.heap.size,3,none⟩=some (.int .i64 s)∧W.cell? ⟨w.heap.size,4,none⟩=some (.int .i64 u)∧W.cell? ⟨w.heap.size,5,none⟩=some (.int .i64 y)∧W.cell? ⟨w.heap.size,6,none⟩=some (.int .i64 z)∧W.cell? ⟨w.heap.size,7,none⟩=some (.int .i64 A)∧W.cell? ⟨w.heap.size,8,none⟩=some (.int .i64 B)∧W.cell? ⟨w.heap.size,9,none⟩=some (.slice (some ⟨q,0,none⟩) l.length c)):=fun W a=>by
  refine⟨?_,?_,?_,?_,?_,?_,?_,?_,?_,?_⟩<;>(rw[cell_of_row _ _ _ _ _ _ a];rfl)
 have L:Hid (∀W,P W→W.cell? ⟨w.heap.size,0,none⟩=some (.bool o)∧W.cell? ⟨w.heap.size,1,none⟩=some (.int .i64 m)∧W.cell? ⟨w.heap.size,2,none⟩=some (.int .i64 r)∧W.cell? ⟨w.heap.size,3,none⟩=some (.int .i64 s)∧W.cell? ⟨w.heap.size,4,none⟩=some (.int .i64 u)∧W.cell? ⟨w.heap.size,5,none⟩=some (.int .i64 y)∧W.cell? ⟨w.heap.size,6,none⟩=some (.int .i64 z)∧W.cell? ⟨w.heap.size,7,none⟩=some (.int .i64 A)∧W.cell? ⟨w.heap.size,8,none⟩=some (.int .i64 B)∧W.cell? ⟨w.heap.size,9,none⟩=some (.slice (some ⟨q,0,none⟩) l.length c)):=fun W j=>a3.out W (((C.out W j).block _ (by omega)).trans V)
 have Q:Hid (∀W,P W→mJ W q c l prio):=fun W j=>h.keep (Nat.le_trans N.size (C.out W j).size) (((C.out W j).block q (by have:=h.lt;omega)).trans (N.block q h.lt))
 have b1:Hid (∀W,P W→Calls Tryz.prog 91 #[.int .i64 m,.func (.func 92) #[] #[]] W fun e w'=>∃x,e=.returned (.agg #[.slice (some ⟨x,0,none⟩) m m])∧n.heap.size≤x∧W.heap.size≤x∧x<w'.heap.size∧w'.heap[x]?=some (.cells ((List.replicate m (0:Int)).map (Value.int .i64)).toArray 3 (0,0))∧Below W.heap.size W w'∧P w'):=fun W j=>
  (Mu m (by omega) W).mono (fun e w' ⟨x,M,D,E,G⟩=>⟨x,M,Nat.le_trans (C.out W j).size D,D,lt_of_block E,E,G,X.out W w' j G⟩)
 have b2:Hid (∀W,P W→Calls Tryz.prog 93 #[.int .i64 l.length,.func (.func 94) #[] #[.pointer (some ⟨w.heap.size,0,none⟩)]] W fun e w'=>∃x,e=.returned (.agg #[.slice (some ⟨x,0,none⟩) l.length l.length])∧n.heap.size≤x∧W.heap.size≤x∧x<w'.heap.size∧w'.heap[x]?=some (.cells (l.flatMap fun p=>aY p.2 dC).toArray 166 (0,0))∧Below W.heap.size W w'∧P w'):=fun W j=>
  (Mn w.heap.size q c l W (by have:=h.few;omega) (by have:=(C.out W j).size;omega) (Q.out W j).lt (L.out W j).2.2.2.2.2.2.2.2.2 (fun k p a4=>⟨((Q.out W j).cell k p a4).1,((Q.out W j).cell k p a4).2.2⟩)).mono (fun e w' ⟨x,M,D,E,G⟩=>⟨x,M,Nat.le_trans (C.out W j).size D,D,lt_of_block E,E,G,X.out W w' j G⟩)
 have b3:Hid (∀W,P W→Calls Tryz.prog 95 #[.slice (some ⟨q,0,none⟩) l.length c] W fun e w'=>∃x,e=.returned (.agg #[.slice (some ⟨x,0,none⟩) l.length l.length])∧n.heap.size≤x∧W.heap.size≤x∧x<w'.heap.size∧w'.heap[x]?=some (.cells ((fM l.length prio).map (Value.int .i64)).toArray 3 (0,0))∧Below W.heap.size W w'∧P w'):=fun W j=>
  (Od q c l prio W (Q.out W j)).mono (fun e w' ⟨x,M,D,E,G⟩=>⟨x,M,Nat.le_trans (C.out W j).size D,D,lt_of_block E,E,G,X.out W w' j G⟩)
 have R:Hid (∀W,P W→W.heap[w.heap.size+1]?=some (.cells #[.int .i64 0,.bool false,.int .i64 0,.int .i64 0,.int .i64 0,.int .i64 0,.int .i64 0,.int .i64 0,.int .i64 0,.int .i64 0,.slice none 0 0,.slice none 0 0,.slice none 0 0,.int .i64 0] 120 (0,0))∧Below w.heap.size w W∧n.heap.size≤W.heap.size):=fun W j=>⟨((C.out W j).block _ (by omega)).trans a2,N.trans ((C.out W j).mono (by omega)),(C.out W j).size⟩
 have b4:=aI H;have b5:=aI V;have Z:=aI U;have c2:l.length≤2:=by have:=h.few;omega
 clear h H N V a2 J U;obtain⟨F,hF⟩:∃F:World→Nat→Nat→Nat→World,F=fun W d g f=>W.setCells (w.heap.size+1) 0 [.int .i64 i,.bool o,.int .i64 r,.int .i64 s,.int .i64 u,.int .i64 y,.int .i64 z,.int .i64 A,.int .i64 B,.int .i64 mo,.slice (some ⟨d,0,none⟩) m m,.slice (some ⟨g,0,none⟩) l.length l.length,.slice (some ⟨f,0,none⟩) l.length l.length,.int .i64 0]:=⟨_,rfl⟩
 have a5:∀W d g f,P W→(Instr.storeAt 120 (.pointer (some ⟨w.heap.size+1,0,none⟩)) (.agg #[.int .i64 i,.bool o,.int .i64 r,.int .i64 s,.int .i64 u,.int .i64 y,.int .i64 z,.int .i64 A,.int .i64 B,.int .i64 mo,.slice (some ⟨d,0,none⟩) m m,.slice (some ⟨g,0,none⟩) l.length l.length,.slice (some ⟨f,0,none⟩) l.length l.length,.int .i64 0])).run Tryz.prog W=.ok () (F W d g f):=fun W d g f j=>by
  rw[hF];exact run_storeAt_mid (P:=Tryz.prog) W (w.heap.size+1) 0 120 _ (kB (R.out W j).1 14 (by decide)) (by rw[Tryz.size120];rfl) (by simp[Value.oneCell'])
 have a6:Hid (∀W d g f,P W→(F W d g f).heap[w.heap.size+1]?=some (.cells #[.int .i64 i,.bool o,.int .i64 r,.int .i64 s,.int .i64 u,.int .i64 y,.int .i64 z,.int .i64 A,.int .i64 B,.int .i64 mo,.slice (some ⟨d,0,none⟩) m m,.slice (some ⟨g,0,none⟩) l.length l.length,.slice (some ⟨f,0,none⟩) l.length l.length,.int .i64 0] 120 (0,0))∧aH (·=w.heap.size+1) W (F W d g f)):=fun W d g f j=>by
  rw[hF];exact⟨kO _ (R.out W j).1 rfl,jB _ _ _ _⟩
 have b6:Hid (∀W d g f,P W→(F W d g f).cell? ⟨w.heap.size,0,none⟩=some (.bool o)∧(F W d g f).cell? ⟨w.heap.size,1,none⟩=some (.int .i64 m)∧(F W d g f).cell? ⟨w.heap.size,2,none⟩=some (.int .i64 r)∧(F W d g f).cell? ⟨w.heap.size,3,none⟩=some (.int .i64 s)∧(F W d g f).cell? ⟨w.heap.size,4,none⟩=some (.int .i64 u)∧(F W d g f).cell? ⟨w.heap.size,5,none⟩=some (.int .i64 y)∧(F W d g f).cell? ⟨w.heap.size,6,none⟩=some (.int .i64 z)∧(F W d g f).cell? ⟨w.heap.size,7,none⟩=some (.int .i64 A)∧(F W d g f).cell? ⟨w.heap.size,8,none⟩=some (.int .i64 B)∧(F W d g f).cell? ⟨w.heap.size,9,none⟩=some (.slice (some ⟨q,0,none⟩) l.length c)):=fun W d g f j=>a3.out _ (((a6.out W d g f j).2.block w.heap.size (by have:=(R.out W j).2.2;have:=Z.out;omega) (by omega)).trans (((C.out W j).block _ (by have:=Z.out;omega)).trans b5.out))
 have b7:=aI a5;clear hF a5;generalize (Obj.cells ((List.replicate m (0:Int)).map (Value.int .i64)).toArray 3 (0,0))=c3 at *;generalize (Obj.cells (l.flatMap fun p=>aY p.2 dC).toArray 166 (0,0))=c4 at *;generalize (Obj.cells ((fM l.length prio).map (Value.int .i64)).toArray 3 (0,0))=c5 at *;obtain⟨c6,c7,c8,c9,d0,d1,d2,d3,d4,d5⟩:=L.out _ I.out
 go_enter Tryz.func51,Tryz.ntmps51
 go_wp2_with fail
 rw[←b4.out]
 go_region_held3 (fun w'=>w'.cell? ⟨w.heap.size,0,none⟩=some (.bool o)∧w'.cell? ⟨w.heap.size,1,none⟩=some (.int .i64 m)∧w'.cell? ⟨w.heap.size,2,none⟩=some (.int .i64 r)∧w'.cell? ⟨w.heap.size,3,none⟩=some (.int .i64 s)∧w'.cell? ⟨w.heap.size,4,none⟩=some (.int .i64 u)∧w'.cell? ⟨w.heap.size,5,none⟩=some (.int .i64 y)∧w'.cell? ⟨w.heap.size,6,none⟩=some (.int .i64 z)∧w'.cell? ⟨w.heap.size,7,none⟩=some (.int .i64 A)∧w'.cell? ⟨w.heap.size,8,none⟩=some (.int .i64 B)∧w'.cell? ⟨w.heap.size,9,none⟩=some (.slice (some ⟨q,0,none⟩) l.length c))
  ((first| exact L.out _ I.out| exact L.out _ (O.out _ I.out)| exact L.out _ (by assumption)| exact b6.out _ _ _ _ (by assumption)))
  (first
   | (go_at_call 91;refine(b1.out _ (by first | assumption | exact O.out _ I.out)).mono ?_;rintro e d6 ⟨d,rfl,d7,H,d8,a7,d9,e0⟩)
   | (go_at_call 93;refine(b2.out _ (by first | assumption | exact O.out _ I.out)).mono ?_;rintro e e1 ⟨g,rfl,e2,e3,e4,a8,a9,e5⟩)
   | (go_at_call 95;refine(b3.out _ (by first | assumption | exact O.out _ I.out)).mono ?_;rintro e a0 ⟨f,rfl,e6,e7,e8,b8,S,a1⟩;have e9:=fun a b c=>b7.out a0 a b c a1))
 all_goals
  go_wp2
  have U:=Z.out;obtain⟨b9,T⟩:=a6.out a0 d g f a1;obtain⟨_,c0,f0⟩:=R.out a0 a1;refine bodyPost_ret (v:=.agg #[.int .i64 i,.bool o,.int .i64 r,.int .i64 s,.int .i64 u,.int .i64 y,.int .i64 z,.int .i64 A,.int .i64 B,.int .i64 mo,.slice (some ⟨d,0,none⟩) m m,.slice (some ⟨g,0,none⟩) l.length l.length,.slice (some ⟨f,0,none⟩) l.length l.length,.int .i64 0]) (qI Tryz.results51 _ _ _ (by rfl) b9 Tryz.underlying120 (by rw[Tryz.size120];rfl)) rfl ?_;exact⟨d,g,f,rfl,⟨by omega,by omega,by omega,by omega⟩,(T.block d (by have:=aR (eT S (eT a9 a7));omega) (by omega)).trans (eT S (eT a9 a7)),(T.block g (by have:=aR (eT S a8);omega) (by omega)).trans (eT S a8),(T.block f (by omega) (by omega)).trans b8,c0.trans (T.below (by omega) (fun k f1=>by omega))⟩
end
section
open Go.RowKit
def Ti(x:El):List Value:=[.int .i64 (x.i 0),.int .i64 (x.i 1),.int .i64 (x.i 2)]
def Kx(l:List El):List Value:=l.flatMap Ti
theorem Gy(cb:Nat)(many:Nat)(N:many≤255)(S:Nat→Prop)(w:World)(B:∀b,S b→b<w.heap.size)(a:Nat→List El→World→Prop)
 (C:∀c l wr w',a c l wr→aH (fun b=>w.heap.size≤b∧b<w.heap.size+3) wr w'→a c l w')
 (D:∀c l wr,c<many→a c l wr→w.heap.size+3≤wr.heap.size→Calls Tryz.prog 54 #[.int .i64 c,.pointer (some ⟨cb,0,none⟩)] wr fun e w'=>∃x:El,e=.returned (.agg #[.int .i64 (x.i 0),.int .i64 (x.i 1),.int .i64 (x.i 2)])∧a (c+1) (l++[x]) w'∧aH S wr w')
 (E:a 0 [] w):Calls Tryz.prog 53 #[.int .i64 many,.func (.func 54) #[] #[.pointer (some ⟨cb,0,none⟩)]] w fun e w'=>∃x l,e=.returned (.agg #[.slice (some ⟨x,0,none⟩) many many])∧a many l w'∧l.length=many∧w'.ownsRow w.heap.size 131 3 (.slice (some ⟨x,0,none⟩) many many) many (Kx l):=by
 obtain⟨O,Q,R,T,U⟩:=info_parts Tryz.info131;have V:∀W:World,(Instr.makeSlice 68 (.int .i64 (many:Int)) (.int .i64 (many:Int))).run Tryz.prog W=.ok (.slice (some ⟨W.heap.size,0,none⟩) many many) (W.alloc (.cells (madeCells #[.int .i64 0,.int .i64 0,.int .i64 0] (many*3)) 131)):=by
  intro W;have:=run_make (P:=Tryz.prog) (w:=W) 68 131 O _ Tryz.underlying68 Q R .i64 .i64 (many:Int) (many:Int) (by omega) (by omega) (by rw[U];omega) (by omega)
  simpa[T,Value.cells]using this
 generalize F:madeCells #[.int .i64 0,.int .i64 0,.int .i64 0] (many*3)=z at V;have G:z.size=many*3:=by rw[←F];simp[madeCells]
 have o:=aI C;have X:=aI B;have Y:=aI D;have Z:=aI E;clear C B D E F;have a0:=aI (nF w 128 131 3 many z N G)
 go_enter Tryz.func53,Tryz.ntmps53
 go_wp2
 go_loopw [13] (fun t wr=>∃ (k:Nat) (l:List El) (d:List Value),k≤many∧t=.int .i64 k∧l.length=k∧a k l wr∧w.heap.size+3≤wr.heap.size∧wr.heap[w.heap.size]?=some (.cells #[.slice none 0 0] 128 (0,0))∧wr.heap[w.heap.size+2]?=some (.cells #[.slice (some ⟨w.heap.size+1,0,none⟩) many many] 128 (0,0))∧wr.ownsRow w.heap.size 131 3 (.slice (some ⟨w.heap.size+1,0,none⟩) many many) many (Kx l++d)∧d.length=(many-k)*3) (fun t _=>many-(intOf t).toNat)
 case atStart=>
  obtain⟨a1,b4,a2,a3,p⟩:=a0.out _ rfl;exact⟨0,[],z.toList,by omega,rfl,rfl,o.out _ _ _ _ Z.out (a1.mono (fun _ h=>h.elim)),by omega,a2,a3,p,by simp[G]⟩
 case round=>
  obtain⟨k,l,d,b5,rfl,j,q,a4,g,r,i,m⟩:=hrel;have b6:wr.cell? ⟨w.heap.size+2,0,none⟩=some (.slice (some ⟨w.heap.size+1,0,none⟩) many many):=aD r
  by_cases H:k<many
  ·have a5:=aI (Y.out k l wr.drew H (o.out _ _ _ _ q ⟨rfl,rfl,rfl,Nat.le_refl _,fun _ _ _=>rfl⟩) (by show w.heap.size+3≤wr.heap.size;omega));have a6:=aI (lM Ti 3 (fun _=>rfl) 128 131 w many k S X.out a o.out l d wr H j a4 g r i m);have a7:Hid ((d.drop 3).length=(many-(k+1))*3):=by show _=_;rw[List.length_drop,m];omega
   have a8:Hid (∀x:El,(l++[x]).length=k+1):=fun x=>by rw[List.length_append,j];rfl
   clear q g r i j m;go_wp2_with fail
   go_region_law (go_simp;(with_reducible show Calls Tryz.prog 54 _ _ _);refine a5.out.mono ?_;rintro e I ⟨x,rfl,J,L⟩;obtain⟨b7,⟨a9,s⟩,u,p⟩:=a6.out x I J L;have n:=aI p;have b8:I.cell? ⟨w.heap.size+1,k*3,none⟩=some (a9 0):=s 0 (by omega);have b9:=s 1 (by omega);have c0:=s 2 (by omega);have c1:=u (k*3);have c2:=u (k*3+1);have c3:=u (k*3+2);clear J L s u p)
   all_goals (
    go_wp2
    go_roundw
    case rel=>exact⟨k+1,l++[x],d.drop 3,by omega,by go_num,a8.out x,n.out.1,n.out.2.1,n.out.2.2.1,n.out.2.2.2.1,n.out.2.2.2.2,a7.out⟩
    case measure=>simp[intOf];omega)
  ·obtain rfl:k=many:=by omega
   obtain rfl:d=[]:=List.eq_nil_of_length_eq_zero (by rw[m,Nat.sub_self,Nat.zero_mul]);rw[List.append_nil]at i;have c4:wr.cell? ⟨w.heap.size,0,none⟩=some (.slice none 0 0):=aD g;have c5:=aJ g 0;obtain⟨f,y⟩:∃f,f=wr.setCell ⟨w.heap.size,0,none⟩ (.slice (some ⟨w.heap.size+1,0,none⟩) k k):=⟨_,rfl⟩;have M:f.heap[w.heap.size]?=some (.cells #[.slice (some ⟨w.heap.size+1,0,none⟩) k k] 128 (0,0)):=by rw[y];exact aK g 0 _
   have b0:f.cell? ⟨w.heap.size,0,none⟩=some (.slice (some ⟨w.heap.size+1,0,none⟩) k k):=aD M;have A:aH (·=w.heap.size) wr f:=by rw[y];exact aH.ofSet _ _ _ _ rfl
   have b1:Hid (a k l f∧l.length=k∧f.ownsRow w.heap.size 131 3 (.slice (some ⟨w.heap.size+1,0,none⟩) k k) k (Kx l)):=⟨o.out _ _ _ _ q (A.mono (fun b b2=>by rw[b2];omega)),j,aO i (fun b e=>A.block b (World.ownsRow.lt i b e).2 (by simp[Value.ownBlock]at e;omega))⟩;have b3:=aI y;clear q g r i j m M A y;go_wp2
   rw[←b3.out];refine bodyPost_ret (v:=.agg #[.slice (some ⟨w.heap.size+1,0,none⟩) k k]) (by simp[results,Tryz.results53,go_sem,b0]) rfl ?_;exact⟨_,l,rfl,b1.out⟩
theorem qB(P:Program)(w:World)(a:Addr)(b:Mode)(r:Option Nat):(store a (.chan r) b).run P w=stored P w a (.chan r) b:=run_store P w a _ b rfl
attribute [local go_sem] qB
theorem Tryz.info139:(Tryz.prog.info? 139).map (fun i=>(i.zero,i.size,i.bytes))=some (some (.agg #[.int .i64 0,.int .i64 0,.chan none]),3,24):=by kernel_rfl
def Tl(x:El):List Value:=[.int .i64 (x.i 0),.int .i64 (x.i 1),.chan x.ch]
def Km(l:List El):List Value:=l.flatMap Tl
theorem Cc(cb:Nat)(many:Nat)(N:many≤255)(S:Nat→Prop)(w:World)(B:∀b,S b→b<w.heap.size)(a:Nat→List El→World→Prop)
 (C:∀c l wr w',a c l wr→aH (fun b=>w.heap.size≤b∧b<w.heap.size+3) wr w'→a c l w')
 (D:∀c l wr,c<many→a c l wr→w.heap.size+3≤wr.heap.size→Calls Tryz.prog 56 #[.int .i64 c,.pointer (some ⟨cb,0,none⟩)] wr fun e w'=>∃x:El,e=.returned (.agg #[.int .i64 (x.i 0),.int .i64 (x.i 1),.chan x.ch])∧a (c+1) (l++[x]) w'∧aH S wr w')
 (E:a 0 [] w):Calls Tryz.prog 55 #[.int .i64 many,.func (.func 56) #[] #[.pointer (some ⟨cb,0,none⟩)]] w fun e w'=>∃x l,e=.returned (.agg #[.slice (some ⟨x,0,none⟩) many many])∧a many l w'∧l.length=many∧w'.ownsRow w.heap.size 139 3 (.slice (some ⟨x,0,none⟩) many many) many (Km l):=by
 obtain⟨O,Q,R,T,U⟩:=info_parts Tryz.info139;have V:∀W:World,(Instr.makeSlice 133 (.int .i64 (many:Int)) (.int .i64 (many:Int))).run Tryz.prog W=.ok (.slice (some ⟨W.heap.size,0,none⟩) many many) (W.alloc (.cells (madeCells #[.int .i64 0,.int .i64 0,.chan none] (many*3)) 139)):=by
  intro W;have:=run_make (P:=Tryz.prog) (w:=W) 133 139 O _ Tryz.underlying133 Q R .i64 .i64 (many:Int) (many:Int) (by omega) (by omega) (by rw[U];omega) (by omega)
  simpa[T,Value.cells]using this
 generalize F:madeCells #[.int .i64 0,.int .i64 0,.chan none] (many*3)=z at V;have G:z.size=many*3:=by rw[←F];simp[madeCells]
 have o:=aI C;have X:=aI B;have Y:=aI D;have Z:=aI E;clear C B D E F;have a0:=aI (nF w 135 139 3 many z N G)
 go_enter Tryz.func55,Tryz.ntmps55
 go_wp2
 go_loopw [13] (fun t wr=>∃ (k:Nat) (l:List El) (d:List Value),k≤many∧t=.int .i64 k∧l.length=k∧a k l wr∧w.heap.size+3≤wr.heap.size∧wr.heap[w.heap.size]?=some (.cells #[.slice none 0 0] 135 (0,0))∧wr.heap[w.heap.size+2]?=some (.cells #[.slice (some ⟨w.heap.size+1,0,none⟩) many many] 135 (0,0))∧wr.ownsRow w.heap.size 139 3 (.slice (some ⟨w.heap.size+1,0,none⟩) many many) many (Km l++d)∧d.length=(many-k)*3) (fun t _=>many-(intOf t).toNat)
 case atStart=>
  obtain⟨a1,b4,a2,a3,p⟩:=a0.out _ rfl;exact⟨0,[],z.toList,by omega,rfl,rfl,o.out _ _ _ _ Z.out (a1.mono (fun _ h=>h.elim)),by omega,a2,a3,p,by simp[G]⟩
 case round=>
  obtain⟨k,l,d,b5,rfl,j,q,a4,g,r,i,m⟩:=hrel;have b6:wr.cell? ⟨w.heap.size+2,0,none⟩=some (.slice (some ⟨w.heap.size+1,0,none⟩) many many):=aD r
  by_cases H:k<many
  ·have a5:=aI (Y.out k l wr.drew H (o.out _ _ _ _ q ⟨rfl,rfl,rfl,Nat.le_refl _,fun _ _ _=>rfl⟩) (by show w.heap.size+3≤wr.heap.size;omega));have a6:=aI (lM Tl 3 (fun _=>rfl) 135 139 w many k S X.out a o.out l d wr H j a4 g r i m);have a7:Hid ((d.drop 3).length=(many-(k+1))*3):=by show _=_;rw[List.length_drop,m];omega
   have a8:Hid (∀x:El,(l++[x]).length=k+1):=fun x=>by rw[List.length_append,j];rfl
   clear q g r i j m;go_wp2_with fail
   go_region_law (go_simp;(with_reducible show Calls Tryz.prog 56 _ _ _);refine a5.out.mono ?_;rintro e I ⟨x,rfl,J,L⟩;obtain⟨b7,⟨a9,s⟩,u,p⟩:=a6.out x I J L;have n:=aI p;have b8:I.cell? ⟨w.heap.size+1,k*3,none⟩=some (a9 0):=s 0 (by omega);have b9:=s 1 (by omega);have c0:=s 2 (by omega);have c1:=u (k*3);have c2:=u (k*3+1);have c3:=u (k*3+2);clear J L s u p)
   all_goals (
    go_wp2
    go_roundw
    case rel=>exact⟨k+1,l++[x],d.drop 3,by omega,by go_num,a8.out x,n.out.1,n.out.2.1,n.out.2.2.1,n.out.2.2.2.1,n.out.2.2.2.2,a7.out⟩
    case measure=>simp[intOf];omega)
  ·obtain rfl:k=many:=by omega
   obtain rfl:d=[]:=List.eq_nil_of_length_eq_zero (by rw[m,Nat.sub_self,Nat.zero_mul]);rw[List.append_nil]at i;have c4:wr.cell? ⟨w.heap.size,0,none⟩=some (.slice none 0 0):=aD g;have c5:=aJ g 0;obtain⟨f,y⟩:∃f,f=wr.setCell ⟨w.heap.size,0,none⟩ (.slice (some ⟨w.heap.size+1,0,none⟩) k k):=⟨_,rfl⟩;have M:f.heap[w.heap.size]?=some (.cells #[.slice (some ⟨w.heap.size+1,0,none⟩) k k] 135 (0,0)):=by rw[y];exact aK g 0 _
   have b0:f.cell? ⟨w.heap.size,0,none⟩=some (.slice (some ⟨w.heap.size+1,0,none⟩) k k):=aD M;have A:aH (·=w.heap.size) wr f:=by rw[y];exact aH.ofSet _ _ _ _ rfl
   have b1:Hid (a k l f∧l.length=k∧f.ownsRow w.heap.size 139 3 (.slice (some ⟨w.heap.size+1,0,none⟩) k k) k (Km l)):=⟨o.out _ _ _ _ q (A.mono (fun b b2=>by rw[b2];omega)),j,aO i (fun b e=>A.block b (World.ownsRow.lt i b e).2 (by simp[Value.ownBlock]at e;omega))⟩;have b3:=aI y;clear q g r i j m M A y;go_wp2
   rw[←b3.out];refine bodyPost_ret (v:=.agg #[.slice (some ⟨w.heap.size+1,0,none⟩) k k]) (by simp[results,Tryz.results55,go_sem,b0]) rfl ?_;exact⟨_,l,rfl,b1.out⟩
def Tm(x:El):List Value:=[.int .i64 (x.i 0),.int .i64 (x.i 1),.bool x.b]
def Ku(l:List El):List Value:=l.flatMap Tm
theorem zY(cb:Nat)(many:Nat)(N:many≤255)(S:Nat→Prop)(w:World)(B:∀b,S b→b<w.heap.size)(a:Nat→List El→World→Prop)
 (C:∀c l wr w',a c l wr→aH (fun b=>w.heap.size≤b∧b<w.heap.size+3) wr w'→a c l w')
 (D:∀c l wr,c<many→a c l wr→w.heap.size+3≤wr.heap.size→Calls Tryz.prog 110 #[.int .i64 c,.pointer (some ⟨cb,0,none⟩)] wr fun e w'=>∃x:El,e=.returned (.agg #[.int .i64 (x.i 0),.int .i64 (x.i 1),.bool x.b])∧a (c+1) (l++[x]) w'∧aH S wr w')
 (E:a 0 [] w):Calls Tryz.prog 108 #[.int .i64 many,.func (.func 110) #[] #[.pointer (some ⟨cb,0,none⟩)]] w fun e w'=>∃x l,e=.returned (.agg #[.slice (some ⟨x,0,none⟩) many many])∧a many l w'∧l.length=many∧w'.ownsRow w.heap.size 47 3 (.slice (some ⟨x,0,none⟩) many many) many (Ku l):=by
 obtain⟨O,Q,R,T,U⟩:=info_parts Tryz.info47;have V:∀W:World,(Instr.makeSlice 41 (.int .i64 (many:Int)) (.int .i64 (many:Int))).run Tryz.prog W=.ok (.slice (some ⟨W.heap.size,0,none⟩) many many) (W.alloc (.cells (madeCells #[.int .i64 0,.int .i64 0,.bool false] (many*3)) 47)):=by
  intro W;have:=run_make (P:=Tryz.prog) (w:=W) 41 47 O _ Tryz.underlying41 Q R .i64 .i64 (many:Int) (many:Int) (by omega) (by omega) (by rw[U];omega) (by omega)
  simpa[T,Value.cells]using this
 generalize F:madeCells #[.int .i64 0,.int .i64 0,.bool false] (many*3)=z at V;have G:z.size=many*3:=by rw[←F];simp[madeCells]
 have o:=aI C;have X:=aI B;have Y:=aI D;have Z:=aI E;clear C B D E F;have a0:=aI (nF w 213 47 3 many z N G)
 go_enter Tryz.func108,Tryz.ntmps108
 go_wp2
 go_loopw [13] (fun t wr=>∃ (k:Nat) (l:List El) (d:List Value),k≤many∧t=.int .i64 k∧l.length=k∧a k l wr∧w.heap.size+3≤wr.heap.size∧wr.heap[w.heap.size]?=some (.cells #[.slice none 0 0] 213 (0,0))∧wr.heap[w.heap.size+2]?=some (.cells #[.slice (some ⟨w.heap.size+1,0,none⟩) many many] 213 (0,0))∧wr.ownsRow w.heap.size 47 3 (.slice (some ⟨w.heap.size+1,0,none⟩) many many) many (Ku l++d)∧d.length=(many-k)*3) (fun t _=>many-(intOf t).toNat)
 case atStart=>
  obtain⟨a1,b4,a2,a3,p⟩:=a0.out _ rfl;exact⟨0,[],z.toList,by omega,rfl,rfl,o.out _ _ _ _ Z.out (a1.mono (fun _ h=>h.elim)),by omega,a2,a3,p,by simp[G]⟩
 case round=>
  obtain⟨k,l,d,b5,rfl,j,q,a4,g,r,i,m⟩:=hrel;have b6:wr.cell? ⟨w.heap.size+2,0,none⟩=some (.slice (some ⟨w.heap.size+1,0,none⟩) many many):=aD r
  by_cases H:k<many
  ·have a5:=aI (Y.out k l wr.drew H (o.out _ _ _ _ q ⟨rfl,rfl,rfl,Nat.le_refl _,fun _ _ _=>rfl⟩) (by show w.heap.size+3≤wr.heap.size;omega));have a6:=aI (lM Tm 3 (fun _=>rfl) 213 47 w many k S X.out a o.out l d wr H j a4 g r i m);have a7:Hid ((d.drop 3).length=(many-(k+1))*3):=by show _=_;rw[List.length_drop,m];omega
   have a8:Hid (∀x:El,(l++[x]).length=k+1):=fun x=>by rw[List.length_append,j];rfl
   clear q g r i j m;go_wp2_with fail
   go_region_law (go_simp;(with_reducible show Calls Tryz.prog 110 _ _ _);refine a5.out.mono ?_;rintro e I ⟨x,rfl,J,L⟩;obtain⟨b7,⟨a9,s⟩,u,p⟩:=a6.out x I J L;have n:=aI p;have b8:I.cell? ⟨w.heap.size+1,k*3,none⟩=some (a9 0):=s 0 (by omega);have b9:=s 1 (by omega);have c0:=s 2 (by omega);have c1:=u (k*3);have c2:=u (k*3+1);have c3:=u (k*3+2);clear J L s u p)
   all_goals (
    go_wp2
    go_roundw
    case rel=>exact⟨k+1,l++[x],d.drop 3,by omega,by go_num,a8.out x,n.out.1,n.out.2.1,n.out.2.2.1,n.out.2.2.2.1,n.out.2.2.2.2,a7.out⟩
    case measure=>simp[intOf];omega)
  ·obtain rfl:k=many:=by omega
   obtain rfl:d=[]:=List.eq_nil_of_length_eq_zero (by rw[m,Nat.sub_self,Nat.zero_mul]);rw[List.append_nil]at i;have c4:wr.cell? ⟨w.heap.size,0,none⟩=some (.slice none 0 0):=aD g;have c5:=aJ g 0;obtain⟨f,y⟩:∃f,f=wr.setCell ⟨w.heap.size,0,none⟩ (.slice (some ⟨w.heap.size+1,0,none⟩) k k):=⟨_,rfl⟩;have M:f.heap[w.heap.size]?=some (.cells #[.slice (some ⟨w.heap.size+1,0,none⟩) k k] 213 (0,0)):=by rw[y];exact aK g 0 _
   have b0:f.cell? ⟨w.heap.size,0,none⟩=some (.slice (some ⟨w.heap.size+1,0,none⟩) k k):=aD M;have A:aH (·=w.heap.size) wr f:=by rw[y];exact aH.ofSet _ _ _ _ rfl
   have b1:Hid (a k l f∧l.length=k∧f.ownsRow w.heap.size 47 3 (.slice (some ⟨w.heap.size+1,0,none⟩) k k) k (Ku l)):=⟨o.out _ _ _ _ q (A.mono (fun b b2=>by rw[b2];omega)),j,aO i (fun b e=>A.block b (World.ownsRow.lt i b e).2 (by simp[Value.ownBlock]at e;omega))⟩;have b3:=aI y;clear q g r i j m M A y;go_wp2
   rw[←b3.out];refine bodyPost_ret (v:=.agg #[.slice (some ⟨w.heap.size+1,0,none⟩) k k]) (by simp[results,Tryz.results108,go_sem,b0]) rfl ?_;exact⟨_,l,rfl,b1.out⟩
end
section
structure Jp(p:Pr):Prop where
 prio:0≤p.prio∧p.prio≤9
 len:1≤p.code.length∧p.code.length≤20
 code:∀c∈p.code,(0≤c.1∧c.1≤13)∧(0≤c.2∧c.2≤255)∧(c.1=4→c.2<p.code.length)
structure sE(p:Pt):Prop where
 words:1≤p.words∧p.words≤16
 limit:0≤p.limit∧p.limit≤9
 six:p.acts.length=6
 acts:∀a∈p.acts,1≤a∧a≤7
 last:p.acts.getD 5 0≠2∧p.acts.getD 5 0≠3
 few:1≤p.procs.length∧p.procs.length≤2
 procs:∀q∈p.procs,Jp q
structure tR(cf:Cf):Prop where
 frame:1≤cf.frame∧cf.frame≤64
 watch:0≤cf.watch∧cf.watch≤200
 few:1≤cf.parts.length∧cf.parts.length≤4
 parts:∀p∈cf.parts,sE p
 nwins:1≤cf.wins.length∧cf.wins.length≤8
 wins:∀x∈cf.wins,(0≤x.part∧x.part<cf.parts.length)∧0≤x.first∧1≤x.many∧x.first+x.many≤cf.frame
 order:cf.wins.Pairwise fun a b=>a.first+a.many≤b.first
 nchans:cf.chans.length≤4
 chans:∀x∈cf.chans,(0≤x.src∧x.src<cf.parts.length)∧(0≤x.dst∧x.dst<cf.parts.length)∧x.src≠x.dst∧1≤x.depth∧x.depth≤4
theorem tK{α:Type}(f:Rd→α×Rd)(c:α→Prop)(d:∀r,(f r).2.err=0→r.err=0∧c (f r).1)(k:Nat)(r:Rd)(h:(bH f k r).2.err=0):r.err=0∧(bH f k r).1.length=k∧∀x∈(bH f k r).1,c x:=by
 induction k with
 | zero=>exact⟨h,rfl,fun x a=>by simp[bH]at a⟩
 | succ k ih=>
  by_cases b:(bH f k r).2.err=0
  ·rw[jP f k r b]at h ⊢;obtain⟨g,i,j⟩:=ih b;obtain⟨_,l⟩:=d _ h;refine⟨g,by simp[i],fun x a=>?_⟩;rcases List.mem_append.1 a with a| a
   ·exact j x a
   ·rw[List.mem_singleton.1 a];exact l
  ·rw[fT f k r b (k+1) (by omega)]at h;exact absurd h b
theorem fP(zs:List Int)(a b:Int)(r:Rd)(h:(bS zs a b r).2.err=0):r.err=0∧a≤(bS zs a b r).1∧(bS zs a b r).1≤b:=by
 obtain⟨c,_,d,f,g,_⟩:=Bt zs a b r h;exact⟨c,by omega,by omega⟩
theorem yP(v a:Int)(r:Rd)(h:(gN v a r).err=0):r.err=0∧v≠a:=by
 unfold gN at h;split at h
 ·simp at h
 ·rename_i b
  exact⟨h,fun e=>b ⟨h,e⟩⟩
theorem Fw(zs:List Int)(r:Rd)(h:(eS zs r).2.err=0):r.err=0∧Jp (eS zs r).1:=by
 unfold eS at h ⊢;simp only at h ⊢;obtain⟨g,f,i⟩:=tK (iY zs _) (fun c=>(0≤c.1∧c.1≤13)∧(0≤c.2∧c.2≤255)∧(c.1=4→c.2<(bS zs 1 20 (bS zs 0 9 r).2).1)) (fun y b=>by
  unfold iY at b ⊢;simp only at b ⊢;obtain⟨j,k,d⟩:=fP _ _ _ _ b;obtain⟨l,m,n⟩:=fP _ _ _ _ j;refine⟨l,⟨m,n⟩,⟨k,?_⟩,fun a=>?_⟩
  ·split at d
   ·rename_i a
    have z:=(jF zs 1 20 (bS zs 0 9 r).2 (by omega)).2;rw[if_pos a];omega
   ·rename_i a
    rw[if_neg a];exact d
  ·rw[if_pos a]at d ⊢;omega) _ _ h
 obtain⟨c1,c2,A⟩:=fP _ _ _ _ g;obtain⟨o,p,q⟩:=fP _ _ _ _ c1;refine⟨o,⟨p,q⟩,by rw[f];omega,fun c s=>?_⟩;obtain⟨u,v,x⟩:=i c s;refine⟨u,v,fun a=>?_⟩;rw[f];have:=x a;omega
theorem Of(zs:List Int)(k:Nat)(r:Rd)(u:k≤6)(h:(cO zs k r).2.err=0):r.err=0∧(∀a∈(cO zs k r).1,1≤a∧a≤7)∧(6≤k→(cO zs k r).1.getD 5 0≠2∧(cO zs k r).1.getD 5 0≠3):=by
 induction k with
 | zero=>exact⟨h,fun a b=>by simp[cO]at b,fun h=>by omega⟩
 | succ k ih=>
  have i:cO zs (k+1) r=((cO zs k r).1++[(tH zs k (cO zs k r).2).1],(tH zs k (cO zs k r).2).2):=rfl;rw[i]at h ⊢;simp only at h ⊢;have d:(bS zs 1 7 (cO zs k r).2).2.err=0∧(k=5→(bS zs 1 7 (cO zs k r).2).1≠2∧(bS zs 1 7 (cO zs k r).2).1≠3):=by
   unfold tH at h;simp only at h
   by_cases c:k=5
   ·rw[if_pos c]at h;obtain⟨j,l⟩:=yP _ _ _ h;obtain⟨m,n⟩:=yP _ _ _ j;exact⟨m,fun _=>⟨n,l⟩⟩
   ·rw[if_neg c]at h;exact⟨h,fun f=>absurd f c⟩
  obtain⟨o,v,x⟩:=fP _ _ _ _ d.1;obtain⟨p,q,_⟩:=ih (by omega) o;have g:(tH zs k (cO zs k r).2).1=(bS zs 1 7 (cO zs k r).2).1:=rfl;refine⟨p,fun a b=>?_,fun f=>?_⟩
  ·rcases List.mem_append.1 b with b| b
   ·exact q a b
   ·rw[List.mem_singleton.1 b,g];omega
  ·obtain rfl:k=5:=by omega
   have s:=nZ zs 5 r;rw[List.getD_eq_getElem?_getD,List.getElem?_append_right (by omega),s,g];exact d.2 rfl
theorem Ds(zs:List Int)(r:Rd)(h:(dP zs r).2.err=0):r.err=0∧sE (dP zs r).1:=by
 unfold dP at h ⊢;simp only at h ⊢;obtain⟨a,b,c⟩:=tK (eS zs) Jp (Fw zs) _ _ h;obtain⟨d,o,p⟩:=fP _ _ _ _ a;obtain⟨f,g,i⟩:=Of zs 6 _ (by omega) d;obtain⟨c1,c2,j⟩:=fP _ _ _ _ f;obtain⟨k,l,m⟩:=fP _ _ _ _ c1;obtain⟨n,_,_⟩:=fP _ _ _ _ k;exact⟨n,⟨l,m⟩,⟨c2,j⟩,nZ zs 6 _,g,i (Nat.le_refl _),by rw[b];omega,c⟩
theorem Et(zs:List Int)(n frame:Int)(k:Nat)(r:Rd)(B:0≤r.fin)(h:(bH (cX zs n frame) k r).2.err=0):
 r.err=0∧(bH (cX zs n frame) k r).1.length=k∧r.fin≤(bH (cX zs n frame) k r).2.fin∧(∀x∈(bH (cX zs n frame) k r).1,((0≤x.part∧x.part<n)∧0≤x.first∧1≤x.many∧x.first+x.many≤frame)∧x.first+x.many≤(bH (cX zs n frame) k r).2.fin)∧(bH (cX zs n frame) k r).1.Pairwise fun a b=>a.first+a.many≤b.first:=by
 induction k with
 | zero=>exact⟨h,rfl,Int.le_refl _,fun x i=>by simp[bH]at i,List.Pairwise.nil⟩
 | succ k ih=>
  by_cases d:(bH (cX zs n frame) k r).2.err=0
  ·rw[jP _ k r d]at h ⊢;obtain⟨j,l,C,g,m⟩:=ih d;generalize bH (cX zs n frame) k r=s at *;simp only at h ⊢;have D:(cX zs n frame s.2).1.first+(cX zs n frame s.2).1.many=(cX zs n frame s.2).2.fin:=rfl;have f:((0≤(cX zs n frame s.2).1.part∧(cX zs n frame s.2).1.part<n)∧s.2.fin≤(cX zs n frame s.2).1.first∧1≤(cX zs n frame s.2).1.many∧(cX zs n frame s.2).1.first+(cX zs n frame s.2).1.many≤frame):=by
    unfold cX at h ⊢;simp only at h ⊢;obtain⟨o,p,E⟩:=fP _ _ _ _ h;obtain⟨q,u,F⟩:=fP _ _ _ _ o;obtain⟨c1,c2,G⟩:=fP _ _ _ _ q;exact⟨⟨c2,by omega⟩,u,p,by omega⟩
   generalize cX zs n frame s.2=x at *;refine⟨j,by simp[l],by omega,fun v c=>?_,?_⟩
   ·rcases List.mem_append.1 c with c| c
    ·obtain⟨y,H⟩:=g v c;exact⟨y,by omega⟩
    ·rw[List.mem_singleton.1 c];exact⟨⟨f.1,by omega,f.2.2.1,f.2.2.2⟩,by omega⟩
   ·refine List.pairwise_append.2 ⟨m,List.pairwise_singleton _ _,fun a z b A=>?_⟩;rw[List.mem_singleton.1 A];have:=(g a z).2;omega
  ·rw[fT _ k r d (k+1) (by omega)]at h;exact absurd h d
theorem Ng(zs:List Int)(h:(pG zs).2.err=0):tR (pG zs).1:=by
 unfold pG at h ⊢;simp only at h ⊢;obtain⟨o,p,q⟩:=tK (fN zs _) (fun x=>(0≤x.src∧x.src<(bS zs 1 4 (bS zs 72 72 ⟨0,0,0,0⟩).2).1)∧(0≤x.dst∧x.dst<(bS zs 1 4 (bS zs 72 72 ⟨0,0,0,0⟩).2).1)∧x.src≠x.dst∧1≤x.depth∧x.depth≤4) (fun r b=>by
  unfold fN at b ⊢;simp only at b ⊢;obtain⟨c,l,m⟩:=fP _ _ _ _ b;obtain⟨d,f⟩:=yP _ _ _ c;obtain⟨c1,c2,s⟩:=fP _ _ _ _ d;obtain⟨g,a,n⟩:=fP _ _ _ _ c1;exact⟨g,⟨a,by omega⟩,⟨c2,by omega⟩,fun e=>f e.symm,l,m⟩) _ _ h
 obtain⟨c,l,m⟩:=fP _ _ _ _ o;obtain⟨d,f,_,u,v⟩:=Et zs _ _ _ _ (Int.le_refl _) c;obtain⟨c1,c2,s⟩:=fP _ _ _ _ d;obtain⟨g,a,n⟩:=tK (dP zs) sE (Ds zs) _ _ c1;obtain⟨y,z,A⟩:=fP _ _ _ _ g;obtain⟨B,C,D⟩:=fP _ _ _ _ y;obtain⟨H,I,J⟩:=fP _ _ _ _ B;refine⟨⟨C,D⟩,⟨z,A⟩,by rw[a];omega,n,by rw[f];omega,fun x i=>?_,v,by rw[p];omega,fun x i=>?_⟩
 ·obtain⟨⟨j,E⟩,F⟩:=(u x i).1;exact⟨⟨j,by rw[a];omega⟩,F⟩
 ·obtain⟨⟨j,E⟩,⟨G,L⟩,k⟩:=q x i;exact⟨⟨j,by rw[a];omega⟩,⟨G,by rw[a];omega⟩,k⟩
theorem Jv(zs:List Int)(h:(bQ zs).2.2=0):tR (bQ zs).1:=by
 unfold bQ at h ⊢;simp only at h ⊢;split at h
 ·rename_i a;exact absurd h a
 ·rename_i a
  rw[if_neg a];split at h
  ·simp at h
  ·rename_i b
   rw[if_neg b];split at h
   ·simp at h
   ·rename_i c
    rw[if_neg c];split at h
    ·simp at h
    ·rename_i d
     rw[if_neg d];exact Ng zs (by simpa using a)
end
end Go.Proofs.YtnjlbgolnbdkaaaGreat
