/- All, with short names -/
import Derived.Test.YtnjlbgolnbdkaaaGreatP28
import Derived.ArgAppend
set_option maxRecDepth 100000
set_option maxHeartbeats 16000000
namespace Go.Proofs.YtnjlbgolnbdkaaaGreat
open Go Go.RowKit
section
open Go.RowKit Go.Shelf
theorem Gw{w:World}{base:Nat}{v:Value}{q:List Int}{n:Nat}(h:w.ownsRow base 3 1 v n (q.map (Value.int .i64)))(d:n=q.length):Cm w v q:=by
 subst d;rcases h.2 with⟨f,i⟩| ⟨b,c,cur,j,r,l,m,o,s,p⟩
 ·exact .inl ⟨f,List.length_eq_zero_iff.1 i⟩
 ·refine .inr ⟨b,0,c,cur,j,l,m,by omega,o,fun k a=>?_⟩;have:(cur.toList.take (q.length*1))[k]?=(q.map (Value.int .i64))[k]?:=by rw[p]
  rw[List.getElem?_take,if_pos (by omega),List.getElem?_map,List.getElem?_eq_getElem a]at this;rw[Nat.zero_add,←Array.getElem?_toList,this];simp[List.getD_eq_getElem?_getD,a]
theorem Rk(w:World)(v:Value)(q:List Int)(L:Cm w v q)(d:Int)(ad:Addr)(c:Nat)(u:TypeId)(M:w.cell? ad=some (.int .i64 d))(W:q.length≤4):
 ∃f w',(Builtin.append_ #[40,40] u #[v,.slice (some ad) 1 c]).run Tryz.prog w=.ok f w'∧Cm w' f (q++[d])∧w.grownBy w' v.ownBlock∧(f.ownBlock=v.ownBlock∨∃b,f.ownBlock=some b∧w.heap.size≤b):=by
 obtain⟨x,z,E,m,G⟩:=info_parts Tryz.info3;have A:∀a j,[Value.int .i64 d][a]?=some j→w.cell? (ad.add a)=some j:=fun a j i=>by
  cases a with
  | zero=>
   simp at i;subst i;have:ad.add 0=ad:=by unfold Addr.add;split<;>simp_all
   rw[this];exact M
  | succ a=>simp at i
 have H:∀j∈[Value.int .i64 d],j.oneCell'=true:=fun j i=>by rw[List.mem_singleton.1 i];rfl
 have fresh:∀ {f:Value} {w':World} {N:List Value} {n:Nat},w'.ownsRow w.heap.size 3 1 f n N→0<n→∃b,f.ownBlock=some b∧w.heap.size≤b:=fun h X=>by
  rcases h.2 with⟨_,O⟩| ⟨b,c,cur,B,R,_⟩
  ·omega
  ·exact⟨b,by rw[B];rfl,R⟩
 rcases L with⟨rfl,rfl⟩| ⟨b,o,cap,cur,B,y,Y,O,T,I⟩
 ·obtain⟨f,w',p,r,l,_⟩:=run_append_own (P:=Tryz.prog) w w.heap.size 40 u 3 x _ 1 8 Tryz.underlying40 z E m G rfl (by decide) (.slice none 0 0) 0 [] (World.ownsRow_nil _ _ _ _) ad 1 c [.int .i64 d] rfl A H (by unfold maxLen;omega) (by omega) (Nat.le_refl _);exact⟨f,w',p,Gw (q:=[d]) r rfl,l,.inr (fresh r (by omega))⟩
 ·subst B
  by_cases U:q.length+1≤cap
  ·have p:=run_append_room_cells (P:=Tryz.prog) w 40 u 3 x Tryz.underlying40 z b o q.length cap ad 1 c [.int .i64 d] (by rw[m];rfl) A H U (fun a J=>by
    simp at J;subst J;rw[m,cell_of_row _ _ _ _ _ _ y,Array.getElem?_eq_getElem (by omega)];rfl) (fun a _=>aJ y _)
   refine⟨_,_,p,.inr ⟨b,o,cap,cur.setIfInBounds (o+q.length) (.int .i64 d),by simp,?_,by simp;omega,by simp;omega,T,fun k s=>?_⟩,?_,.inl rfl⟩
   ·rw[m,Nat.mul_one];exact aK y _ _
   ·rw[Array.getElem?_setIfInBounds];simp only[List.length_append,List.length_cons,List.length_nil]at s
    by_cases e:k=q.length
    ·subst e;rw[if_pos rfl,if_pos (by omega)];simp[List.getD_eq_getElem?_getD]
    ·rw[if_neg (by omega),I k (by omega)];simp only[List.getD_eq_getElem?_getD];rw[List.getElem?_append_left (by omega)]
   ·have t:=aH.ofSet (S:=(·=b)) w b (o+q.length*x.size) (.int .i64 d) rfl;exact⟨rfl,rfl,rfl,t.size,fun k s V=>t.block k s (fun e=>V (by rw[show k=b from e];rfl))⟩
  ·obtain⟨f,w',p,r,l⟩:=run_append_arg_grows (P:=Tryz.prog) w 40 u 3 x _ 1 8 Tryz.underlying40 z E m G rfl (by decide) ⟨b,o,none⟩ q.length cap (q.map (Value.int .i64)) (by simp) (fun a j i=>by
    have C:a<q.length:=by
     have:=(List.getElem?_eq_some_iff.1 i).1
     simpa using this
    have:(⟨b,o,none⟩:Addr).add a=⟨b,o+a,none⟩:=Addr.add_lit _ _ _;rw[this,cell_of_row _ _ _ _ _ _ y,I a C];rw[List.getElem?_map,List.getElem?_eq_getElem C]at i;simp at i;rw[←i];simp[List.getD_eq_getElem?_getD,C]) ad 1 c [.int .i64 d] rfl A (by omega) (by unfold maxLen;omega) (by omega)
   refine⟨f,w',p,Gw (base:=w.heap.size) (q:=q++[d]) (n:=q.length+1) ?_ (by simp),⟨l.os,l.tape,l.output,l.size,fun k s _=>l.block k s (by simp)⟩,.inr (fresh r (by omega))⟩;rw[List.map_append];exact r
theorem zV{w:World}{i:Array Oper}{o:Oper}{a:Act}{K:Act→World→Prop}{j:Exit→Act→World→Prop}{k:Prop}(l:o.guard=none)(s x:Operand)(m:o.op=.call { callee:=.builtin .append,args:=#[s,x],argTypes:=#[40,40] })
 (v:Value) (q:List Int) (n:a.eval s=v) (p:Cm w v q) (f:Int) (ad:Addr) (c:Nat) (r:a.eval x=.slice (some ad) 1 c) (u:w.cell? ad=some (.int .i64 f)) (y:q.length≤4)
 (h:∀d w',Cm w' d (q++[f])→w.grownBy w' v.ownBlock→(d.ownBlock=v.ownBlock∨∃b,d.ownBlock=some b∧w.heap.size≤b)→K (a.put o.dst d) w'):
 if Region.wanted o (yielded i a.tmps)=true then Oper.wp Tryz.prog o a w K j else k:=by
 have z:Region.wanted o (yielded i a.tmps)=true:=by simp[Region.wanted,l]
 rw[if_pos z];obtain⟨d,w',A,B,C,E⟩:=Rk w v q p f ad c o.type u y;unfold Oper.wp execOp;simp only[m,resolve,invoke,builtin,Sem.run_bind,Sem.run_pure,Result.andThen_ok,List.map_toArray,List.map_cons,List.map_nil,n,r,A];exact h d w' B C E
def pN(Q:Nat→Value)(a:Nat)(v:Value):Nat→Value:=fun k=>if k=a then v else Q k
def QG(Q c:Nat→Value)(B:Nat):Prop:=∀a b,(c a).ownBlock=some b→(Q a).ownBlock=some b∨B≤b
theorem QG.refl(Q:Nat→Value)(B:Nat):QG Q Q B:=fun _ _ h=>.inl h
theorem QG.trans{Q c d:Nat→Value}{B B':Nat}(h:QG Q c B)(k:QG c d B')(i:B≤B'):QG Q d B:=fun f b j=>by
 rcases k f b j with a| a
 ·exact h f b a
 ·exact .inr (Nat.le_trans i a)
theorem Rm.grow{D:eZ}{Q c:Nat→Value}{g b B:Nat}{st:aQ}(f:QG Q c B)(h:Rm D c g st b):Rm D Q g st b∨B≤b:=by
 rcases h with h| h| h| h| ⟨d,i,e⟩| h
 ·exact .inl (.inl h)
 ·exact .inl (.inr (.inl h))
 ·exact .inl (.inr (.inr (.inl h)))
 ·exact .inl (.inr (.inr (.inr (.inl h))))
 ·rcases f d b e with a| a
  ·exact .inl (.inr (.inr (.inr (.inr (.inl ⟨d,i,a⟩)))))
  ·exact .inr a
 ·exact .inl (.inr (.inr (.inr (.inr (.inr h)))))
section
variable {w w1 w2:World} {D:eZ} {Q:Nat→Value} {g:Nat} {st:aQ} {F:Fl}
theorem Ro.qset(h:Ro w D Q g st F)(a:Nat)(u:a<st.cf.chans.length)(v:Value)(q:List Int)(I:w.grownBy w1 (Q a).ownBlock)(X:Cm w1 v q)(E:v.ownBlock=(Q a).ownBlock∨∃b,v.ownBlock=some b∧w.heap.size≤b):
 Ro (w1.setCell ⟨D.qb,a,none⟩ v) D (pN Q a v) g { st with queues:=st.queues.set a q } F∧aH (Rm D Q g st) w (w1.setCell ⟨D.qb,a,none⟩ v)∧QG Q (pN Q a v) w.heap.size:=by
 have Y:QG Q (pN Q a v) w.heap.size:=fun k b d=>by
  unfold pN at d;split at d
  ·rename_i e
   subst e;rcases E with c| ⟨J,c,o⟩
   ·rw[c]at d;exact .inl d
   ·rw[c]at d;cases d
    exact .inr o
  ·exact .inl d
 obtain⟨qc,L⟩:=jN h.ref.qs;have Z:=lt_of_block L;have M:aH (fun b=>(Q a).ownBlock=some b) w w1:=aH.ofGrown I (fun k e=>.inl e);have a8:D.qb<w1.heap.size:=Nat.lt_of_lt_of_le Z I.size;have N:aH (·=D.qb) w1 (w1.setCell ⟨D.qb,a,none⟩ v):=aH.ofSet w1 _ _ _ rfl;have a0:aH (Rm D Q g st) w (w1.setCell ⟨D.qb,a,none⟩ v):=(M.to (fun b e=>.inr (.inr (.inr (.inr (.inl ⟨a,u,e⟩)))))).andThen (N.to (fun b e=>.inr (.inr (.inr (.inl e)))));have P:∀ {b:Nat},(Q a).ownBlock=some b→∃cur,w.heap[b]?=some (.cells cur 3 (0,0)):=fun e=>qA (h.ref.queue a u) e
 have R:∀ {b:Nat} {G:Array Value} {t:TypeId},w.heap[b]?=some (.cells G t (0,0))→t≠3→t≠40→(w1.setCell ⟨D.qb,a,none⟩ v).heap[b]?=w.heap[b]?:=fun{b G t} d c o=>by
  refine(N.block b (Nat.lt_of_lt_of_le (lt_of_block d) I.size) (fun e=>?_)).trans (M.block b (lt_of_block d) (fun e=>?_))
  ·have j:b=D.qb:=e;subst j;exact bG d L o rfl
  ·obtain⟨S,y⟩:=P e;exact bG d y c rfl
 have z:∀ {e:TypeId} {s n:Nat} {T:Value} {U:List Value},w.ownsRow 0 e s T n U→e≠3→e≠40→World.ownsRow (w1.setCell ⟨D.qb,a,none⟩ v) 0 e s T n U:=fun c o a1=>aO c (fun b d=>by
  obtain⟨cur,H⟩:=cV c d;exact R H o a1)
 have V:∀ {b:Nat} {G:Array Value},w.heap[b]?=some (.cells G 3 (0,0))→(Q a).ownBlock≠some b→(w1.setCell ⟨D.qb,a,none⟩ v).heap[b]?=w.heap[b]?:=fun{b G} d a2=>by
  refine(N.block b (Nat.lt_of_lt_of_le (lt_of_block d) I.size) (fun e=>?_)).trans (M.block b (lt_of_block d) a2);have j:b=D.qb:=e;subst j;exact bG d L (by decide) rfl
 have a3:ROk D (pN Q a v) st.parts.length st.cf.chans.length:=by
  refine⟨h.lay.wdwd,h.lay.prpr,fun k i f m e=>?_,fun k l b f A p r=>?_⟩
  ·unfold pN at e;split at e
   ·rcases E with c| ⟨J,c,o⟩
    ·rw[c]at e;exact h.lay.qw a i u m e
    ·rw[c]at e;cases e
     have:=fV (h.ref.words i m);omega
   ·exact h.lay.qw k i f m e
  ·have W:∀O,O<st.cf.chans.length→(Q O).ownBlock=some b→b<w.heap.size:=fun O a4 e=>by
    obtain⟨S,y⟩:=qA (h.ref.queue O a4) e;exact lt_of_block y
   unfold pN at p r;split at p<;>split at r
   ·omega
   ·rename_i C j
    subst C;rcases E with c| ⟨J,c,o⟩
    ·rw[c]at p;exact h.lay.qq k l b f A p r
    ·rw[c]at p;cases p
     have:=W l A r;omega
   ·rename_i C j
    subst j;rcases E with c| ⟨J,c,o⟩
    ·rw[c]at r;exact h.lay.qq k l b f A p r
    ·rw[c]at r;cases r
     have:=W k f p;omega
   ·exact h.lay.qq k l b f A p r
 refine⟨⟨⟨?_,?_,?_,fun i m=>?_,fun i m=>?_,?_,fun k f=>?_⟩,a3,⟨h.ok.good,h.ok.len,h.ok.part,by simp[h.ok.qlen]⟩,h.fl.keep ?_,h.flok⟩,a0,Y⟩
 ·exact(R h.ref.kern (by decide) (by decide)).trans h.ref.kern
 ·exact⟨z h.ref.conf.parts (by decide) (by decide),fun i m=>z (h.ref.conf.procs i m) (by decide) (by decide),fun i k m f=>z (h.ref.conf.code i k m f) (by decide) (by decide),z h.ref.conf.wins (by decide) (by decide),z h.ref.conf.chans (by decide) (by decide)⟩
 ·exact z h.ref.parts (by decide) (by decide)
 ·exact aO (h.ref.words i m) (fun b e=>by
   obtain⟨cur,H⟩:=cV (h.ref.words i m) e;simp[Value.ownBlock]at e;subst e;exact V H (h.lay.qw a i u m))
 ·exact z (h.ref.procs i m) (by decide) (by decide)
 ·have a5:w1.ownsRow 0 40 1 (sl D.qb st.cf.chans.length D.qc) st.cf.chans.length ((List.range st.cf.chans.length).map Q):=aO h.ref.qs (fun b e=>M.block b (World.ownsRow.lt h.ref.qs b e).2 (fun j=>by
   obtain⟨S,y⟩:=P j;obtain⟨a9,a6⟩:=cV h.ref.qs e;exact bG a6 y (by decide) rfl))
  have:=sP a5 a v;have e:((List.range st.cf.chans.length).map Q).set a v=(List.range st.cf.chans.length).map (pN Q a v):=by
   apply List.ext_getElem?
   intro k
   by_cases e:k=a
   ·subst e;rw[List.getElem?_set_self (by simpa using u)];simp[u,pN]
   ·rw[List.getElem?_set_ne (fun h=>e h.symm)]
    by_cases f:k<st.cf.chans.length
    ·simp[f,pN,e]
    ·simp[f]
  rw[e]at this;exact this
 ·by_cases e:k=a
  ·subst e;have C:pN Q k v k=v:=by simp[pN]
   have j:(st.queues.set k q).getD k []=q:=by
    rw[List.getD_eq_getElem?_getD,List.getElem?_set_self (by rw[h.ok.qlen];exact f)];rfl
   simp only;rw[C,j];exact uH X (fun x B A=>N.block x A (fun e=>by
    have j:x=D.qb:=e;subst j;rcases E with c| ⟨J,c,o⟩
    ·rw[c]at B;obtain⟨S,y⟩:=P B;exact bG L y (by decide) rfl
    ·rw[c]at B;cases B
     omega))
  ·have C:pN Q a v k=Q k:=by simp[pN,e]
   have j:(st.queues.set a q).getD k []=st.queues.getD k []:=by
    simp only[List.getD_eq_getElem?_getD];rw[List.getElem?_set_ne (fun h=>e h.symm)]
   simp only;rw[C,j];exact uH (h.ref.queue k f) (fun x B A=>by
    obtain⟨cur,H⟩:=qA (h.ref.queue k f) B;exact V H (fun a7=>e (h.lay.qq k a x f u B a7)))
 ·exact R h.fl.blk (by decide) (by decide)
theorem Ro.qpop(h:Ro w D Q g st F)(a:Nat)(d:a<st.cf.chans.length)(b o c:Nat)(f:Q a=.slice (some ⟨b,o,none⟩) (st.queues.getD a []).length c)(p:0<(st.queues.getD a []).length):
 Ro (w.setCell ⟨D.qb,a,none⟩ (.slice (some ⟨b,o+1,none⟩) ((st.queues.getD a []).length-1) (c-1))) D (pN Q a (.slice (some ⟨b,o+1,none⟩) ((st.queues.getD a []).length-1) (c-1))) g { st with queues:=st.queues.set a (st.queues.getD a []).tail } F∧aH (Rm D Q g st) w (w.setCell ⟨D.qb,a,none⟩ (.slice (some ⟨b,o+1,none⟩) ((st.queues.getD a []).length-1) (c-1)))∧QG Q (pN Q a (.slice (some ⟨b,o+1,none⟩) ((st.queues.getD a []).length-1) (c-1))) w.heap.size:=by
 refine h.qset a d _ _ ⟨rfl,rfl,rfl,Nat.le_refl _,fun _ _ _=>rfl⟩ ?_ (.inl (by rw[f];rfl));have i:=h.ref.queue a d;rw[f]at i;generalize st.queues.getD a []=q at *;rcases i with⟨e,_⟩| ⟨r,s,u,cur,j,l,v,x,y,m⟩
 ·cases e
 ·simp at j;obtain⟨⟨rfl,rfl⟩,rfl⟩:=j;refine .inr ⟨b,o+1,c-1,cur,by simp,l,by simp;omega,by omega,by omega,fun k n=>?_⟩;simp only[List.length_tail]at n;rw[show o+1+k=o+(k+1)from by omega,m (k+1) (by omega)];simp only[List.getD_eq_getElem?_getD];rw[List.getElem?_tail]
end
end
end Go.Proofs.YtnjlbgolnbdkaaaGreat
