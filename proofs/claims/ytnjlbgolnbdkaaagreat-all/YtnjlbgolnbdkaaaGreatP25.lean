/- All, with short names -/
import Derived.Test.YtnjlbgolnbdkaaaGreatP24
import Derived.Test.YtnjlbgolnbdkaaaGreatP16
set_option maxRecDepth 100000
set_option maxHeartbeats 16000000
namespace Go.Proofs.YtnjlbgolnbdkaaaGreat
open Go Go.RowKit
section
open Go.RowKit
structure eZ where
 kb:Nat
 rp:Nat
 rc:Nat
 qb:Nat
 qc:Nat
 wd:Nat→Nat
 wc:Nat→Nat
 pr:Nat→Nat
 pc:Nat→Nat
 cp:Nat
 cpc:Nat
 pp:Nat→Nat
 ppc:Nat→Nat
 kk:Nat→Nat→Nat
 kc:Nat→Nat→Nat
 vW:Value
 vC:Value
abbrev sl(b n c:Nat):Value:=.slice (some ⟨b,0,none⟩) n c
def vD(b c:Nat)(p:Pt):List Value:=[.bool p.sys,.int .i64 p.words,.int .i64 p.limit,.int .i64 (p.acts.getD 0 0),.int .i64 (p.acts.getD 1 0),.int .i64 (p.acts.getD 2 0),.int .i64 (p.acts.getD 3 0),.int .i64 (p.acts.getD 4 0),.int .i64 (p.acts.getD 5 0),sl b p.procs.length c]
def Ah(b c:Nat)(p:Pr):List Value:=[.int .i64 p.prio,sl b p.code.length c]
structure pS(w:World)(D:eZ)(cf:Cf):Prop where
 parts:w.ownsRow 0 124 10 (sl D.cp cf.parts.length D.cpc) cf.parts.length (eH cf.parts.length fun i=>vD (D.pp i) (D.ppc i) (cf.parts.getD i default))
 procs:∀i,i<cf.parts.length→w.ownsRow 0 190 2 (sl (D.pp i) (cf.parts.getD i default).procs.length (D.ppc i)) (cf.parts.getD i default).procs.length (eH (cf.parts.getD i default).procs.length fun k=>Ah (D.kk i k) (D.kc i k) ((cf.parts.getD i default).procs.getD k default))
 code:∀i k,i<cf.parts.length→k<(cf.parts.getD i default).procs.length→w.ownsRow 0 210 2 (sl (D.kk i k) ((cf.parts.getD i default).procs.getD k default).code.length (D.kc i k)) ((cf.parts.getD i default).procs.getD k default).code.length (iJ ((cf.parts.getD i default).procs.getD k default).code)
 wins:w.ownsRow 0 131 3 D.vW cf.wins.length (gK cf.wins)
 chans:w.ownsRow 0 142 3 D.vC cf.chans.length (fS cf.chans)
def Cm(w:World)(v:Value)(q:List Int):Prop:=(v=.slice none 0 0∧q=[])∨∃b o c cur,v=.slice (some ⟨b,o,none⟩) q.length c∧w.heap[b]?=some (.cells cur 3 (0,0))∧q.length≤c∧o+c≤cur.size∧c≤maxLen∧∀k,k<q.length→cur[o+k]?=some (.int .i64 (q.getD k 0))
def kK(D:eZ)(i:Nat)(p:fF):List Value:=[.int .i64 p.mode,sl (D.wd i) p.words.length (D.wc i),sl (D.pr i) p.procs.length (D.pc i),.int .i64 p.watch]
structure eD(w:World)(D:eZ)(Q:Nat→Value)(g:Nat)(st:aQ):Prop where
 kern:w.heap[D.kb]?=some (.cells (cE st.cf.frame st.cf.watch (sl D.cp st.cf.parts.length D.cpc) D.vW D.vC g (sl D.rp st.parts.length D.rc) (sl D.qb st.cf.chans.length D.qc) st.now st.dead) 151 (0,0))
 conf:pS w D st.cf
 parts:w.ownsRow 0 198 4 (sl D.rp st.parts.length D.rc) st.parts.length (eH st.parts.length fun i=>kK D i (st.parts.getD i default))
 words:∀i,i<st.parts.length→w.ownsRow 0 3 1 (sl (D.wd i) (st.parts.getD i default).words.length (D.wc i)) (st.parts.getD i default).words.length ((st.parts.getD i default).words.map (Value.int .i64))
 procs:∀i,i<st.parts.length→w.ownsRow 0 200 5 (sl (D.pr i) (st.parts.getD i default).procs.length (D.pc i)) (st.parts.getD i default).procs.length (eH (st.parts.getD i default).procs.length fun k=>bM ((st.parts.getD i default).procs.getD k default))
 qs:w.ownsRow 0 40 1 (sl D.qb st.cf.chans.length D.qc) st.cf.chans.length ((List.range st.cf.chans.length).map Q)
 queue:∀j,j<st.cf.chans.length→Cm w (Q j) (st.queues.getD j [])
structure ROk(D:eZ)(Q:Nat→Value)(n m:Nat):Prop where
 wdwd:∀i j,i<n→j<n→D.wd i=D.wd j→i=j
 prpr:∀i j,i<n→j<n→D.pr i=D.pr j→i=j
 qw:∀j i,j<m→i<n→(Q j).ownBlock≠some (D.wd i)
 qq:∀j k b,j<m→k<m→(Q j).ownBlock=some b→(Q k).ownBlock=some b→j=k
theorem jN{w:World}{e:TypeId}{s b n c:Nat}{a:List Value}(h:w.ownsRow 0 e s (sl b n c) n a):∃cur,w.heap[b]?=some (.cells cur e (0,0)):=cV h rfl
theorem tN{w:World}{e:TypeId}{s b n c:Nat}{d:List Value}(h:w.ownsRow 0 e s (sl b n c) n d){o:Nat}{v:Value}(a:d[o]?=some v):w.cell? ⟨b,o,none⟩=some v:=by
 rcases h.2 with⟨i,_⟩| ⟨g,cap,cur,f,_,j,_,_,_,k⟩
 ·cases i
 ·simp at f;obtain⟨rfl,rfl⟩:=f;rw[cell_of_row _ _ _ _ _ _ j];rw[←k,List.getElem?_take]at a;split at a
  ·rw[←a,Array.getElem?_toList]
  ·cases a
theorem dJ{w:World}{e:TypeId}{s b n c:Nat}{a:List Value}(h:w.ownsRow 0 e s (sl b n c) n a)(o:Nat):w.frozen? ⟨b,o,none⟩=false:=by
 obtain⟨cur,d⟩:=jN h;exact aJ d o
theorem fV{w:World}{e:TypeId}{s b n c:Nat}{a:List Value}(h:w.ownsRow 0 e s (sl b n c) n a):b<w.heap.size:=by
 obtain⟨cur,d⟩:=jN h;exact lt_of_block d
theorem tO{w:World}{e:TypeId}{s b n c:Nat}{d:List Value}(h:w.ownsRow 0 e s (sl b n c) n d):n≤c∧c≤maxLen:=by
 rcases h.2 with⟨f,_⟩| ⟨g,cap,cur,a,_,k,i,j,_⟩
 ·cases f
 ·simp at a;obtain⟨rfl,rfl⟩:=a;exact⟨i,j⟩
section
variable {w w':World} {b:Nat} {cc:Array Value} {t:TypeId}
theorem Ik{e:TypeId}{s n:Nat}{v:Value}{a:List Value}(h:w.ownsRow 0 e s v n a)(d:aH (·=b) w w')(f:v.ownBlock≠some b):w'.ownsRow 0 e s v n a:=
 aO h (fun x c=>by
  obtain⟨cur,i⟩:=cV h c;exact d.block x (lt_of_block i) (fun e=>f (by rw[c];exact congrArg some e)))
theorem eF{e:TypeId}{s n:Nat}{v:Value}{a:List Value}(h:w.ownsRow 0 e s v n a)(c:aH (·=b) w w')(d:w.heap[b]?=some (.cells cc t (0,0)))(f:t≠e):w'.ownsRow 0 e s v n a:=
 Ik h c (fun i=>by
  obtain⟨cur,j⟩:=cV h i;exact bG d j f rfl)
theorem pI{D:eZ}{cf:Cf}(h:pS w D cf)(a:aH (·=b) w w')(c:w.heap[b]?=some (.cells cc t (0,0)))(d:t≠124∧t≠190∧t≠210∧t≠131∧t≠142):pS w' D cf:=
 ⟨eF h.parts a c d.1,fun i f=>eF (h.procs i f) a c d.2.1,fun i k f j=>eF (h.code i k f j) a c d.2.2.1,eF h.wins a c d.2.2.2.1,eF h.chans a c d.2.2.2.2⟩
theorem uH{v:Value}{q:List Int}(h:Cm w v q)(f:∀x,v.ownBlock=some x→x<w.heap.size→w'.heap[x]?=w.heap[x]?):Cm w' v q:=by
 rcases h with h| ⟨x,o,c,cur,a,d,r⟩
 ·exact .inl h
 ·exact .inr ⟨x,o,c,cur,a,(f x (by rw[a];rfl) (lt_of_block d)).trans d,r⟩
theorem qA{v:Value}{q:List Int}(h:Cm w v q){x:Nat}(a:v.ownBlock=some x):∃cur,w.heap[x]?=some (.cells cur 3 (0,0)):=by
 rcases h with⟨h,_⟩| ⟨i,o,c,cur,d,f,r⟩
 ·rw[h]at a;simp[Value.ownBlock]at a
 ·rw[d]at a;simp[Value.ownBlock]at a;subst a;exact⟨cur,f⟩
theorem q_ne{v:Value}{q:List Int}(h:Cm w v q)(a:aH (·=b) w w')(c:v.ownBlock≠some b):Cm w' v q:=
 uH h (fun x d f=>a.block x f (fun e=>c (by rw[d];exact congrArg some e)))
theorem Cl{v:Value}{q:List Int}(h:Cm w v q)(a:aH (·=b) w w')(c:w.heap[b]?=some (.cells cc t (0,0)))(d:t≠3):Cm w' v q:=
 q_ne h a (fun f=>by
  obtain⟨cur,i⟩:=qA h f;exact bG c i d rfl)
end
theorem pS.keep{w w':World}{D:eZ}{cf:Cf}(h:pS w D cf)(d:∀ (b:Nat) (cur:Array Value) (t:TypeId),(t=124∨t=190∨t=210∨t=131∨t=142)→w.heap[b]?=some (Obj.cells cur t (0,0))→w'.heap[b]?=w.heap[b]?):pS w' D cf:=by
 refine⟨aO h.parts ?_,fun i f=>aO (h.procs i f) ?_,fun i k f j=>aO (h.code i k f j) ?_,aO h.wins ?_,aO h.chans ?_⟩
 ·intro b e;obtain⟨c,a⟩:=cV h.parts e;exact d _ _ _ (.inl rfl) a
 ·intro b e;obtain⟨c,a⟩:=cV (h.procs i f) e;exact d _ _ _ (.inr (.inl rfl)) a
 ·intro b e;obtain⟨c,a⟩:=cV (h.code i k f j) e;exact d _ _ _ (.inr (.inr (.inl rfl))) a
 ·intro b e;obtain⟨c,a⟩:=cV h.wins e;exact d _ _ _ (.inr (.inr (.inr (.inl rfl)))) a
 ·intro b e;obtain⟨c,a⟩:=cV h.chans e;exact d _ _ _ (.inr (.inr (.inr (.inr rfl)))) a
theorem eD.same{w w':World}{D:eZ}{Q:Nat→Value}{g:Nat}{st:aQ}(h:eD w D Q g st)(d:∀ (b:Nat) (c:Array Value) (t:TypeId),w.heap[b]?=some (Obj.cells c t (0,0))→t≠80→w'.heap[b]?=w.heap[b]?):eD w' D Q g st:=by
 refine⟨(d _ _ _ h.kern (by decide)).trans h.kern,h.conf.keep (fun b c t l m=>d b c t m (by rcases l with rfl| rfl| rfl| rfl| rfl<;>decide)),aO h.parts ?_,fun i f=>aO (h.words i f) ?_,fun i f=>aO (h.procs i f) ?_,aO h.qs ?_,fun j k=>uH (h.queue j k) ?_⟩
 ·intro b e;obtain⟨c,a⟩:=cV h.parts e;exact d _ _ _ a (by decide)
 ·intro b e;obtain⟨c,a⟩:=cV (h.words i f) e;exact d _ _ _ a (by decide)
 ·intro b e;obtain⟨c,a⟩:=cV (h.procs i f) e;exact d _ _ _ a (by decide)
 ·intro b e;obtain⟨c,a⟩:=cV h.qs e;exact d _ _ _ a (by decide)
 ·intro b e _;obtain⟨c,a⟩:=qA (h.queue j k) e;exact d _ _ _ a (by decide)
section
variable {w w':World} {D:eZ} {Q:Nat→Value} {g:Nat} {st:aQ}
theorem eD.kern'(h:eD w D Q g st)(a:aH (·=D.kb) w w')(now:Int)(dead:Bool)(d:w'.heap[D.kb]?=some (.cells (cE st.cf.frame st.cf.watch (sl D.cp st.cf.parts.length D.cpc) D.vW D.vC g (sl D.rp st.parts.length D.rc) (sl D.qb st.cf.chans.length D.qc) now dead) 151 (0,0))):eD w' D Q g { st with now:=now,dead:=dead }:=
 ⟨d,pI h.conf a h.kern (by decide),eF h.parts a h.kern (by decide),fun i c=>eF (h.words i c) a h.kern (by decide),fun i c=>eF (h.procs i c) a h.kern (by decide),eF h.qs a h.kern (by decide),fun f j=>Cl (h.queue f j) a h.kern (by decide)⟩
theorem eD.setNow(h:eD w D Q g st)(x:Int):eD (w.setCell ⟨D.kb,8,none⟩ (.int .i64 x)) D Q g { st with now:=x }:=
 h.kern' (aH.ofSet w _ _ _ rfl) x st.dead (by rw[aK h.kern 8 _];rfl)
theorem eD.setLost(h:eD w D Q g st)(x:Bool):eD (w.setCell ⟨D.kb,9,none⟩ (.bool x)) D Q g { st with dead:=x }:=
 h.kern' (aH.ofSet w _ _ _ rfl) st.now x (by rw[aK h.kern 9 _];rfl)
theorem sF(c:List fF)(i:Nat)(p:fF)(d:i<c.length)(a:Nat):(c.set i p).getD a default=if a=i then p else c.getD a default:=by
 simp only[List.getD_eq_getElem?_getD]
 by_cases e:a=i
 ·subst e;rw[if_pos rfl,List.getElem?_set_self d];rfl
 ·rw[if_neg e,List.getElem?_set_ne (fun h=>e h.symm)]
theorem eD.partCell(h:eD w D Q g st)(i k:Nat)(v:Value)(p:fF)(l:i<st.parts.length)(m:k<4)(n:(kK D i (st.part i)).set k v=kK D i p)(o:p.words=(st.part i).words)(q:p.procs=(st.part i).procs):eD (w.setCell ⟨D.rp,i*4+k,none⟩ v) D Q g (st.setPart i p):=by
 have d:aH (·=D.rp) w (w.setCell ⟨D.rp,i*4+k,none⟩ v):=aH.ofSet w _ _ v rfl;obtain⟨cur,f⟩:=jN h.parts;have j:=sF st.parts i p l;have r:∀a,((st.parts.set i p).getD a default).words=(st.parts.getD a default).words:=fun a=>by
  rw[j a];split
  ·rename_i e;subst e;exact o
  ·rfl
 have s:∀a,((st.parts.set i p).getD a default).procs=(st.parts.getD a default).procs:=fun a=>by
  rw[j a];split
  ·rename_i e;subst e;exact q
  ·rfl
 unfold aQ.setPart;refine⟨?_,pI h.conf d f (by decide),?_,fun a c=>?_,fun a c=>?_,eF h.qs d f (by decide),fun a c=>Cl (h.queue a c) d f (by decide)⟩
 ·simp only[List.length_set];exact(d.block _ (lt_of_block h.kern) (fun e=>bG h.kern f (by decide) e)).trans h.kern
 ·simp only[List.length_set];have:=sP h.parts (i*4+k) v;rw[rA st.parts.length 4 _ (fun a _=>rfl) i k v l m]at this;rw[dV st.parts.length (fun a=>kK D a ((st.parts.set i p).getD a default)) (fun a=>if a=i then(kK D i (st.parts.getD i default)).set k v else kK D a (st.parts.getD a default)) (fun a _=>?_)]
  ·exact this
  ·rw[j a]
   by_cases e:a=i
   ·subst e;simp only[if_true];exact n.symm
   ·simp only[if_neg e]
 ·simp only[List.length_set]at c ⊢;rw[r a];exact eF (h.words a c) d f (by decide)
 ·simp only[List.length_set]at c ⊢;rw[s a];exact eF (h.procs a c) d f (by decide)
theorem eD.setMode(h:eD w D Q g st)(i:Nat)(a:Int)(c:i<st.parts.length):eD (w.setCell ⟨D.rp,i*4,none⟩ (.int .i64 a)) D Q g (st.setPart i { st.part i with mode:=a }):=
 h.partCell i 0 _ _ c (by omega) rfl rfl rfl
theorem eD.setWatch(h:eD w D Q g st)(i:Nat)(a:Int)(c:i<st.parts.length):eD (w.setCell ⟨D.rp,i*4+3,none⟩ (.int .i64 a)) D Q g (st.setPart i { st.part i with watch:=a }):=
 h.partCell i 3 _ _ c (by omega) rfl rfl rfl
theorem eD.procCell(h:eD w D Q g st)(q:ROk D Q st.parts.length st.cf.chans.length)(i n k:Nat)(v:Value)(x:cQ)(l:i<st.parts.length)(p:n<(st.part i).procs.length)(r:k<5)(s:(bM (st.proc i n)).set k v=bM x):eD (w.setCell ⟨D.pr i,n*5+k,none⟩ v) D Q g (st.setProc i n x):=by
 have f:aH (·=D.pr i) w (w.setCell ⟨D.pr i,n*5+k,none⟩ v):=aH.ofSet w _ _ v rfl;obtain⟨cur,j⟩:=jN (h.procs i l);have m:=sF st.parts i { st.part i with procs:=(st.part i).procs.set n x } l;have u:∀a,((st.parts.set i { st.part i with procs:=(st.part i).procs.set n x }).getD a default).words=(st.parts.getD a default).words:=fun a=>by
  rw[m a];split
  ·rename_i e;subst e;rfl
  ·rfl
 unfold aQ.setProc aQ.setPart;refine⟨?_,pI h.conf f j (by decide),?_,fun a d=>?_,fun a d=>?_,eF h.qs f j (by decide),fun a d=>Cl (h.queue a d) f j (by decide)⟩
 ·simp only[List.length_set];exact(f.block _ (lt_of_block h.kern) (fun e=>bG h.kern j (by decide) e)).trans h.kern
 ·simp only[List.length_set];rw[dV st.parts.length _ (fun a=>kK D a (st.parts.getD a default)) (fun a _=>?_)]
  ·exact eF h.parts f j (by decide)
  ·rw[m a];split
   ·rename_i e;subst e;simp only[kK,List.length_set];rfl
   ·rfl
 ·simp only[List.length_set]at d ⊢;rw[u a];exact eF (h.words a d) f j (by decide)
 ·simp only[List.length_set]at d ⊢;rw[m a]
  by_cases e:a=i
  ·subst e;simp only[if_true,List.length_set];have:=sP (h.procs a d) (n*5+k) v;rw[rA (st.parts.getD a default).procs.length 5 _ (fun _ _=>rfl) n k v p r]at this;rw[dV (st.part a).procs.length (fun c=>bM (((st.part a).procs.set n x).getD c default)) (fun c=>if c=n then(bM ((st.parts.getD a default).procs.getD n default)).set k v else bM ((st.parts.getD a default).procs.getD c default)) (fun c z=>?_)]
   ·exact this
   ·by_cases e:c=n
    ·subst e;rw[if_pos rfl];have o:((st.part a).procs.set c x).getD c default=x:=by simp[List.getD_eq_getElem?_getD,p]
     rw[o];exact s.symm
    ·rw[if_neg e];have o:((st.part a).procs.set n x).getD c default=(st.part a).procs.getD c default:=by
      simp only[List.getD_eq_getElem?_getD];rw[List.getElem?_set_ne (fun h=>e h.symm)]
     rw[o];rfl
  ·simp only[if_neg e];exact Ik (h.procs a d) f (fun y=>e (q.prpr a i d l (by simpa[Value.ownBlock]using y)))
theorem eD.setWord(h:eD w D Q g st)(m:ROk D Q st.parts.length st.cf.chans.length)(i a:Nat)(z:Int)(k:i<st.parts.length):eD (w.setCell ⟨D.wd i,a,none⟩ (.int .i64 z)) D Q g (st.setPart i { st.part i with words:=(st.part i).words.set a z }):=by
 have f:aH (·=D.wd i) w (w.setCell ⟨D.wd i,a,none⟩ (.int .i64 z)):=aH.ofSet w _ _ _ rfl;obtain⟨cur,j⟩:=jN (h.words i k);have l:=sF st.parts i { st.part i with words:=(st.part i).words.set a z } k;have n:∀c,((st.parts.set i { st.part i with words:=(st.part i).words.set a z }).getD c default).procs=(st.parts.getD c default).procs:=fun c=>by
  rw[l c];split
  ·rename_i e;subst e;rfl
  ·rfl
 unfold aQ.setPart;refine⟨?_,pI h.conf f j (by decide),?_,fun c d=>?_,fun c d=>?_,eF h.qs f j (by decide),fun c d=>q_ne (h.queue c d) f (m.qw c i d k)⟩
 ·simp only[List.length_set];exact(f.block _ (lt_of_block h.kern) (fun e=>bG h.kern j (by decide) e)).trans h.kern
 ·simp only[List.length_set];rw[dV st.parts.length _ (fun c=>kK D c (st.parts.getD c default)) (fun c _=>?_)]
  ·exact eF h.parts f j (by decide)
  ·rw[l c];split
   ·rename_i e;subst e;simp only[kK,List.length_set];rfl
   ·rfl
 ·simp only[List.length_set]at d ⊢;rw[l c]
  by_cases e:c=i
  ·subst e;simp only[if_true,List.length_set];have:=sP (h.words c d) a (.int .i64 z);rw[←List.map_set]at this;exact this
  ·simp only[if_neg e];exact Ik (h.words c d) f (fun o=>e (m.wdwd c i d k (by simpa[Value.ownBlock]using o)))
 ·simp only[List.length_set]at d ⊢;rw[n c];exact eF (h.procs c d) f j (by decide)
end
end
section
open Go.RowKit Go.Shelf
structure Ro(w:World)(D:eZ)(Q:Nat→Value)(g:Nat)(st:aQ)(F:Fl):Prop where
 ref:eD w D Q g st
 lay:ROk D Q st.parts.length st.cf.chans.length
 ok:eA st
 fl:fO w g F
 flok:gU F
def Rm(D:eZ)(Q:Nat→Value)(g:Nat)(st:aQ)(b:Nat):Prop:=b=D.kb∨b=D.rp∨(∃i,i<st.parts.length∧(b=D.wd i∨b=D.pr i))∨b=D.qb∨(∃a,a<st.cf.chans.length∧(Q a).ownBlock=some b)∨b=g
theorem Rm.same{D:eZ}{Q:Nat→Value}{g b:Nat}{st st':aQ}(a:st'.parts.length=st.parts.length)(c:st'.cf=st.cf):Rm D Q g st' b↔Rm D Q g st b:=by
 unfold Rm;rw[a,c]
section
variable {w w':World} {D:eZ} {Q:Nat→Value} {g:Nat} {st st':aQ} {F F':Fl}
theorem Ro.lt(h:Ro w D Q g st F)(b:Nat)(d:Rm D Q g st b):b<w.heap.size:=by
 rcases d with rfl| rfl| ⟨i,a,rfl| rfl⟩| rfl| ⟨f,j,e⟩| rfl
 ·exact lt_of_block h.ref.kern
 ·exact fV h.ref.parts
 ·exact fV (h.ref.words i a)
 ·exact fV (h.ref.procs i a)
 ·exact fV h.ref.qs
 ·obtain⟨c,k⟩:=qA (h.ref.queue f j) e;exact lt_of_block k
 ·exact h.fl.lt
theorem Ro.mono(h:Ro w D Q g st F)(a:Below w.heap.size w w'):Ro w' D Q g st F:=
 ⟨h.ref.same (fun _ _ _ b _=>(eT a b).trans b.symm),h.lay,h.ok,h.fl.below a,h.flok⟩
theorem Ro.flash(h:Ro w D Q g st F)(d:aH (·=g) w w')(f:fO w' g F')(i:gU F'):Ro w' D Q g st F':=
 ⟨h.ref.same (fun b c t a j=>d.block b (lt_of_block a) (fun e=>by
  have k:b=g:=e;subst k;have:=h.fl.blk;rw[a]at this;simp at this;exact j this.2)),h.lay,h.ok,f,i⟩
theorem Ro.upd(h:Ro w D Q g st F){b:Nat}{c:Array Value}{t:TypeId}(a:w.heap[b]?=some (.cells c t (0,0)))(d:t≠80)(f:aH (·=b) w w')(i:eD w' D Q g st')(j:st'.parts.length=st.parts.length)(k:st'.cf=st.cf)(l:eA st'):Ro w' D Q g st' F:=
 ⟨i,by rw[j,k];exact h.lay,l,h.fl.keep (f.block g h.fl.lt (fun e=>by
  have m:g=b:=e;subst m;have:=h.fl.blk;rw[a]at this;simp at this;exact d this.2)),h.flok⟩
theorem eD.kAt(h:eD w D Q g st)(k:Nat):w.cell? ⟨D.kb,k,none⟩=(cE st.cf.frame st.cf.watch (sl D.cp st.cf.parts.length D.cpc) D.vW D.vC g (sl D.rp st.parts.length D.rc) (sl D.qb st.cf.chans.length D.qc) st.now st.dead)[k]?:=by
 rw[cell_of_row _ _ _ _ _ _ h.kern]
theorem mM{α:Type}(l:List α)(k:Nat)(a:α)(h:k<l.length):l[k]?=some (l.getD k a):=by simp[List.getD_eq_getElem?_getD,h]
theorem Qy{α:Type}{l:List α}{k:Nat}(h:k<l.length):∃v,l[k]?=some v:=⟨_,List.getElem?_eq_getElem h⟩
theorem Cd{e:TypeId}{s b n c a:Nat}{f:Nat→List Value}(h:w.ownsRow 0 e s (sl b n c) n (eH a f))(d:∀i,i<a→(f i).length=s)(i k:Nat)(j:i<a)(l:k<s):w.cell? ⟨b,i*s+k,none⟩=(f i)[k]?:=by
 obtain⟨v,m⟩:=Qy (show k<(f i).length by rw[d i j];exact l);rw[m];exact tN h (by rw[jI a s f d i k j l];exact m)
theorem eD.rAt(h:eD w D Q g st)(i k:Nat)(a:i<st.parts.length)(b:k<4):w.cell? ⟨D.rp,i*4+k,none⟩=(kK D i (st.part i))[k]?:=
 Cd h.parts (fun _ _=>rfl) i k a b
theorem eD.pAt(h:eD w D Q g st)(i n k:Nat)(a:i<st.parts.length)(b:n<(st.part i).procs.length)(c:k<5):w.cell? ⟨D.pr i,n*5+k,none⟩=(bM (st.proc i n))[k]?:=
 Cd (h.procs i a) (fun _ _=>rfl) n k b c
theorem eD.wAt(h:eD w D Q g st)(i a:Nat)(b:i<st.parts.length)(c:a<(st.part i).words.length):w.cell? ⟨D.wd i,a,none⟩=some (.int .i64 ((st.part i).words.getD a 0)):=by
 refine tN (h.words i b) ?_;show((st.part i).words.map (Value.int .i64))[a]?=_
 rw[List.getElem?_map,mM _ a 0 c];rfl
theorem pS.cAt{cf:Cf}(h:pS w D cf)(i k:Nat)(a:i<cf.parts.length)(b:k<10):w.cell? ⟨D.cp,i*10+k,none⟩=(vD (D.pp i) (D.ppc i) (cf.parts.getD i default))[k]?:=
 Cd h.parts (fun _ _=>rfl) i k a b
theorem pS.qAt{cf:Cf}(h:pS w D cf)(i n k:Nat)(a:i<cf.parts.length)(b:n<(cf.parts.getD i default).procs.length)(c:k<2):w.cell? ⟨D.pp i,n*2+k,none⟩=(Ah (D.kk i n) (D.kc i n) ((cf.parts.getD i default).procs.getD n default))[k]?:=
 Cd (h.procs i a) (fun _ _=>rfl) n k b c
theorem wH{α:Type}{e:TypeId}{s b n c:Nat}{l:List α}(f:α→List Value)(h:w.ownsRow 0 e s (sl b n c) n (l.flatMap f))(d:∀a,(f a).length=s)(i k:Nat)(a:α)(o:l[i]?=some a)(j:k<s):w.cell? ⟨b,i*s+k,none⟩=(f a)[k]?:=by
 obtain⟨v,m⟩:=Qy (show k<(f a).length by rw[d a];exact j);rw[m];exact tN h (by rw[wU f s d l i a o k j];exact m)
theorem pS.iAt{cf:Cf}(h:pS w D cf)(i n a:Nat)(b:i<cf.parts.length)(d:n<(cf.parts.getD i default).procs.length)(j:a<((cf.parts.getD i default).procs.getD n default).code.length):
 w.cell? ⟨D.kk i n,a*2,none⟩=some (.int .i64 (((cf.parts.getD i default).procs.getD n default).code.getD a (0,0)).1)∧w.cell? ⟨D.kk i n,a*2+1,none⟩=some (.int .i64 (((cf.parts.getD i default).procs.getD n default).code.getD a (0,0)).2):=by
 have f:((cf.parts.getD i default).procs.getD n default).code[a]?=some (((cf.parts.getD i default).procs.getD n default).code.getD a (0,0)):=mM _ _ _ j;have k:=wH (fun c:Int×Int=>[.int .i64 c.1,.int .i64 c.2]) (h.code i n b d) (fun _=>rfl) a 0 _ f (by omega);have l:=wH (fun c:Int×Int=>[.int .i64 c.1,.int .i64 c.2]) (h.code i n b d) (fun _=>rfl) a 1 _ f (by omega);exact⟨k,l⟩
instance:Inhabited Wn:=⟨⟨0,0,0⟩⟩
theorem pS.wins_at{cf:Cf}(h:pS w D cf)(n:0<cf.wins.length):∃b c,D.vW=sl b cf.wins.length c∧cf.wins.length≤c∧c≤maxLen∧b<w.heap.size∧∀a,a<cf.wins.length→w.cell? ⟨b,a*3,none⟩=some (.int .i64 (cf.wins.getD a default).part)∧w.cell? ⟨b,a*3+1,none⟩=some (.int .i64 (cf.wins.getD a default).first)∧w.cell? ⟨b,a*3+2,none⟩=some (.int .i64 (cf.wins.getD a default).many):=by
 have d:=h.wins;rcases d.2 with⟨_,o⟩| ⟨b,c,cur,i,_⟩
 ·omega
 ·rw[i]at d;refine⟨b,c,i,(tO d).1,(tO d).2,fV d,fun a j=>?_⟩;have l:cf.wins[a]?=some (cf.wins.getD a default):=mM _ _ _ j;have f:=fun k m=>wH (fun p:Wn=>[Value.int .i64 p.part,.int .i64 p.first,.int .i64 p.many]) d (fun _=>rfl) a k _ l m
  exact⟨f 0 (by omega),f 1 (by omega),f 2 (by omega)⟩
theorem pS.chans_at{cf:Cf}(h:pS w D cf):(∃ad c,D.vC=.slice ad cf.chans.length c∧∀a,a<cf.chans.length→∃b,ad=some ⟨b,0,none⟩∧w.cell? ⟨b,a*3,none⟩=some (.int .i64 (cf.chans.getD a default).src)∧w.cell? ⟨b,a*3+1,none⟩=some (.int .i64 (cf.chans.getD a default).dst)∧w.cell? ⟨b,a*3+2,none⟩=some (.int .i64 (cf.chans.getD a default).depth)):=by
 have d:=h.chans;rcases d.2 with⟨l,m⟩| ⟨b,c,cur,i,_⟩
 ·exact⟨none,0,by rw[l,m],fun a j=>by omega⟩
 ·rw[i]at d;refine⟨some ⟨b,0,none⟩,c,i,fun a j=>⟨b,rfl,?_⟩⟩;have n:cf.chans[a]?=some (cf.chans.getD a default):=mM _ _ _ j;have f:=fun k o=>wH (fun p:Ch=>[Value.int .i64 p.src,.int .i64 p.dst,.int .i64 p.depth]) d (fun _=>rfl) a k _ n o
  exact⟨f 0 (by omega),f 1 (by omega),f 2 (by omega)⟩
theorem eD.qsAt(h:eD w D Q g st)(a:Nat)(b:a<st.cf.chans.length):w.cell? ⟨D.qb,a,none⟩=some (Q a):=tN h.qs (by simp[b])
theorem Cz{v:Value}{q:List Int}(h:Cm w v q):∃ad c,v=.slice ad q.length c:=by
 rcases h with⟨rfl,rfl⟩| ⟨b,o,c,cur,a,_⟩
 ·exact⟨none,0,rfl⟩
 ·exact⟨_,c,a⟩
theorem Ro.pset(h:Ro w D Q g st F)(i n k:Nat)(v:Value)(x:cQ)(a:i<st.parts.length)(b:n<(st.part i).procs.length)(c:k<5)(d:(bM (st.proc i n)).set k v=bM x):Ro (w.setCell ⟨D.pr i,n*5+k,none⟩ v) D Q g (st.setProc i n x) F∧aH (Rm D Q g st) w (w.setCell ⟨D.pr i,n*5+k,none⟩ v):=by
 obtain⟨cur,f⟩:=jN (h.ref.procs i a);exact⟨h.upd f (by decide) (aH.ofSet w _ _ _ rfl) (h.ref.procCell h.lay i n k v x a b c d) (aQ.setPart_len _ _ _) rfl (h.ok.setPart i _ rfl (by simp)),aH.ofSet w _ _ _ (.inr (.inr (.inl ⟨i,a,.inr rfl⟩)))⟩
theorem Ro.mset(h:Ro w D Q g st F)(i:Nat)(a:Int)(b:i<st.parts.length):Ro (w.setCell ⟨D.rp,i*4,none⟩ (.int .i64 a)) D Q g (st.setPart i { st.part i with mode:=a }) F∧aH (Rm D Q g st) w (w.setCell ⟨D.rp,i*4,none⟩ (.int .i64 a)):=by
 obtain⟨cur,c⟩:=jN h.ref.parts;exact⟨h.upd c (by decide) (aH.ofSet w _ _ _ rfl) (h.ref.setMode i a b) (aQ.setPart_len _ _ _) rfl (h.ok.setPart i _ rfl rfl),aH.ofSet w _ _ _ (.inr (.inl rfl))⟩
theorem Ro.wtset(h:Ro w D Q g st F)(i:Nat)(a:Int)(b:i<st.parts.length):Ro (w.setCell ⟨D.rp,i*4+3,none⟩ (.int .i64 a)) D Q g (st.setPart i { st.part i with watch:=a }) F∧aH (Rm D Q g st) w (w.setCell ⟨D.rp,i*4+3,none⟩ (.int .i64 a)):=by
 obtain⟨cur,c⟩:=jN h.ref.parts;exact⟨h.upd c (by decide) (aH.ofSet w _ _ _ rfl) (h.ref.setWatch i a b) (aQ.setPart_len _ _ _) rfl (h.ok.setPart i _ rfl rfl),aH.ofSet w _ _ _ (.inr (.inl rfl))⟩
theorem Ro.wset(h:Ro w D Q g st F)(i a:Nat)(z:Int)(b:i<st.parts.length):Ro (w.setCell ⟨D.wd i,a,none⟩ (.int .i64 z)) D Q g (st.setPart i { st.part i with words:=(st.part i).words.set a z }) F∧aH (Rm D Q g st) w (w.setCell ⟨D.wd i,a,none⟩ (.int .i64 z)):=by
 obtain⟨cur,c⟩:=jN (h.ref.words i b);exact⟨h.upd c (by decide) (aH.ofSet w _ _ _ rfl) (h.ref.setWord h.lay i a z b) (aQ.setPart_len _ _ _) rfl (h.ok.setPart i _ (by simp) rfl),aH.ofSet w _ _ _ (.inr (.inr (.inl ⟨i,b,.inl rfl⟩)))⟩
theorem Ro.now(h:Ro w D Q g st F)(x:Int):Ro (w.setCell ⟨D.kb,8,none⟩ (.int .i64 x)) D Q g { st with now:=x } F∧aH (Rm D Q g st) w (w.setCell ⟨D.kb,8,none⟩ (.int .i64 x)):=
 ⟨h.upd h.ref.kern (by decide) (aH.ofSet w _ _ _ rfl) (h.ref.setNow x) rfl rfl ⟨h.ok.good,h.ok.len,h.ok.part,h.ok.qlen⟩,aH.ofSet w _ _ _ (.inl rfl)⟩
theorem Ro.lost(h:Ro w D Q g st F)(x:Bool):Ro (w.setCell ⟨D.kb,9,none⟩ (.bool x)) D Q g { st with dead:=x } F∧aH (Rm D Q g st) w (w.setCell ⟨D.kb,9,none⟩ (.bool x)):=
 ⟨h.upd h.ref.kern (by decide) (aH.ofSet w _ _ _ rfl) (h.ref.setLost x) rfl rfl ⟨h.ok.good,h.ok.len,h.ok.part,h.ok.qlen⟩,aH.ofSet w _ _ _ (.inl rfl)⟩
theorem Ro.keep(h:Ro w D Q g st F)(a:∀b,b<w.heap.size→w'.heap[b]?=w.heap[b]?):Ro w' D Q g st F:=
 ⟨h.ref.same (fun b _ _ c _=>a b (lt_of_block c)),h.lay,h.ok,h.fl.keep (a g h.fl.lt),h.flok⟩
theorem Ro.begin(h:Ro w D Q g st F)(i n:Nat)(c:i<st.parts.length)(d:n<(st.part i).procs.length):
 Ro (((((w.setCell ⟨D.pr i,n*5,none⟩ (.int .i64 0)).setCell ⟨D.pr i,n*5+1,none⟩ (.int .i64 0)).setCell ⟨D.pr i,n*5+2,none⟩ (.int .i64 0)).setCell ⟨D.pr i,n*5+3,none⟩ (.int .i64 (-1))).setCell ⟨D.pr i,n*5+4,none⟩ (.bool false)) D Q g (st.setProc i n dC) F∧
 aH (Rm D Q g st) w (((((w.setCell ⟨D.pr i,n*5,none⟩ (.int .i64 0)).setCell ⟨D.pr i,n*5+1,none⟩ (.int .i64 0)).setCell ⟨D.pr i,n*5+2,none⟩ (.int .i64 0)).setCell ⟨D.pr i,n*5+3,none⟩ (.int .i64 (-1))).setCell ⟨D.pr i,n*5+4,none⟩ (.bool false)):=by
 have b:Rm D Q g st (D.pr i):=.inr (.inr (.inl ⟨i,c,.inr rfl⟩));refine⟨?_,((((aH.ofSet (S:=Rm D Q g st) w _ _ _ b).thenSet _ _ b).thenSet _ _ b).thenSet _ _ b).thenSet _ _ b⟩;have step:∀ {W:World} {s:aQ} {x:cQ} (k:Nat) (v:Value) (a:cQ),Ro W D Q g s F→s=st.setProc i n x→k<5→(bM x).set k v=bM a→Ro (W.setCell ⟨D.pr i,n*5+k,none⟩ v) D Q g (st.setProc i n a) F:=by
  intro W s x k v a j l m o;subst l;have f:(st.setProc i n x).part i={ st.part i with procs:=(st.part i).procs.set n x }:=aQ.part_set c;have p:(st.setProc i n x).proc i n=x:=by
   unfold aQ.proc;rw[f];simp[List.getD_eq_getElem?_getD,d]
  have:=(j.pset i n k v a (by rw[aQ.setProc,aQ.setPart_len];exact c) (by rw[f];simpa using d) m (by rw[p];exact o)).1;have e:(st.setProc i n x).setProc i n a=st.setProc i n a:=by
   unfold aQ.setProc;rw[aQ.part_set c,aQ.setPart_set];simp
  rw[e]at this;exact this
 have q:st=st.setProc i n (st.proc i n):=by
  unfold aQ.setProc;have r:(st.part i).procs.set n (st.proc i n)=(st.part i).procs:=by
   unfold aQ.proc;rw[List.getD_eq_getElem?_getD,List.getElem?_eq_getElem d];simp
  rw[r];exact(aQ.setPart_self st i).symm
 have u:=step 0 (.int .i64 0) { st.proc i n with next:=0 } h q (by omega) rfl;have y:=step 1 (.int .i64 0) { st.proc i n with next:=0,acc:=0 } u rfl (by omega) rfl;have z:=step 2 (.int .i64 0) { st.proc i n with next:=0,acc:=0,til:=0 } y rfl (by omega) rfl;have A:=step 3 (.int .i64 (-1)) { st.proc i n with next:=0,acc:=0,til:=0,dl:=-1 } z rfl (by omega) rfl;exact step 4 (.bool false) dC A rfl (by omega) rfl
end
end
section
open Go.RowKit Go.Shelf
attribute [local go_sem] Oper.semAt_some
def zJ(i:Nat)(st:aQ)(k:Nat):aQ:=st.setPart i { st.part i with procs:=List.replicate k dC++(st.part i).procs.drop k }
theorem Oe(i:Nat)(st:aQ):zJ i st 0=st:=by
 unfold zJ;simp only[List.replicate_zero,List.nil_append,List.drop_zero];exact aQ.setPart_self st i
theorem Md(i:Nat)(st:aQ)(a:i<st.parts.length)(k:Nat)(b:k<(st.part i).procs.length):(zJ i st k).setProc i k dC=zJ i st (k+1):=by
 unfold zJ aQ.setProc;rw[aQ.part_set a,aQ.setPart_set]
 congr 2
 simp only;rw[List.set_append_right _ _ (by simp),List.length_replicate,Nat.sub_self,List.drop_eq_getElem_cons b,List.set_cons_zero,List.replicate_succ',List.append_assoc];rfl
theorem Av(i:Nat)(st:aQ)(a:i<st.parts.length)(k:Nat):(zJ i st k).part i={ st.part i with procs:=List.replicate k dC++(st.part i).procs.drop k }:=aQ.part_set a
def pQ(i:Nat)(st:aQ)(k:Nat):aQ:=st.setPart i { st.part i with words:=nC (st.part i).words k }
theorem Hf(i:Nat)(st:aQ):pQ i st 0=st:=by
 unfold pQ;have:nC (st.part i).words 0=(st.part i).words:=by simp[nC]
 rw[this];exact aQ.setPart_self st i
theorem yR(i:Nat)(st:aQ)(a:i<st.parts.length)(k:Nat):(pQ i st k).part i={ st.part i with words:=nC (st.part i).words k }:=aQ.part_set a
theorem Kg(i:Nat)(st:aQ)(a:i<st.parts.length)(k:Nat)(b:k<(st.part i).words.length):(pQ i st k).setPart i { (pQ i st k).part i with words:=((pQ i st k).part i).words.set k 0 }=pQ i st (k+1):=by
 rw[yR i st a];unfold pQ;rw[aQ.setPart_set];simp only[Ao _ _ b]
theorem It(st:aQ)(i:Nat)(mode:Int)(b:i<st.parts.length)(a:aQ)(c:a=zJ i (st.setPart i { st.part i with mode:=mode,watch:=st.now }) (st.part i).procs.length):st.restart i mode=if mode=1 then pQ i a (st.part i).words.length else a:=by
 have d:(st.setPart i { st.part i with mode:=mode,watch:=st.now }).part i={ st.part i with mode:=mode,watch:=st.now }:=aQ.part_set b;have g:a.part i={ st.part i with mode:=mode,watch:=st.now,procs:=List.replicate (st.part i).procs.length dC }:=by
  rw[c,Av i _ (by rw[aQ.setPart_len];exact b),d];simp
 have f:a=st.setPart i { st.part i with mode:=mode,watch:=st.now,procs:=List.replicate (st.part i).procs.length dC }:=by
  rw[c];unfold zJ;rw[d,aQ.setPart_set];simp
 unfold aQ.restart gI;split
 ·unfold pQ;rw[g,f,aQ.setPart_set];simp only[Bn]
 ·rw[f]
theorem Ro.capR{w:World}{a:eZ}{Q:Nat→Value}{g:Nat}{st:aQ}{F:Fl}(h:Ro w a Q g st F):st.parts.length≤4:=by
 rw[h.ok.len];exact h.ok.good.few.2
theorem eA.wordsLen{st:aQ}(h:eA st)(i:Nat)(c:i<st.parts.length):1≤(st.part i).words.length∧(st.part i).words.length≤16:=by
 have a:=(h.part i c).1;have b:=(h.good.parts (st.cf.parts.getD i default) (dB (by rw[←h.len];exact c))).words;unfold aQ.part;omega
theorem eA.procsLen{st:aQ}(h:eA st)(i:Nat)(c:i<st.parts.length):1≤(st.part i).procs.length∧(st.part i).procs.length≤2:=by
 have a:=(h.part i c).2;have b:=(h.good.parts (st.cf.parts.getD i default) (dB (by rw[←h.len];exact c))).few;unfold aQ.part;omega
theorem oW(c:eZ)(Q:Nat→Value)(g:Nat)(st:aQ)(F:Fl)(i:Nat)(mode:Int)(w:World)(h:Ro w c Q g st F)(f:i<st.parts.length):
 Calls Tryz.prog 144 #[.pointer (some ⟨c.kb,0,none⟩),.int .i64 i,.int .i64 mode] w fun e w'=>e=.returned (.tuple #[])∧Ro w' c Q g (st.restart i mode) F∧aH (Rm c Q g st) w w':=by
 obtain⟨d,L⟩:∃d,d=(st.part i).procs.length:=⟨_,rfl⟩;obtain⟨m,M⟩:∃m,m=(st.part i).words.length:=⟨_,rfl⟩;have b2:=h.ok.procsLen i f;have b3:=h.ok.wordsLen i f;rw[←L]at b2;rw[←M]at b3;have Z:=h.ref.kAt 6;have a0:=h.ref.kAt 8;simp only[cE,List.getElem?_toArray,List.getElem?_cons_succ,List.getElem?_cons_zero]at Z a0;have a1:=h.ref.rAt i 0 f (by omega);have a2:=h.ref.rAt i 3 f (by omega);simp only[kK,List.getElem?_cons_succ,List.getElem?_cons_zero,Nat.add_zero]at a1 a2;have b4:=dJ h.ref.parts (i*4);have b5:=dJ h.ref.parts (i*4+3);obtain⟨cur,a3⟩:=jN h.ref.parts;have d2:¬c.kb=c.rp:=bG h.ref.kern a3 (by decide);clear a3 cur;obtain⟨q,A⟩:∃q,q=st.setPart i { st.part i with mode:=mode,watch:=st.now }:=⟨_,rfl⟩;have N:q.part i={ st.part i with mode:=mode,watch:=st.now }:=by rw[A];exact aQ.part_set f
 have a4:q.parts.length=st.parts.length:=by rw[A];exact aQ.setPart_len _ _ _
 have a5:q.cf=st.cf:=by rw[A];rfl
 obtain⟨B,R⟩:∃B,B=(w.setCell ⟨c.rp,i*4,none⟩ (.int .i64 mode)).setCell ⟨c.rp,i*4+3,none⟩ (.int .i64 st.now):=⟨_,rfl⟩;have a6:Ro B c Q g q F∧aH (Rm c Q g st) w B:=by
  have a7:=h.mset i mode f;have u:=a7.1.wtset i st.now (by rw[aQ.setPart_len];exact f);rw[aQ.part_set f,aQ.setPart_set,←A,←R]at u;exact⟨u.1,a7.2.andThen (u.2.to (fun b e=>(Rm.same (aQ.setPart_len _ _ _) rfl).1 e))⟩
 obtain⟨S,v⟩:∃S:Nat→aQ,S=zJ i q:=⟨_,rfl⟩;have r:∀k,(S k).parts.length=st.parts.length:=fun k=>by rw[v];unfold zJ;rw[aQ.setPart_len,a4]
 have T:∀k,(S k).cf=st.cf:=fun k=>by rw[v];exact a5
 have U:∀k,(S k).part i={ q.part i with procs:=List.replicate k dC++(q.part i).procs.drop k }:=fun k=>by rw[v];exact Av i q (by omega) k
 have O:∀k,k≤d→((S k).part i).procs.length=d:=fun k l=>by rw[U,N];simp;omega
 have I:∀k,((S k).part i).words.length=m:=fun k=>by rw[U,N];exact M.symm
 have b6:Hid (Ro B c Q g (S 0) F∧aH (Rm c Q g st) w B):=by
  show _∧_
  rw[v,Oe];exact a6
 have b7:Hid (∀k W,k≤d→Ro W c Q g (S k) F→W.cell? ⟨c.rp,i*4+2,none⟩=some (sl (c.pr i) d (c.pc i))∧W.cell? ⟨c.rp,i*4+1,none⟩=some (sl (c.wd i) m (c.wc i))):=fun k W l p=>by
  have a:=p.ref.rAt i 2 (by rw[r];exact f) (by omega);have b:=p.ref.rAt i 1 (by rw[r];exact f) (by omega);simp only[kK,List.getElem?_cons_succ,List.getElem?_cons_zero]at a b;rw[O k l]at a;rw[I]at b;exact⟨a,b⟩
 have b8:Hid (∀k W,k<d→Ro W c Q g (S k) F→∃x:cQ,W.cell? ⟨c.pr i,k*5,none⟩=some (.int .i64 x.next)∧W.cell? ⟨c.pr i,k*5+1,none⟩=some (.int .i64 x.acc)∧W.cell? ⟨c.pr i,k*5+2,none⟩=some (.int .i64 x.til)∧W.cell? ⟨c.pr i,k*5+3,none⟩=some (.int .i64 x.dl)∧W.cell? ⟨c.pr i,k*5+4,none⟩=some (.bool x.stopped)∧(∀o,W.frozen? ⟨c.pr i,o,none⟩=false)):=fun k W l p=>by
  have J:=fun b9 c0=>p.ref.pAt i k b9 (by rw[r];exact f) (by rw[O k (by omega)];exact l) c0
  exact⟨(S k).proc i k,J 0 (by omega),J 1 (by omega),J 2 (by omega),J 3 (by omega),J 4 (by omega),fun o=>dJ (p.ref.procs i (by rw[r];exact f)) o⟩
 have c1:Hid (∀k W,k<d→Ro W c Q g (S k) F→aH (Rm c Q g st) w W→Ro (((((W.setCell ⟨c.pr i,k*5,none⟩ (.int .i64 0)).setCell ⟨c.pr i,k*5+1,none⟩ (.int .i64 0)).setCell ⟨c.pr i,k*5+2,none⟩ (.int .i64 0)).setCell ⟨c.pr i,k*5+3,none⟩ (.int .i64 (-1))).setCell ⟨c.pr i,k*5+4,none⟩ (.bool false)) c Q g (S (k+1)) F∧aH (Rm c Q g st) w (((((W.setCell ⟨c.pr i,k*5,none⟩ (.int .i64 0)).setCell ⟨c.pr i,k*5+1,none⟩ (.int .i64 0)).setCell ⟨c.pr i,k*5+2,none⟩ (.int .i64 0)).setCell ⟨c.pr i,k*5+3,none⟩ (.int .i64 (-1))).setCell ⟨c.pr i,k*5+4,none⟩ (.bool false))):=fun k W l p V=>by
  have:=p.begin i k (by rw[r];exact f) (by rw[O k (by omega)];exact l);have e:(S k).setProc i k dC=S (k+1):=by rw[v];exact Md i q (by omega) k (by rw[N,←L];exact l)
  rw[e]at this;exact⟨this.1,V.andThen (this.2.to (fun b u=>(Rm.same (r k) (T k)).1 u))⟩
 obtain⟨j,y⟩:∃j:Nat→aQ,j=pQ i (S d):=⟨_,rfl⟩;have C:∀k,(j k).parts.length=st.parts.length:=fun k=>by rw[y];unfold pQ;rw[aQ.setPart_len,r]
 have a8:∀k,(j k).cf=st.cf:=fun k=>by rw[y];exact T d
 have a9:∀k,(j k).part i={ (S d).part i with words:=nC ((S d).part i).words k }:=fun k=>by rw[y];exact yR i (S d) (by rw[r];exact f) k
 have X:∀k,k≤m→((j k).part i).words.length=m:=fun k l=>by
  rw[a9];show(nC _ k).length=m
  rw[Bd _ _ (by rw[I];exact l),I]
 have c2:Hid (∀W,Ro W c Q g (S d) F→Ro W c Q g (j 0) F):=fun W p=>by rw[y,Hf];exact p
 have c3:Hid (∀k W,k≤m→Ro W c Q g (j k) F→W.cell? ⟨c.rp,i*4+1,none⟩=some (sl (c.wd i) m (c.wc i))):=fun k W l p=>by
  have b:=p.ref.rAt i 1 (by rw[C];exact f) (by omega);simp only[kK,List.getElem?_cons_succ,List.getElem?_cons_zero]at b;rw[X k l]at b;exact b
 have c4:Hid (∀k W,k<m→Ro W c Q g (j k) F→∃z,W.cell? ⟨c.wd i,k,none⟩=some (.int .i64 z)∧W.frozen? ⟨c.wd i,k,none⟩=false):=fun k W l p=>
  ⟨_,p.ref.wAt i k (by rw[C];exact f) (by rw[X k (by omega)];exact l),dJ (p.ref.words i (by rw[C];exact f)) k⟩
 have c5:Hid (∀k W,k<m→Ro W c Q g (j k) F→aH (Rm c Q g st) w W→Ro (W.setCell ⟨c.wd i,k,none⟩ (.int .i64 0)) c Q g (j (k+1)) F∧aH (Rm c Q g st) w (W.setCell ⟨c.wd i,k,none⟩ (.int .i64 0))):=fun k W l p V=>by
  have:=p.wset i k 0 (by rw[C];exact f);have e:(j k).setPart i { (j k).part i with words:=((j k).part i).words.set k 0 }=j (k+1):=by rw[y];exact Kg i (S d) (by rw[r];exact f) k (by rw[I];exact l)
  rw[e]at this;exact⟨this.1,V.andThen (this.2.to (fun b u=>(Rm.same (C k) (a8 k)).1 u))⟩
 have P:Hid (st.restart i mode=if mode=1 then j m else S d):=by
  show _=_
  rw[It st i mode f (S d) (by rw[v,A,L]),y,M]
 have d3:=tO h.ref.parts;have c6:=aI R;have d4:=h.capR;generalize st.restart i mode=d5 at *;clear R v y a9 X C a8 U O I r T a6 N A h a4 a5 L M;generalize st.parts.length=n at *
 go_enter Tryz.func144,Tryz.ntmps144
 go_wp2
 rw[←c6.out];clear Z a0 a1 a2 b4 b5
 go_loopw [7] (fun t wr=>∃k:Nat,k≤d∧t=.int .i64 k∧Hid (Ro wr c Q g (S k) F∧aH (Rm c Q g st) w wr)) (fun t _=>d-(intOf t).toNat)
 case atStart=>exact⟨0,by omega,rfl,b6⟩
 case round=>
  obtain⟨k,l,rfl,s⟩:=hrel;obtain⟨c7,r1⟩:=b7.out k wr l s.out.1
  by_cases b0:k<d
  ·obtain⟨x,d6,d7,d8,d9,e0,D⟩:=b8.out k wr b0 s.out.1;have e1:=D (k*5);have e2:=D (k*5+1);have e3:=D (k*5+2);have e4:=D (k*5+3);have e5:=D (k*5+4);have Y:=aI (c1.out k wr b0 s.out.1 s.out.2);clear D;go_wp2
   go_roundw
   case rel=>exact⟨k+1,by omega,by go_num,Y⟩
   case measure=>simp[intOf];omega
  ·obtain rfl:k=d:=by omega
   have c8:Hid (Ro wr c Q g (j 0) F∧aH (Rm c Q g st) w wr):=⟨c2.out wr s.out.1,s.out.2⟩;go_wp2
   generalize wr=c9 at *
   by_cases E:mode=1
   ·have d0:(mode == 1)=true:=by simp[E]
    rw[if_pos E]at P;clear E r1 c7
    go_loopw [8] (fun t wr=>∃k:Nat,k≤m∧t=.int .i64 k∧Hid (Ro wr c Q g (j k) F∧aH (Rm c Q g st) w wr)) (fun t _=>m-(intOf t).toNat)
    case atStart=>exact⟨0,by omega,rfl,c8⟩
    case round=>
     obtain⟨G,d1,rfl,H⟩:=hrel;have r1:=c3.out G wr d1 H.out.1
     by_cases b1:G<m
     ·obtain⟨z,z0,e6⟩:=c4.out G wr b1 H.out.1;have Y:=aI (c5.out G wr b1 H.out.1 H.out.2);go_wp2
      go_roundw
      case rel=>exact⟨G+1,by omega,by go_num,Y⟩
      case measure=>simp[intOf];omega
     ·obtain rfl:G=m:=by omega
      go_wp2
      go_end0
      rw[P.out];exact⟨rfl,H.out.1,H.out.2⟩
   ·have d0:(mode == 1)=false:=by simp[E]
    rw[if_neg E]at P;clear E
    go_loopw [8] (fun t wr=>t=.int .i64 0∧wr=c9) (fun t _=>0)
    case atStart=>exact⟨rfl,rfl⟩
    case round=>
     obtain⟨rfl,rfl⟩:=hrel;go_wp2
     go_end0
     rw[P.out];exact⟨rfl,s.out.1,s.out.2⟩
end
theorem Ph(bs:List Int):((bD bs).1<0→cH bs (bE bs).1=false∧bE bs=(1,0))∧(0≤(bD bs).1→∃t:Nat,t<2∧(bD bs).1=t∧(bE bs).1=t∧(bE bs).2=1-t∧cH bs t=true):=by
 unfold bD;rcases hX:cH bs 0 with _| _<;>rcases hY:cH bs 1 with _| _
 ·have a:bE bs=(1,0):=by unfold bE;rw[hX];rfl
  rw[a];exact⟨fun _=>⟨hY,rfl⟩,fun h=>absurd h (show ¬ (0:Int)≤-1 by decide)⟩
 ·have a:bE bs=(1,0):=by unfold bE;rw[hX];rfl
  rw[a];exact⟨fun h=>absurd h (show ¬ (1:Int)<0 by decide),fun _=>⟨1,by decide,rfl,rfl,rfl,hY⟩⟩
 ·have a:bE bs=(0,1):=by unfold bE;rw[hX,hY];rfl
  rw[a];exact⟨fun h=>absurd h (show ¬ (0:Int)<0 by decide),fun _=>⟨0,by decide,rfl,rfl,rfl,hX⟩⟩
 ·have f:=iC bs 0 hX;have g:=iC bs 1 hY
  by_cases d:eC bs 1≤eC bs 0
  ·have a:bE bs=(0,1):=by unfold bE;rw[hX,hY,decide_eq_true d];rfl
   rw[a];have c:(lB true true (jD bs 0) (jD bs 1)).1=0:=by
    by_cases b:jD bs 0=jD bs 1+1
    ·rw[Dg _ _ b]
    ·rw[Ct _ _ b (by omega) (by omega)]
   rw[c];exact⟨fun h=>absurd h (by decide),fun _=>⟨0,by decide,rfl,rfl,rfl,hX⟩⟩
  ·have a:bE bs=(1,0):=by unfold bE;rw[hX,hY,decide_eq_false d];rfl
   rw[a];have c:(lB true true (jD bs 0) (jD bs 1)).1=1:=by
    by_cases b:jD bs 1=jD bs 0+1
    ·rw[Dq _ _ (by omega) b]
    ·rw[Dd _ _ (by omega) b (by omega)]
   rw[c];exact⟨fun h=>absurd h (by decide),fun _=>⟨1,by decide,rfl,rfl,rfl,hY⟩⟩
def pR(bs:List Int):Nat→Int
 | 0=>0
 | k+1=>256*pR bs k+aX bs k
theorem Nj(bs:List Int):pR bs 4=kE bs:=by
 unfold kE;simp only[pR];omega
theorem Mx(bs:List Int)(k:Nat)(a:k≤4):0≤pR bs k∧pR bs k<4294967296:=by
 have b:=oC bs 0;have r1:=oC bs 1;have c:=oC bs 2;have d:=oC bs 3;obtain rfl| rfl| rfl| rfl| rfl:k=0∨k=1∨k=2∨k=3∨k=4:=by omega
 all_goals (simp only[pR];omega)
theorem Gf(bs:List Int)(s:Nat)(h:cH bs s=true):lU bs s 1=1:=by
 unfold cH at h;simp at h;show(if gQ bs s 0=0 then 0 else 0+1)=1
 rw[if_neg (by rw[h.1];decide)]
theorem Gi(g:Nat)(F:Fl)(part code act:Int)(w:World)(h:fO w g F)(d4:gU F):
 Calls Tryz.prog 143 #[.pointer (some ⟨g,0,none⟩),.int .i64 part,.int .i64 code,.int .i64 act] w fun e w'=>
  e=.returned (.bool (F.app part code act).1)∧fO w' g (F.app part code act).2∧aH (·=g) w w':=by
 have O:=aI (Ph F.bs);have g3:=(nS F.bs).1;have d5:=aI (tL g F.bs F.left F.res F.dead F.done w h);have d6:Hid (∀W,Below w.heap.size w W→Calls Tryz.prog 35 #[.pointer (some ⟨g,0,none⟩)] W fun e w'=>∃x cap,e=.returned (.slice (some ⟨x,0,none⟩) 256 cap)∧Gv x cap F.bs w'∧Below W.heap.size W w'):=fun W l=>by
  refine(oK g F.bs F.left F.res F.dead F.done W (h.below l)).mono ?_;rintro e w' ⟨x,cap,rfl,g4,g5⟩;exact⟨x,cap,rfl,yT g4 h.bytes,g5⟩
 have d7:Hid (∀p W,p<4→Below w.heap.size w W→Calls Tryz.prog 140 #[.pointer (some ⟨g,0,none⟩),.int .i64 (p:Nat)] W fun e w'=>e=.returned (.int .i64 (aX F.bs p))∧Below W.heap.size W w'):=fun p W g6 l=>nQ g F.bs F.left F.res F.dead F.done p W g6 (h.below l)
 have g7:=aI (wL F.bs);have g8:=zZ (bT F.bs) (Kt F.bs h.bytes) (bT F.bs).length;rw[List.take_length]at g8;have g9:=aI (fun s=>oF F.bs h.bytes s);have a7:=aI (Mx F.bs);have d8:=aI (Nj F.bs);have d9:Hid (∀k,pR F.bs (k+1)=256*pR F.bs k+aX F.bs k):=fun k=>rfl
 have e0:=aI (oC F.bs);have b:Hid (F.app part code act=if cH F.bs (bE F.bs).1=true∧nW F.bs (bE F.bs).1<8 then F.lay (128*(bE F.bs).1+16*nW F.bs (bE F.bs).1) (dN 1 part code (fQ (bT F.bs)+1) act)
  else eL (F.erase (bE F.bs).2) fun d=>eL (d.lay (128*(bE F.bs).2) (dN 2 0 0 (fG F.bs (bE F.bs).1 3+1) (kE F.bs))) fun m=>m.lay (128*(bE F.bs).2+16) (dN 1 part code (fQ (bT F.bs)+1) act)):=rfl
 have b1:=aI h;have P:=aI d4;have e1:Hid (∀s,cH F.bs s=true→jD F.bs s=eC F.bs s):=fun s h0=>(iC F.bs s h0).symm
 clear h d4;obtain⟨r,e2⟩:∃r,r=F.app part code act:=⟨_,rfl⟩;rw[←e2]at b ⊢;clear e2
 go_enter Tryz.func143,Tryz.ntmps143
 go_wp2_with fail
 refine d5.out.mono ?_;rintro e h1 ⟨v,rfl,⟨e3,_⟩,e4⟩;have e5:=aI e3;have b2:=aI e4;clear e3 e4 d5;go_wp2_with fail
 refine(Hl w.heap.size v (bT F.bs) h1 g7.out e5.out).mono ?_;rintro e j0 ⟨rfl,rfl⟩;generalize fQ (bT F.bs)=u at *;go_wp2_with fail
 refine(d6.out _ b2.out).mono ?_;rintro e e6 ⟨x,cap,rfl,e7,e8⟩;have b3:=aI e7;have e9:Hid (Below w.heap.size w e6):=b2.out.trans (e8.mono b2.out.size);clear e7 e8 d6 e5;go_wp2_with fail
 refine(oX x cap F.bs e6 b3.out).mono ?_;rintro e y ⟨rfl,b4⟩;have b5:Hid (Below w.heap.size w y):=e9.out.trans (b4.mono e9.out.size);have H:=aI (b3.out.below b4);clear b4 b3;obtain⟨a8,f0⟩:∃a8,a8=(bD F.bs).1:=⟨_,rfl⟩;rw[←f0]at O g3 ⊢;clear f0;generalize (bD F.bs).2=B at *
 by_cases b6:a8<0
 ·obtain⟨Q,f1⟩:=O.out.1 b6;obtain rfl:a8=-1:=by omega
  rw[f1]at Q b;simp only at Q b;rw[if_neg (by rw[Q];simp),show fG F.bs 1 3=0 from by unfold fG;rw[Q];rfl]at b;rw[Int.zero_add]at b;clear Q f1 b6 O H;go_wp2
  go_loopw [22,23] (fun a p wr=>∃k:Nat,k≤4∧p=.int .i64 k∧a=.int .i64 (pR F.bs k)∧Below w.heap.size w wr) (fun _ p _=>4-(intOf p).toNat)
  case atStart=>exact⟨0,by omega,rfl,rfl,b5.out⟩
  case round=>
   obtain⟨k,b7,rfl,rfl,E⟩:=hrel;have n:=aI E;clear E;have b8:=a7.out k b7
   by_cases R:k<4
   ·have z:=aI (d7.out k _ R n.out);have q:=aI (d9.out k);have h2:=e0.out k;have b9:=a7.out (k+1) (by omega);rw[q.out]at b9;generalize pR F.bs k=h3 at *;generalize aX F.bs k=rs at *;go_wp2_with fail
    refine z.out.mono ?_;rintro e c0 ⟨rfl,S⟩;have c1:Hid (Below w.heap.size w c0):=n.out.trans (S.mono n.out.size);clear S z;go_wp2
    go_roundw
    case rel=>exact⟨k+1,by omega,by go_num,by rw[q.out],c1.out⟩
    case measure=>simp[intOf];omega
   ·obtain rfl:k=4:=by omega
    rw[d8.out]at b8 ⊢;have I:Hid (Calls Tryz.prog 158 #[.pointer (some ⟨g,0,none⟩),.int .i64 0] wr fun e w'=>e=.returned (.bool (F.erase 0).1)∧fO w' g (F.erase 0).2∧aH (·=g) wr w'):=tV g F 0 wr (b1.out.below n.out) P.out (by omega);have J:=aI (P.out.erase 0);generalize F.erase 0=c2 at *;obtain⟨c3,d⟩:=c2;simp only at I J;generalize kE F.bs=f at *;go_wp2_with fail
    refine I.out.mono ?_;rintro e A ⟨rfl,T,U⟩;have V:=aI T;have X:Hid (aH (·=g) w A):=(aH.ofBelow n.out).andThen U;clear T U I;cases c3 with
    | false=>
     have L:Hid (r=(false,d)):=by show _=_;rw[b.out];rfl
     go_wp2
     go_ret
     rw[L.out];exact⟨rfl,V.out,X.out⟩
    | true=>
     rw[kQ]at b;have j:Hid (Calls Tryz.prog 183 #[.pointer (some ⟨g,0,none⟩),.int .i64 0,.int .i64 0,.agg #[.int .i64 2,.int .i64 0,.int .i64 0,.int .i64 (1),.int .i64 f]] A fun e w'=>e=.returned (.bool (d.lay (128*0) (dN 2 0 0 (1) f)).1)∧fO w' g (d.lay (128*0) (dN 2 0 0 (1) f)).2∧aH (·=g) A w'):=qU g d 0 0 2 0 0 (1) f A V.out J.out (by omega) (by omega);have Y:=aI (J.out.lay (128*0) (dN 2 0 0 (1) f));generalize d.lay (128*0) (dN 2 0 0 (1) f)=c4 at *;obtain⟨c5,m⟩:=c4;simp only at j Y;go_wp2_with fail
     refine j.out.mono ?_;rintro e C ⟨rfl,Z,a0⟩;have a1:=aI Z;have a2:Hid (aH (·=g) w C):=X.out.andThen a0;clear Z a0 j;cases c5 with
     | false=>
      have L:Hid (r=(false,m)):=by show _=_;rw[b.out];rfl
      go_wp2
      go_ret
      rw[L.out];exact⟨rfl,a1.out,a2.out⟩
     | true=>
      rw[kQ]at b;have D:Hid (Calls Tryz.prog 183 #[.pointer (some ⟨g,0,none⟩),.int .i64 0,.int .i64 1,.agg #[.int .i64 1,.int .i64 part,.int .i64 code,.int .i64 (u+1),.int .i64 act]] C fun e w'=>e=.returned (.bool (m.lay (128*0+16) (dN 1 part code (u+1) act)).1)∧fO w' g (m.lay (128*0+16) (dN 1 part code (u+1) act)).2∧aH (·=g) C w'):=qU g m 0 1 1 part code (u+1) act C a1.out Y.out (by omega) (by omega);rw[←b.out]at D;clear b;obtain⟨f2,f3⟩:=r;simp only at D;go_wp2_with fail
      refine D.out.mono ?_;rintro e c6 ⟨rfl,a3,a4⟩;have c7:=aI a3;have c8:Hid (aH (·=g) w c6):=a2.out.andThen a4;clear a3 a4 D;go_wp2
      go_ret
      exact⟨rfl,c7.out,c8.out⟩
 ·obtain⟨t,c9,rfl,f4,f5,a5⟩:=O.out.2 (by omega);rw[f4,f5]at b;have h4:=aI (e1.out t a5);have h5:=aI a5;have h6:=aI (Gf F.bs t a5);have a9:=aI (fun W (l:Below y.heap.size y W)=>nN x cap F.bs t W c9 (H.out.below l));rw[h4.out,a5]at a9;have d0:=aI (fun i W (h7:i<8) (l:Below y.heap.size y W)=>qN x cap F.bs t i W c9 h7 (H.out.below l).len (H.out.below l).bytes (H.out.below l).row (H.out.below l).c1 (H.out.below l).c2);have j1:decide ((0:Int)≤(t:Int))=true:=by simp
  have f6:∀k,lU F.bs t (k+1)=if gQ F.bs t k=0 then lU F.bs t k else k+1:=fun k=>rfl
  have h8:=aI f6;have h9:=aI (fun k=>Ay F.bs t k);have i0:=aI (g9.out t);clear b6 O f4 f5 a5 f6 e1;go_wp2
  go_loopw [13,14] (fun a i wr=>∃k:Nat,1≤k∧k≤8∧i=.int .i64 k∧a=.int .i64 (lU F.bs t k:Nat)∧Below y.heap.size y wr) (fun _ i _=>8-(intOf i).toNat)
  case atStart=>exact⟨1,by omega,by omega,rfl,by rw[h6.out];rfl,Below.refl _ _⟩
  case round=>
   obtain⟨k,j2,j3,rfl,rfl,E⟩:=hrel;have G:=aI E;clear E;have j4:=h9.out k
   by_cases R:k<8
   ·have z:=aI (d0.out k wr R G.out);have q:=aI (h8.out k);generalize lU F.bs t k=a6 at *;simp only[jZ]at z;generalize gQ F.bs t k=d1 at *;generalize cY F.bs t k 0=j5 at *;generalize cY F.bs t k 1=j6 at *;generalize cY F.bs t k 2=j7 at *;generalize cY F.bs t k 3=j8 at *;generalize cY F.bs t k 4=j9 at *;go_wp2_with fail
    refine z.out.mono ?_;rintro e i1 ⟨rfl,d2⟩;have f7:Hid (∀o,Below y.heap.size y (i1.alloc o)):=fun o=>(G.out.trans (d2.mono G.out.size)).alloc (Nat.le_trans G.out.size d2.size) o
    clear d2 z
    by_cases M:d1=0
    ·have i2:(d1 != 0)=false:=by simp[M]
     rw[if_pos M]at q;clear M;go_wp2
     go_roundw
     case rel=>exact⟨k+1,by omega,by omega,by go_num,by rw[q.out],f7.out _⟩
     case measure=>simp[intOf];omega
    ·have i2:(d1 != 0)=true:=by simp[M]
     rw[if_neg M]at q;clear M;go_wp2
     go_roundw
     case rel=>exact⟨k+1,by omega,by omega,by go_num,by rw[q.out];go_num,f7.out _⟩
     case measure=>simp[intOf];omega
   ·obtain rfl:k=8:=by omega
    have i3:Hid (nW F.bs t=lU F.bs t 8):=rfl;rw[i3.out,h5.out]at b;have b0:Hid (Below w.heap.size w wr):=b5.out.trans (G.out.mono b5.out.size);generalize lU F.bs t 8=a6 at *;have k0:decide ((t:Int)<0)=false:=by simp
    by_cases d3:a6<8
    ·rw[if_pos ⟨rfl,d3⟩]at b;have j:=aI (qU g F t a6 1 part code (u+1) act wr (b1.out.below b0.out) P.out c9 d3);rw[←b.out]at j;have k1:((a6:Int) == 8)=false:=by simp;omega
     clear b a9 d0 G;obtain⟨f2,f3⟩:=r;simp only at j;go_wp2_with fail
     refine j.out.mono ?_;rintro e i4 ⟨rfl,f8,f9⟩;have i5:=aI f8;have i6:Hid (aH (·=g) w i4):=(aH.ofBelow b0.out).andThen f9;clear f8 f9 j;go_wp2
     go_ret
     exact⟨rfl,i5.out,i6.out⟩
    ·obtain rfl:a6=8:=by omega
     rw[if_neg (by simp)]at b;have g0:=aI (a9.out wr G.out);have i7:Hid (eC F.bs t=fG F.bs t 3):=rfl;rw[←i7.out]at b;have k2:=i0.out;generalize eC F.bs t=N at *;generalize tZ F.bs t=k3 at *;clear a9 d0 G d3;go_wp2_with fail
     refine g0.out.mono ?_;rintro e i8 ⟨rfl,g1⟩;have i9:Hid (Below w.heap.size w i8):=b0.out.trans (g1.mono b0.out.size);obtain⟨c,g2⟩:∃c:Nat,c=1-t:=⟨_,rfl⟩;rw[←g2]at b;have k4:c<2:=by omega
     have k5:(1:Int)-(t:Int)=(c:Int):=by omega
     clear g1 g0 g2;go_wp2
     go_loopw [22,23] (fun a p wr=>∃k:Nat,k≤4∧p=.int .i64 k∧a=.int .i64 (pR F.bs k)∧Below w.heap.size w wr) (fun _ p _=>4-(intOf p).toNat)
     case atStart=>exact⟨0,by omega,rfl,rfl,i9.out⟩
     case round=>
      obtain⟨k,b7,rfl,rfl,E⟩:=hrel;have n:=aI E;clear E;have b8:=a7.out k b7
      by_cases R:k<4
      ·have z:=aI (d7.out k _ R n.out);have q:=aI (d9.out k);have h2:=e0.out k;have b9:=a7.out (k+1) (by omega);rw[q.out]at b9;generalize pR F.bs k=h3 at *;generalize aX F.bs k=rs at *;go_wp2_with fail
       refine z.out.mono ?_;rintro e c0 ⟨rfl,S⟩;have c1:Hid (Below w.heap.size w c0):=n.out.trans (S.mono n.out.size);clear S z;go_wp2
       go_roundw
       case rel=>exact⟨k+1,by omega,by go_num,by rw[q.out],c1.out⟩
       case measure=>simp[intOf];omega
      ·obtain rfl:k=4:=by omega
       rw[d8.out]at b8 ⊢;have I:Hid (Calls Tryz.prog 158 #[.pointer (some ⟨g,0,none⟩),.int .i64 (c:Nat)] wr fun e w'=>e=.returned (.bool (F.erase c).1)∧fO w' g (F.erase c).2∧aH (·=g) wr w'):=tV g F c wr (b1.out.below n.out) P.out (by omega);have J:=aI (P.out.erase c);generalize F.erase c=c2 at *;obtain⟨c3,d⟩:=c2;simp only at I J;generalize kE F.bs=f at *;go_wp2_with fail
       refine I.out.mono ?_;rintro e A ⟨rfl,T,U⟩;have V:=aI T;have X:Hid (aH (·=g) w A):=(aH.ofBelow n.out).andThen U;clear T U I;cases c3 with
       | false=>
        have L:Hid (r=(false,d)):=by show _=_;rw[b.out];rfl
        go_wp2
        go_ret
        rw[L.out];exact⟨rfl,V.out,X.out⟩
       | true=>
        rw[kQ]at b;have j:Hid (Calls Tryz.prog 183 #[.pointer (some ⟨g,0,none⟩),.int .i64 (c:Nat),.int .i64 0,.agg #[.int .i64 2,.int .i64 0,.int .i64 0,.int .i64 (N+1),.int .i64 f]] A fun e w'=>e=.returned (.bool (d.lay (128*c) (dN 2 0 0 (N+1) f)).1)∧fO w' g (d.lay (128*c) (dN 2 0 0 (N+1) f)).2∧aH (·=g) A w'):=qU g d c 0 2 0 0 (N+1) f A V.out J.out (by omega) (by omega);have Y:=aI (J.out.lay (128*c) (dN 2 0 0 (N+1) f));generalize d.lay (128*c) (dN 2 0 0 (N+1) f)=c4 at *;obtain⟨c5,m⟩:=c4;simp only at j Y;go_wp2_with fail
        refine j.out.mono ?_;rintro e C ⟨rfl,Z,a0⟩;have a1:=aI Z;have a2:Hid (aH (·=g) w C):=X.out.andThen a0;clear Z a0 j;cases c5 with
        | false=>
         have L:Hid (r=(false,m)):=by show _=_;rw[b.out];rfl
         go_wp2
         go_ret
         rw[L.out];exact⟨rfl,a1.out,a2.out⟩
        | true=>
         rw[kQ]at b;have D:Hid (Calls Tryz.prog 183 #[.pointer (some ⟨g,0,none⟩),.int .i64 (c:Nat),.int .i64 1,.agg #[.int .i64 1,.int .i64 part,.int .i64 code,.int .i64 (u+1),.int .i64 act]] C fun e w'=>e=.returned (.bool (m.lay (128*c+16) (dN 1 part code (u+1) act)).1)∧fO w' g (m.lay (128*c+16) (dN 1 part code (u+1) act)).2∧aH (·=g) C w'):=qU g m c 1 1 part code (u+1) act C a1.out Y.out (by omega) (by omega);rw[←b.out]at D;clear b;obtain⟨f2,f3⟩:=r;simp only at D;go_wp2_with fail
         refine D.out.mono ?_;rintro e c6 ⟨rfl,a3,a4⟩;have c7:=aI a3;have c8:Hid (aH (·=g) w c6):=a2.out.andThen a4;clear a3 a4 D;go_wp2
         go_ret
         exact⟨rfl,c7.out,c8.out⟩
end Go.Proofs.YtnjlbgolnbdkaaaGreat
