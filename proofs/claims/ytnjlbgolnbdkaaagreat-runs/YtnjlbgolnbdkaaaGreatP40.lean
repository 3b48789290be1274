/- All, with short names -/
import Derived.Test.YtnjlbgolnbdkaaaGreatP36
import Derived.Test.YtnjlbgolnbdkaaaGreatP39
import Derived.Deep.RegionHeld
import Derived.Test.YtnjlbgolnbdkaaaGreatP37
set_option maxRecDepth 100000
set_option maxHeartbeats 16000000
namespace Go.Proofs.YtnjlbgolnbdkaaaGreat
open Go Go.RowKit
section
open Go.RowKit
theorem Bo.low{base base' kb g:Nat}{st:aQ}{w:World}(h:Bo base kb g st w)(hb:base'≤base):Bo base' kb g st w:=by
 obtain⟨a,b,vW,vC,c,d,f,i,j,k⟩:=h;exact⟨Nat.le_trans hb a,b,vW,vC,c,d,f,i.base hb,j.low hb,k.low hb⟩
theorem Bo.rows{base kb g:Nat}{st:aQ}{w:World}(h:Bo base kb g st w):∃a c,w.cell? ⟨kb,6,none⟩=some (.slice a st.parts.length c):=by
 obtain⟨_,i,vW,vC,j,k,b,_,⟨l,d,f,_⟩,_⟩:=h;obtain⟨a,c,rfl⟩:=bL f;refine⟨a,c,?_⟩;rw[cell_of_row _ _ _ _ _ _ b,←d,List.length_map];rfl
structure Wd(p:Nat→Value)(L:Nat→Nat)(hb:Nat)(n:Int)(vs:Nat→Value)(A:Nat→List eI)(kx fx gx kr:Nat)(M:bN)(st:aQ)(R:Nat→Prop)(bs:List Int)(left res:Int)(dead:Bool)(done:Int)(w:World):Prop where
 hnd:jJ p L hb n vs A A w
 p0:p 0=.pointer (some ⟨kx,0,none⟩)
 p1:p 1=.pointer (some ⟨fx,0,none⟩)
 p2:p 2=.pointer (some ⟨kr,0,none⟩)
 p3:p 3=.pointer (some ⟨gx,0,none⟩)
 kern:eP w kx M fx st
 kl:∀b,mH kx M st b→28≤L b
 ref:Fr R (Bo 0 kr gx st) w
 rl:∀b,R b→b<w.heap.size∧28≤L b
 ff:aS w fx bs left res dead done
 fl:28≤L fx
 gf:aS w gx bs left res dead done
 gl:28≤L gx
section
variable {p:Nat→Value} {L L':Nat→Nat} {hb:Nat} {n n':Int} {vs vs':Nat→Value} {A A':Nat→List eI} {kx fx gx kr:Nat} {M:bN} {st:aQ} {R:Nat→Prop} {bs:List Int} {left res:Int} {dead:Bool} {done:Int} {w w':World}
theorem Wd.next(h:Wd p L hb n vs A kx fx gx kr M st R bs left res dead done w)(j:jJ p L' hb n' vs' A' A' w')(l:∀k,k<w.heap.size→L' k=L k)(g:aH (fun k=>L k≤27) w w'):Wd p L' hb n' vs' A' kx fx gx kr M st R bs left res dead done w':=by
 have c:∀b,b<w.heap.size→28≤L b→w'.heap[b]?=w.heap[b]?:=fun b f i=>g.block b f (by omega)
 have d:∀b,b<w.heap.size→28≤L b→28≤L' b:=fun b f i=>by rw[l b f];exact i
 exact⟨j,h.p0,h.p1,h.p2,h.p3,h.kern.keep2 (fun b a=>c b (h.kern.lt b a) (h.kl b a)),fun b a=>d b (h.kern.lt b a) (h.kl b a),h.ref.keep (fun b a=>c b (h.rl b a).1 (h.rl b a).2),fun b a=>⟨Nat.lt_of_lt_of_le (h.rl b a).1 g.size,d b (h.rl b a).1 (h.rl b a).2⟩,h.ff.keep (c fx h.ff.lt h.fl),d fx h.ff.lt h.fl,h.gf.keep (c gx h.gf.lt h.gl),d gx h.gf.lt h.gl⟩
theorem Wd.below(h:Wd p L hb n vs A kx fx gx kr M st R bs left res dead done w)(a:Below w.heap.size w w'):Wd p (fun k=>if k<w.heap.size then L k else 100) hb n vs A kx fx gx kr M st R bs left res dead done w':=
 h.next (h.hnd.fresh a) (fun k b=>by simp[b]) (aH.ofBelow a)
theorem Wd.cells(h:Wd p L hb n vs A kx fx gx kr M st R bs left res dead done w):w.cell? ⟨hb,1,none⟩=some (.pointer (some ⟨fx,0,none⟩))∧w.cell? ⟨hb,2,none⟩=some (.pointer (some ⟨kr,0,none⟩))∧w.cell? ⟨hb,3,none⟩=some (.pointer (some ⟨gx,0,none⟩))∧w.cell? ⟨hb,0,none⟩=some (.pointer (some ⟨kx,0,none⟩)):=by
 refine⟨?_,?_,?_,?_⟩
 ·rw[cell_of_row _ _ _ _ _ _ h.hnd.blk,←h.p1];rfl
 ·rw[cell_of_row _ _ _ _ _ _ h.hnd.blk,←h.p2];rfl
 ·rw[cell_of_row _ _ _ _ _ _ h.hnd.blk,←h.p3];rfl
 ·rw[cell_of_row _ _ _ _ _ _ h.hnd.blk,←h.p0];rfl
end
theorem Ak{w:World}{base g cap n:Nat}{zs:List Int}(a:zs.length=n)(h:w.ownsRow base 5 1 (.slice (some ⟨g,0,none⟩) n cap) n (bZ zs)):(convert 22 9 (.slice (some ⟨g,0,none⟩) n cap)).run Tryz.prog w=.ok (.string (tI zs)) w:=by
 rw[run_convert_bytes_string w 22 9 5 _ _ _ Tryz.underlying22 Tryz.underlying5 Tryz.underlying9];refine run_bytesToString w ⟨g,0,none⟩ n cap zs ?_;have:=run_loadCells_list (P:=Tryz.prog) (w:=w) ⟨g,0,none⟩ (bZ zs) (fun b v c=>h.cells rfl b v c);rw[bX,a]at this;exact this
end
section
open Go.RowKit
structure We(base:Nat)(p:Nat→Value)(L:Nat→Nat)(hb:Nat)(n:Int)(vs:Nat→Value)(A:Nat→List eI)(kx fx gx:Nat)(M:bN)(D:eZ)(Q:Nat→Value)(st:aQ)(F:Fl)(w:World):Prop where
 hnd:jJ p L hb n vs A A w
 p0:p 0=.pointer (some ⟨kx,0,none⟩)
 p1:p 1=.pointer (some ⟨fx,0,none⟩)
 p2:p 2=.pointer (some ⟨D.kb,0,none⟩)
 p3:p 3=.pointer (some ⟨gx,0,none⟩)
 kn:Kn w kx M fx st F
 kl:∀b,mH kx M st b→28≤L b∧base≤b∧b≠gx∧¬sO D Q st b
 ro:Ro w D Q gx st F
 rl:∀b,sO D Q st b→28≤L b∧base≤b∧b≠fx
 fl:28≤L fx∧base≤fx
 gl:28≤L gx∧base≤gx
 fg:fx≠gx
 lb:∀b,b<base→28≤L b
 run:dY st
theorem mH.same{kx:Nat}{M:bN}{st st':aQ}{b:Nat}(m:st'.parts.length=st.parts.length)(a:st'.cf=st.cf)(d:eA st)(f:eA st')(h:mH kx M st' b):mH kx M st b:=by
 rcases h with h| h
 ·exact .inl h
 ·refine .inr ?_;rcases h with h| h| h| h| ⟨i,c,h⟩| ⟨g,j,h⟩| ⟨i,k,c,l,h⟩
  ·exact .inl h
  ·exact .inr (.inl h)
  ·exact .inr (.inr (.inl h))
  ·exact .inr (.inr (.inr (.inl h)))
  ·exact .inr (.inr (.inr (.inr (.inl ⟨i,by omega,h⟩))))
  ·exact .inr (.inr (.inr (.inr (.inr (.inl ⟨g,by rw[←a];exact j,h⟩)))))
  ·refine .inr (.inr (.inr (.inr (.inr (.inr ⟨i,k,by omega,?_,h⟩)))));rw[(d.part i (by omega)).2,←a,←(f.part i c).2];exact l
theorem Dm.blk{kx:Nat}{M:bN}{g:Nat}{st:aQ}{b:Nat}(h:Dm M g st b):mH kx M st b∨b=g:=by
 rcases h with h| h| ⟨i,a,h⟩| ⟨c,d,h⟩| h
 ·exact .inl (.inr (.inl h))
 ·exact .inl (.inr (.inr (.inl h)))
 ·refine .inl (.inr (.inr (.inr (.inr (.inr (.inl ⟨i,a,?_⟩))))));rcases h with h| h
  ·exact .inl h
  ·exact .inr (.inl h)
 ·exact .inl (.inr (.inr (.inr (.inr (.inr (.inr (.inl ⟨c,d,h⟩)))))))
 ·exact .inr h
theorem Kn.keep2{w w':World}{kx:Nat}{M:bN}{g:Nat}{st:aQ}{F:Fl}(h:Kn w kx M g st F)(a:∀b,mH kx M st b→w'.heap[b]?=w.heap[b]?)(c:w'.heap[g]?=w.heap[g]?):Kn w' kx M g st F:=
 ⟨(a _ (.inl rfl)).trans h.box,⟨h.mo.mach.keep2 (fun b hb=>a b (.inr hb)),h.mo.lay,h.mo.ok,h.mo.fl.keep c,h.mo.flok⟩⟩
theorem Kn.lt{w:World}{kx:Nat}{M:bN}{g:Nat}{st:aQ}{F:Fl}(h:Kn w kx M g st F)(b:Nat)(hb:mH kx M st b):b<w.heap.size:=h.kern.lt b hb
theorem Ro.keep2{w w':World}{D:eZ}{Q:Nat→Value}{g:Nat}{st:aQ}{F:Fl}(h:Ro w D Q g st F)(a:∀b,sO D Q st b→w'.heap[b]?=w.heap[b]?)(c:w'.heap[g]?=w.heap[g]?):Ro w' D Q g st F:=
 ⟨h.ref.keep2 a,h.lay,h.ok,h.fl.keep c,h.flok⟩
theorem sO.same{D:eZ}{Q Q':Nat→Value}{st st':aQ}{b B:Nat}(m:st'.parts.length=st.parts.length)(a:st'.cf=st.cf)(g:QG Q Q' B)(h:sO D Q' st' b):sO D Q st b∨B≤b:=by
 rcases h with h| h| ⟨i,c,h⟩| h| ⟨f,j,h⟩| h| ⟨i,c,h⟩| ⟨i,k,c,l,h⟩| h| h
 ·exact .inl (.inl h)
 ·exact .inl (.inr (.inl h))
 ·exact .inl (.inr (.inr (.inl ⟨i,by omega,h⟩)))
 ·exact .inl (.inr (.inr (.inr (.inl h))))
 ·rcases g f b h with d| d
  ·exact .inl (.inr (.inr (.inr (.inr (.inl ⟨f,by rw[←a];exact j,d⟩)))))
  ·exact .inr d
 ·exact .inl (.inr (.inr (.inr (.inr (.inr (.inl h))))))
 ·exact .inl (.inr (.inr (.inr (.inr (.inr (.inr (.inl ⟨i,by rw[←a];exact c,h⟩)))))))
 ·exact .inl (.inr (.inr (.inr (.inr (.inr (.inr (.inr (.inl ⟨i,k,by rw[←a];exact c,by rw[←a];exact l,h⟩))))))))
 ·exact .inl (.inr (.inr (.inr (.inr (.inr (.inr (.inr (.inr (.inl h)))))))))
 ·exact .inl (.inr (.inr (.inr (.inr (.inr (.inr (.inr (.inr (.inr h)))))))))
section
variable {base:Nat} {p:Nat→Value} {L L':Nat→Nat} {hb:Nat} {n n':Int} {vs vs':Nat→Value} {A A':Nat→List eI} {kx fx gx:Nat} {M:bN} {D:eZ} {Q Q':Nat→Value} {st st':aQ} {F F':Fl} {w w' w1 w2:World}
theorem We.cells(h:We base p L hb n vs A kx fx gx M D Q st F w):w.cell? ⟨hb,1,none⟩=some (.pointer (some ⟨fx,0,none⟩))∧w.cell? ⟨hb,2,none⟩=some (.pointer (some ⟨D.kb,0,none⟩))∧w.cell? ⟨hb,3,none⟩=some (.pointer (some ⟨gx,0,none⟩))∧w.cell? ⟨hb,0,none⟩=some (.pointer (some ⟨kx,0,none⟩)):=by
 refine⟨?_,?_,?_,?_⟩
 ·rw[cell_of_row _ _ _ _ _ _ h.hnd.blk,←h.p1];rfl
 ·rw[cell_of_row _ _ _ _ _ _ h.hnd.blk,←h.p2];rfl
 ·rw[cell_of_row _ _ _ _ _ _ h.hnd.blk,←h.p3];rfl
 ·rw[cell_of_row _ _ _ _ _ _ h.hnd.blk,←h.p0];rfl
theorem We.hbase(h:We base p L hb n vs A kx fx gx M D Q st F w):base≤hb:=by
 rcases Nat.lt_or_ge hb base with a| a
 ·have:=h.lb hb a;rw[h.hnd.lab]at this;omega
 ·exact a
theorem We.low(h:We base p L hb n vs A kx fx gx M D Q st F w)(b:Nat)(hb:L b≤27):base≤b:=by
 rcases Nat.lt_or_ge b base with a| a
 ·have:=h.lb b a;omega
 ·exact a
theorem We.next(h:We base p L hb n vs A kx fx gx M D Q st F w)(q:base≤w.heap.size)(m:jJ p L' hb n' vs' A' A' w')(o:∀k,k<w.heap.size→L' k=L k)(g:aH (fun k=>L k≤27) w w'):We base p L' hb n' vs' A' kx fx gx M D Q st F w'∧aH (fun b=>base≤b) w w':=by
 have d:∀b,b<w.heap.size→28≤L b→w'.heap[b]?=w.heap[b]?:=fun b f i=>g.block b f (by omega)
 have c:∀b,b<w.heap.size→28≤L b→28≤L' b:=fun b f i=>by rw[o b f];exact i
 have j:=h.kn.mo.fl.lt;have l:=h.ro.fl.lt;exact⟨⟨m,h.p0,h.p1,h.p2,h.p3,h.kn.keep2 (fun b a=>d b (h.kn.lt b a) (h.kl b a).1) (d fx j h.fl.1),fun b a=>⟨c b (h.kn.lt b a) (h.kl b a).1,(h.kl b a).2⟩,h.ro.keep2 (fun b a=>d b (h.ro.ref.lt b a) (h.rl b a).1) (d gx l h.gl.1),fun b a=>⟨c b (h.ro.ref.lt b a) (h.rl b a).1,(h.rl b a).2⟩,⟨c fx j h.fl.1,h.fl.2⟩,⟨c gx l h.gl.1,h.gl.2⟩,h.fg,fun b a=>c b (by omega) (h.lb b a),h.run⟩,g.mono (fun b a=>h.low b a)⟩
theorem We.below(h:We base p L hb n vs A kx fx gx M D Q st F w)(c:base≤w.heap.size)(a:Below w.heap.size w w'):We base p (fun k=>if k<w.heap.size then L k else 100) hb n vs A kx fx gx M D Q st F w'∧aH (fun b=>base≤b) w w':=
 h.next c (h.hnd.fresh a) (fun k d=>by simp[d]) (aH.ofBelow a)
theorem We.mid(h:We base p L hb n vs A kx fx gx M D Q st F w)(c:aH (Dm M fx st) w w1):Ro w1 D Q gx st F∧w1.heap[hb]?=w.heap[hb]?:=by
 have d:∀b,Dm M fx st b→mH kx M st b∨b=fx:=fun b hb=>Dm.blk hb
 refine⟨h.ro.keep2 (fun b f=>c.block b (h.ro.ref.lt b f) (fun e=>?_)) (c.block gx h.ro.fl.lt (fun e=>?_)),c.block hb (lt_of_block h.hnd.blk) (fun e=>?_)⟩
 ·rcases d b e with a| a
  ·exact(h.kl b a).2.2.2 f
  ·exact(h.rl b f).2.2 a
 ·rcases d gx e with a| a
  ·exact(h.kl gx a).2.2.1 rfl
  ·exact h.fg a.symm
 ·rcases d hb e with a| a
  ·have:=(h.kl hb a).1;rw[h.hnd.lab]at this;omega
  ·have:=h.fl.1;rw[←a,h.hnd.lab]at this;omega
theorem We.step(h:We base p L hb n vs A kx fx gx M D Q st F w)(I:base≤w.heap.size)(f:Kn w1 kx M fx st' F')(o:aH (Dm M fx st) w w1)(q:Ro w2 D Q' gx st' F')(l:aH (Rm D Q gx st) w1 w2)(y:QG Q Q' w1.heap.size)(r:st'.parts.length=st.parts.length)(s:st'.cf=st.cf)(z:dY st'):
 We base p (fun k=>if k<w.heap.size then L k else 100) hb n vs A kx fx gx M D Q' st' F' w2∧aH (fun b=>base≤b) w w2:=by
 have B:∀b,Dm M fx st b→mH kx M st b∨b=fx:=fun b hb=>Dm.blk hb
 have m:∀b,Rm D Q gx st b→sO D Q st b∨b=gx:=fun b hb=>Rm.blk hb
 have u:aH (fun b=>Dm M fx st b∨Rm D Q gx st b) w w2:=aH.trans (o.mono (fun b hb=>.inl hb)) l (fun b hb=>.inl (.inr hb));have v:∀b,(Dm M fx st b∨Rm D Q gx st b)→28≤L b∧base≤b:=fun b hb=>by
  rcases hb with a| a
  ·rcases B b a with d| rfl
   ·exact⟨(h.kl b d).1,(h.kl b d).2.1⟩
   ·exact h.fl
  ·rcases m b a with d| rfl
   ·exact⟨(h.rl b d).1,(h.rl b d).2.1⟩
   ·exact h.gl
 have J:=o.size;have j:∀b,mH kx M st' b→mH kx M st b:=fun b c=>mH.same r s h.ro.ok q.ok c
 have x:∀b,sO D Q' st' b→sO D Q st b∨w1.heap.size≤b:=fun b c=>sO.same r s y c
 have g:∀b,b<w.heap.size→(if b<w.heap.size then L b else 100)=L b:=fun b c=>by simp[c]
 have C:∀b,mH kx M st' b→w2.heap[b]?=w1.heap[b]?:=fun b c=>l.block b (f.lt b c) (fun e=>by
  rcases m b e with a| a
  ·exact(h.kl b (j b c)).2.2.2 a
  ·exact(h.kl b (j b c)).2.2.1 a)
 have E:w2.heap[fx]?=w1.heap[fx]?:=l.block fx f.mo.fl.lt (fun e=>by
  rcases m fx e with a| a
  ·exact(h.rl fx a).2.2 rfl
  ·exact h.fg a)
 refine⟨⟨(h.hnd.relabel (fun k f _=>g k f)).touch u (fun k f G=>by simp only[f,if_true];exact(v k G).1),h.p0,h.p1,h.p2,h.p3,f.keep2 C E,fun b c=>?_,q,fun b c=>?_,?_,?_,h.fg,fun b c=>?_,z⟩,u.mono (fun b hb=>(v b hb).2)⟩
 ·have a:=h.kl b (j b c);have d:=h.kn.lt b (j b c);refine⟨by rw[g b d];exact a.1,a.2.1,a.2.2.1,fun H=>?_⟩;rcases x b H with i| i
  ·exact a.2.2.2 i
  ·omega
 ·rcases x b c with i| i
  ·have a:=h.rl b i;have d:=h.ro.ref.lt b i;exact⟨by rw[g b d];exact a.1,a.2.1,a.2.2⟩
  ·refine⟨by rw[if_neg (by omega)];omega,by omega,fun e=>?_⟩;have:=h.kn.mo.fl.lt;omega
 ·exact⟨by rw[g fx h.kn.mo.fl.lt];exact h.fl.1,h.fl.2⟩
 ·exact⟨by rw[g gx h.ro.fl.lt];exact h.gl.1,h.gl.2⟩
 ·rw[g b (by omega)];exact h.lb b c
end
end
theorem Aw(c n:Int)(w:World)(q:-9223372036854775808≤c∧c≤9223372036854775807)(r:1≤n∧n≤1000):
 Calls Tryz.prog 66 #[.int .i64 c,.int .i64 n] w fun e w'=>∃k:Nat,(k:Int)<n∧e=.returned (.int .i64 k)∧w'=w:=by
 have i:¬n=0:=by omega
 by_cases f:c<0
 ·have l:decide (c<0)=true:=by simp[f]
  obtain⟨a,j⟩:∃a:Nat,-(c+1)=(a:Int):=⟨(-(c+1)).toNat,by omega⟩;have m:wrap64 (c+1)=c+1:=by unfold wrap64;omega
  have o:wrap64 (-(c+1))=a:=by rw[j];unfold wrap64;omega
  have g:(a:Int).tmod n=(a:Int) % n:=Int.tmod_eq_emod_of_nonneg (by omega);obtain⟨k,b⟩:∃k:Nat,(a:Int) % n=(k:Int):=⟨((a:Int) % n).toNat,by have:=Int.emod_nonneg (a:Int) i;omega⟩;have d:(k:Int)<n:=by rw[←b];exact Int.emod_lt_of_pos _ (by omega)
  have p:wrap64 (k:Int)=k:=by unfold wrap64;omega
  have s:IntKind.i64.wrap (c+1)=c+1:=by rw[uA];exact m
  have u:IntKind.i64.wrap (-(c+1))=a:=by rw[uA];exact o
  rw[b]at g;have h:=aI d;clear b d j f
  go_enter Tryz.func66,Tryz.ntmps66
  go_wp2
  go_ret
  exact⟨k,h.out,by simp,rfl⟩
 ·have l:decide (c<0)=false:=by simp;omega
  obtain⟨a,rfl⟩:∃a:Nat,c=(a:Int):=⟨c.toNat,by omega⟩;have g:(a:Int).tmod n=(a:Int) % n:=Int.tmod_eq_emod_of_nonneg (by omega);obtain⟨k,b⟩:∃k:Nat,(a:Int) % n=(k:Int):=⟨((a:Int) % n).toNat,by have:=Int.emod_nonneg (a:Int) i;omega⟩;have d:(k:Int)<n:=by rw[←b];exact Int.emod_lt_of_pos _ (by omega)
  have p:wrap64 (k:Int)=k:=by unfold wrap64;omega
  rw[b]at g;have h:=aI d;clear b d f
  go_enter Tryz.func66,Tryz.ntmps66
  go_wp2
  go_ret
  exact⟨k,h.out,by simp,rfl⟩
theorem On(base:Nat)(p:Nat→Value)(C:Nat→Nat)(i:Nat)(n:Int)(x:Nat→Value)(y:Nat→List eI)(kx f j:Nat)(g:bN)(d:eZ)(Q:Nat→Value)(st:aQ)(F:Fl)(k:Int)(w:World)
 (h:We base p C i n x y kx f j g d Q st F w) (O:base≤w.heap.size) (s:st.now+1000≤1000000000000):
 Calls Tryz.prog 65 #[.pointer (some ⟨i,0,none⟩),.int .i64 k] w fun e w'=>e=.returned (.bool true)∧∃L' m,We base p L' i n x y kx f j g d m (bW k (st,F)).2.1 (bW k (st,F)).2.2 w'∧aH (fun b=>base≤b) w w':=by
 have z:=h.cells.2.2.2;have c2:=h.cells.2.1;have a5:=aN z;have D:=aI (uE kx g f st F k w h.kn h.run s);have E:Hid (∀c,aH (Dm g f st) w c→Ro c d Q j st F∧c.heap[i]?=w.heap[i]?):=fun c A=>h.mid A
 have G:Hid (∀c,aH (Dm g f st) w c→Calls Tryz.prog 102 #[.pointer (some ⟨d.kb,0,none⟩),.int .i64 k] c fun e w'=>e=.returned (.tuple #[.int .i64 (bW k (st,F)).1.1,.int .i64 (bW k (st,F)).1.2])∧Jq d Q j st c (bW k (st,F)).2.1 (bW k (st,F)).2.2 w'):=fun c A=>Lm d Q j st F k c (h.mid A).1 h.run s
 have u:=nK k (st,F) ⟨h.run,h.ro.ok⟩ s;have P:Hid (∀c l m,Kn c kx g f (bW k (st,F)).2.1 (bW k (st,F)).2.2→aH (Dm g f st) w c→Ro l d m j (bW k (st,F)).2.1 (bW k (st,F)).2.2→aH (Rm d Q j st) c l→QG Q m c.heap.size→We base p (fun k=>if k<w.heap.size then C k else 100) i n x y kx f j g d m (bW k (st,F)).2.1 (bW k (st,F)).2.2 l∧aH (fun b=>base≤b) w l):=fun c l m R S T U V=>h.step O R S T U V u.len u.cf u.run.1
 clear h u s;generalize bW k (st,F)=r at *;obtain⟨⟨a,e⟩,v,a6⟩:=r;simp only at *
 go_enter Tryz.func65,Tryz.ntmps65
 go_wp2_with fail
 refine D.out.mono ?_;rintro a7 c ⟨rfl,H,o⟩;have W:c.cell? ⟨i,2,none⟩=some (.pointer (some ⟨d.kb,0,none⟩)):=(World.cell?_of_block (E.out c o).2).trans c2;have X:c.cell? ⟨i,0,none⟩=some (.pointer (some ⟨kx,0,none⟩)):=(World.cell?_of_block (E.out c o).2).trans z;have I:=aI (G.out c o);have Y:=aI H;have Z:=aI o;clear H o z c2 D G;go_wp2_with fail
 refine I.out.mono ?_;rintro a8 l ⟨rfl,J,B,L,M⟩;have q:=P.out c l J Y.out Z.out B L M;have a9:=q.1.cells.2.1;have b0:=q.1.cells.2.2.2;have a0:=B.ref.kAt 8;simp only[cE,List.getElem?_toArray,List.getElem?_cons_succ,List.getElem?_cons_zero]at a0;have a1:=aI (Qu kx g f v l q.1.kn.kern);have N:=aI q;have b1:(a == a)=true:=by simp
 have b2:(e == e)=true:=by simp
 have b3:(v.now == v.now)=true:=by simp
 have a2:=aI qY;clear q B L M X W I;generalize v.now=nw at *;go_wp2_with fail
 refine a1.out.mono ?_;rintro b4 b5 ⟨rfl,a3⟩;obtain rfl:=a3.symm;go_wp2_with fail
 refine(a2.out _ _).mono ?_;rintro b6 b7 ⟨rfl,a4⟩;obtain rfl:=a4.symm;go_wp2
 go_ret
 exact⟨by simp,_,J,N.out.1,N.out.2⟩
end Go.Proofs.YtnjlbgolnbdkaaaGreat
