/- All, with short names -/
import Derived.Test.YtnjlbgolnbdkaaaGreatP25
import Derived.Test.YtnjlbgolnbdkaaaGreatP38
import Derived.Test.YtnjlbgolnbdkaaaGreatP33
import Derived.Test.YtnjlbgolnbdkaaaGreatP02
import Derived.Test.YtnjlbgolnbdkaaaGreatP23
set_option maxRecDepth 100000
set_option maxHeartbeats 16000000
namespace Go.Proofs.YtnjlbgolnbdkaaaGreat
open Go Go.RowKit
section
open Go.RowKit
def kD:Value→Nat
 | .slice (some a) _ _=>a.block
 | _=>0
def nP:Value→Nat
 | .slice _ _ c=>c
 | _=>0
theorem gS{w:World}{base:Nat}{e:TypeId}{s:Nat}{v:Value}{n:Nat}{a:List Value}(h:w.ownsRow base e s v n a)(d:0<n):v=sl (kD v) n (nP v)∧base≤kD v:=by
 rcases h.2 with⟨_,f⟩| ⟨g,cap,cur,b,c,_⟩
 ·omega
 ·rw[b];exact⟨rfl,c⟩
theorem tY{w:World}{base:Nat}{e:TypeId}{s:Nat}{v:Value}{n:Nat}{a:List Value}(h:w.ownsRow base e s v n a)(b:0<n):w.ownsRow 0 e s (sl (kD v) n (nP v)) n a:=by
 rw[←(gS h b).1];exact bI h (Nat.zero_le _)
theorem Mc{α:Type}[Inhabited α]{n:Nat}{P:Nat→α→Prop}(h:∀i,i<n→∃x,P i x):∃f:Nat→α,∀i,i<n→P i (f i):=by
 refine⟨fun i=>if a:i<n then Classical.choose (h i a)else default,fun i a=>?_⟩;simp only[a,dite_true];exact Classical.choose_spec (h i a)
theorem yV{α β:Type}[Inhabited α][Inhabited β](f:α→β)(l:List α)(i:Nat)(a:i<l.length):(l.map f).getD i default=f (l.getD i default):=by
 simp[List.getD_eq_getElem?_getD,a]
def sO(D:eZ)(Q:Nat→Value)(st:aQ)(b:Nat):Prop:=b=D.kb∨b=D.rp∨(∃i,i<st.parts.length∧(b=D.wd i∨b=D.pr i))∨b=D.qb∨(∃a,a<st.cf.chans.length∧(Q a).ownBlock=some b)∨b=D.cp∨(∃i,i<st.cf.parts.length∧b=D.pp i)∨(∃i k,i<st.cf.parts.length∧k<(st.cf.parts.getD i default).procs.length∧b=D.kk i k)∨D.vW.ownBlock=some b∨D.vC.ownBlock=some b
section
variable {w w':World} {D:eZ} {Q:Nat→Value} {g:Nat} {st:aQ} {F:Fl}
theorem eD.keep2(h:eD w D Q g st)(f:∀b,sO D Q st b→w'.heap[b]?=w.heap[b]?):eD w' D Q g st:=by
 have d:∀ {e:TypeId} {s b n c:Nat} {j:List Value},w.ownsRow 0 e s (sl b n c) n j→sO D Q st b→w'.ownsRow 0 e s (sl b n c) n j:=fun p q=>aO p (fun x e=>by
  simp[Value.ownBlock]at e;subst e;exact f _ q)
 refine⟨(f _ (.inl rfl)).trans h.kern,⟨d h.conf.parts (.inr (.inr (.inr (.inr (.inr (.inl rfl)))))),fun i a=>d (h.conf.procs i a) (.inr (.inr (.inr (.inr (.inr (.inr (.inl ⟨i,a,rfl⟩))))))),fun i k a l=>d (h.conf.code i k a l) (.inr (.inr (.inr (.inr (.inr (.inr (.inr (.inl ⟨i,k,a,l,rfl⟩)))))))),aO h.conf.wins (fun b e=>f b (.inr (.inr (.inr (.inr (.inr (.inr (.inr (.inr (.inl e)))))))))),aO h.conf.chans (fun b e=>f b (.inr (.inr (.inr (.inr (.inr (.inr (.inr (.inr (.inr e))))))))))⟩,d h.parts (.inr (.inl rfl)),fun i a=>d (h.words i a) (.inr (.inr (.inl ⟨i,a,.inl rfl⟩))),fun i a=>d (h.procs i a) (.inr (.inr (.inl ⟨i,a,.inr rfl⟩))),d h.qs (.inr (.inr (.inr (.inl rfl)))),fun m o=>uH (h.queue m o) (fun x e _=>f x (.inr (.inr (.inr (.inr (.inl ⟨m,o,e⟩))))))⟩
theorem eD.lt(h:eD w D Q g st)(b:Nat)(d:sO D Q st b):b<w.heap.size:=by
 rcases d with rfl| rfl| ⟨i,a,rfl| rfl⟩| rfl| ⟨f,j,e⟩| rfl| ⟨i,a,rfl⟩| ⟨i,k,a,l,rfl⟩| e| e
 ·exact lt_of_block h.kern
 ·exact fV h.parts
 ·exact fV (h.words i a)
 ·exact fV (h.procs i a)
 ·exact fV h.qs
 ·obtain⟨c,m⟩:=qA (h.queue f j) e;exact lt_of_block m
 ·exact fV h.conf.parts
 ·exact fV (h.conf.procs i a)
 ·exact fV (h.conf.code i k a l)
 ·exact(World.ownsRow.lt h.conf.wins b e).2
 ·exact(World.ownsRow.lt h.conf.chans b e).2
theorem Rm.blk{b:Nat}(h:Rm D Q g st b):sO D Q st b∨b=g:=by
 rcases h with h| h| h| h| h| h
 ·exact .inl (.inl h)
 ·exact .inl (.inr (.inl h))
 ·exact .inl (.inr (.inr (.inl h)))
 ·exact .inl (.inr (.inr (.inr (.inl h))))
 ·exact .inl (.inr (.inr (.inr (.inr (.inl h)))))
 ·exact .inr h
end
theorem lZ.lay{base kb g:Nat}{st:aQ}{w:World}(h:lZ base kb g st w)(o:eA st)(a1:∀d,d<st.queues.length→st.queues.getD d []=[]):∃D Q,D.kb=kb∧eD w D Q g st∧ROk D Q st.parts.length st.cf.chans.length∧∀b,sO D Q st b→base≤b:=by
 obtain⟨a2,U,vW,vC,V,b0,a3,z,a4,E⟩:=h;obtain⟨l,W,A,X,G⟩:=a4;obtain⟨m,Y,B,a5⟩:=z.parts;obtain⟨qb,rfl,a6,E⟩:=E;have Z:l.length=st.parts.length:=by rw[←W,List.length_map]
 have a0:m.length=st.cf.parts.length:=by rw[←Y,List.length_map]
 have a7:∀i,i<m.length→∃f:List (Pr×Value),f.map Prod.fst=(m.getD i default).1.procs∧w.ownsRow base 190 2 (m.getD i default).2 f.length (eV f)∧∀p∈f,iV base p.2 p.1.code w:=fun i c=>a5 _ (dB c)
 obtain⟨f,H⟩:=Mc a7;have M:∀i,i<st.parts.length→(l.getD i default).1=st.parts.getD i default:=fun i c=>by
  rw[←W];exact(yV Prod.fst l i (by omega)).symm
 have N:∀i,i<st.cf.parts.length→(m.getD i default).1=st.cf.parts.getD i default:=fun i c=>by
  rw[←Y];exact(yV Prod.fst m i (by omega)).symm
 have O:∀i k,i<st.cf.parts.length→k<(st.cf.parts.getD i default).procs.length→((f i).getD k default).1=(st.cf.parts.getD i default).procs.getD k default∧(f i).length=(st.cf.parts.getD i default).procs.length:=fun i k c j=>by
  have e:=(H i (by omega)).1;rw[N i c]at e;have C:(f i).length=(st.cf.parts.getD i default).procs.length:=by rw[←e,List.length_map]
  exact⟨by rw[←e];exact(yV Prod.fst (f i) k (by omega)).symm,C⟩
 have I:∀i,i<st.cf.parts.length→sE (st.cf.parts.getD i default):=fun i c=>o.good.parts _ (dB c)
 have r:∀i,i<st.parts.length→0<(st.parts.getD i default).words.length:=fun i c=>by
  have a:=(o.part i c).1;have b:=(I i (by rw[←o.len];exact c)).words;omega
 have s:∀i,i<st.parts.length→0<(st.parts.getD i default).procs.length:=fun i c=>by
  have a:=(o.part i c).2;have b:=(I i (by rw[←o.len];exact c)).few;omega
 have P:∀i k,i<st.cf.parts.length→k<(st.cf.parts.getD i default).procs.length→0<((st.cf.parts.getD i default).procs.getD k default).code.length:=fun i k c j=>((I i c).procs _ (dB j)).len.1
 have J:0<st.cf.parts.length:=o.good.few.1;have R:0<st.parts.length:=by rw[o.len];exact J
 have u:∀i,i<st.parts.length→w.ownsRow base 3 1 (l.getD i default).2.1 (st.parts.getD i default).words.length ((st.parts.getD i default).words.map (Value.int .i64)):=fun i c=>by
  have:=(X _ (dB (show i<l.length by omega))).1;rw[M i c]at this;exact this
 have v:∀i,i<st.parts.length→w.ownsRow base 200 5 (l.getD i default).2.2 (st.parts.getD i default).procs.length ((st.parts.getD i default).procs.flatMap bM):=fun i c=>by
  have:=(X _ (dB (show i<l.length by omega))).2;rw[M i c]at this;exact this
 have S:∀i k,i<st.cf.parts.length→k<(st.cf.parts.getD i default).procs.length→w.ownsRow base 210 2 ((f i).getD k default).2 ((st.cf.parts.getD i default).procs.getD k default).code.length (iJ ((st.cf.parts.getD i default).procs.getD k default).code):=fun i k c j=>by
  have a8:=O i k c j;have:=(H i (by omega)).2.2 _ (dB (show k<(f i).length by omega));rw[a8.1]at this;exact this
 have T:∀i,i<st.cf.parts.length→w.ownsRow base 190 2 (m.getD i default).2 (st.cf.parts.getD i default).procs.length (eV (f i)):=fun i c=>by
  have e:=(H i (by omega)).1;rw[N i c]at e;have C:(f i).length=(st.cf.parts.getD i default).procs.length:=by rw[←e,List.length_map]
  rw[←C];exact(H i (by omega)).2.1
 have L:∀i,i<st.cf.parts.length→0<(st.cf.parts.getD i default).procs.length:=fun i c=>(I i c).few.1
 rw[Z]at A;rw[a0]at B;refine⟨⟨kb,kD V,nP V,qb,st.queues.length,fun i=>kD (l.getD i default).2.1,fun i=>nP (l.getD i default).2.1,fun i=>kD (l.getD i default).2.2,fun i=>nP (l.getD i default).2.2,kD U,nP U,fun i=>kD (m.getD i default).2,fun i=>nP (m.getD i default).2,fun i k=>kD ((f i).getD k default).2,fun i k=>nP ((f i).getD k default).2,vW,vC⟩,fun _=>.slice none 0 0,rfl,⟨?_,⟨?_,fun i c=>?_,fun i k c j=>tY (S i k c j) (P i k c j),bI z.wins (Nat.zero_le _),bI z.chans (Nat.zero_le _)⟩,?_,fun i c=>tY (u i c) (r i c),fun i c=>?_,?_,fun d n=>.inl ⟨rfl,a1 d (by rw[o.qlen];exact n)⟩⟩,⟨fun i d c n e=>?_,fun i d c n e=>?_,fun d i _ _=>by simp[Value.ownBlock],fun d k b _ _ e=>by cases e⟩,fun b a9=>?_⟩
 ·simp only;rw[←(gS B J).1,←(gS A R).1,a3,o.qlen]
 ·have e:gO m=eH st.cf.parts.length fun i=>vD (kD (m.getD i default).2) (nP (m.getD i default).2) (st.cf.parts.getD i default):=by
   unfold gO;rw[oH,a0];refine dV _ _ _ (fun i c=>?_);rw[N i c,show(m.getD i default).2=sl (kD (m.getD i default).2) (st.cf.parts.getD i default).procs.length (nP (m.getD i default).2)from(gS (T i c) (L i c)).1];rfl
  rw[e]at B;exact tY B J
 ·have e:eV (f i)=eH (st.cf.parts.getD i default).procs.length fun k=>Ah (kD ((f i).getD k default).2) (nP ((f i).getD k default).2) ((st.cf.parts.getD i default).procs.getD k default):=by
   unfold eV;have C:(f i).length=(st.cf.parts.getD i default).procs.length:=(O i 0 c (L i c)).2;rw[oH,C];refine dV _ _ _ (fun k j=>?_);rw[(O i k c j).1,show((f i).getD k default).2=sl (kD ((f i).getD k default).2) ((st.cf.parts.getD i default).procs.getD k default).code.length (nP ((f i).getD k default).2)from(gS (S i k c j) (P i k c j)).1];rfl
  have:=T i c;rw[e]at this;exact tY this (L i c)
 ·have e:l.flatMap iH=eH st.parts.length fun i=>[.int .i64 (st.parts.getD i default).mode,sl (kD (l.getD i default).2.1) (st.parts.getD i default).words.length (nP (l.getD i default).2.1),sl (kD (l.getD i default).2.2) (st.parts.getD i default).procs.length (nP (l.getD i default).2.2),.int .i64 (st.parts.getD i default).watch]:=by
   rw[oH,Z];refine dV _ _ _ (fun i c=>?_);unfold iH;rw[M i c,←(gS (u i c) (r i c)).1,←(gS (v i c) (s i c)).1]
  rw[e]at A;exact tY A R
 ·have:=v i c;rw[oH]at this;exact tY this (s i c)
 ·rw[o.qlen]at E;have e:(List.range st.cf.chans.length).map (fun _:Nat=>Value.slice none 0 0)=List.replicate st.cf.chans.length (Value.slice none 0 0):=by
   apply List.ext_getElem?
   intro k
   by_cases j:k<st.cf.chans.length
   ·simp[j]
   ·simp[j]
  simp only;rw[e,o.qlen];exact bI E (Nat.zero_le _)
 ·rcases Nat.lt_trichotomy i d with q| q| q
  ·exfalso;have:=(List.pairwise_iff_getElem.1 G i d (by omega) (by omega) q).1 (kD (l.getD i default).2.1);have x:l[i]'(by omega)=l.getD i default:=by simp[List.getD_eq_getElem?_getD,show i<l.length by omega]
   have y:l[d]'(by omega)=l.getD d default:=by simp[List.getD_eq_getElem?_getD,show d<l.length by omega]
   rw[x,y]at this;exact this (by rw[(gS (u i c) (r i c)).1];rfl) (by rw[(gS (u d n) (r d n)).1];exact congrArg some e.symm)
  ·exact q
  ·exfalso;have:=(List.pairwise_iff_getElem.1 G d i (by omega) (by omega) q).1 (kD (l.getD d default).2.1);have x:l[i]'(by omega)=l.getD i default:=by simp[List.getD_eq_getElem?_getD,show i<l.length by omega]
   have y:l[d]'(by omega)=l.getD d default:=by simp[List.getD_eq_getElem?_getD,show d<l.length by omega]
   rw[x,y]at this;exact this (by rw[(gS (u d n) (r d n)).1];rfl) (by rw[(gS (u i c) (r i c)).1];exact congrArg some e)
 ·rcases Nat.lt_trichotomy i d with q| q| q
  ·exfalso;have:=(List.pairwise_iff_getElem.1 G i d (by omega) (by omega) q).2 (kD (l.getD i default).2.2);have x:l[i]'(by omega)=l.getD i default:=by simp[List.getD_eq_getElem?_getD,show i<l.length by omega]
   have y:l[d]'(by omega)=l.getD d default:=by simp[List.getD_eq_getElem?_getD,show d<l.length by omega]
   rw[x,y]at this;exact this (by rw[(gS (v i c) (s i c)).1];rfl) (by rw[(gS (v d n) (s d n)).1];exact congrArg some e.symm)
  ·exact q
  ·exfalso;have:=(List.pairwise_iff_getElem.1 G d i (by omega) (by omega) q).2 (kD (l.getD d default).2.2);have x:l[i]'(by omega)=l.getD i default:=by simp[List.getD_eq_getElem?_getD,show i<l.length by omega]
   have y:l[d]'(by omega)=l.getD d default:=by simp[List.getD_eq_getElem?_getD,show d<l.length by omega]
   rw[x,y]at this;exact this (by rw[(gS (v d n) (s d n)).1];rfl) (by rw[(gS (v i c) (s i c)).1];exact congrArg some e)
 ·rcases a9 with rfl| rfl| ⟨i,c,rfl| rfl⟩| rfl| ⟨d,n,e⟩| rfl| ⟨i,c,rfl⟩| ⟨i,k,c,j,rfl⟩| e| e
  ·exact a2
  ·exact(gS A R).2
  ·exact(gS (u i c) (r i c)).2
  ·exact(gS (v i c) (s i c)).2
  ·exact a6
  ·simp[Value.ownBlock]at e
  ·exact(gS B J).2
  ·exact(gS (T i c) (L i c)).2
  ·exact(gS (S i k c j) (P i k c j)).2
  ·exact(World.ownsRow.lt z.wins b e).1
  ·exact(World.ownsRow.lt z.chans b e).1
end
section
open Go.RowKit
section
variable {w w':World} {L:bN} {g kb:Nat} {st:aQ}
theorem aU.keep2(h:aU w L g st)(c:∀b,Oh L st b→w'.heap[b]?=w.heap[b]?):aU w' L g st:=by
 refine⟨(c _ (.inl rfl)).trans h.mach,(c _ (.inr (.inl rfl))).trans h.parts,fun i a=>(c _ (.inr (.inr (.inr (.inr (.inl ⟨i,a,.inl rfl⟩)))))).trans (h.words i a),fun i a=>(c _ (.inr (.inr (.inr (.inr (.inl ⟨i,a,.inr (.inl rfl)⟩)))))).trans (h.procs i a),fun i a=>(c _ (.inr (.inr (.inr (.inr (.inl ⟨i,a,.inr (.inr rfl)⟩)))))).trans (h.turns i a),(c _ (.inr (.inr (.inl rfl)))).trans h.wins,(c _ (.inr (.inr (.inr (.inl rfl))))).trans h.chans,fun f d=>?_,fun i k a d=>?_⟩
 ·obtain⟨s,r,j⟩:=h.queue f d;exact⟨s,r,(c _ (.inr (.inr (.inr (.inr (.inr (.inl ⟨f,d,rfl⟩))))))).trans j⟩
 ·exact aO (h.code i k a d) (fun b e=>c b (.inr (.inr (.inr (.inr (.inr (.inr ⟨i,k,a,d,e⟩)))))))
theorem eP.keep2(h:eP w kb L g st)(a:∀b,mH kb L st b→w'.heap[b]?=w.heap[b]?):eP w' kb L g st:=
 ⟨(a _ (.inl rfl)).trans h.box,h.mach.keep2 (fun b c=>a b (.inr c)),h.lay,h.ok⟩
theorem aU.lt(h:aU w L g st)(b:Nat)(c:Oh L st b):b<w.heap.size:=by
 rcases c with rfl| rfl| rfl| rfl| ⟨i,a,rfl| rfl| rfl⟩| ⟨d,f,rfl⟩| ⟨i,k,a,j,e⟩
 ·exact aR h.mach
 ·exact aR h.parts
 ·exact aR h.wins
 ·exact aR h.chans
 ·exact aR (h.words i a)
 ·exact aR (h.procs i a)
 ·exact aR (h.turns i a)
 ·obtain⟨s,r,l⟩:=h.queue d f;exact aR l
 ·exact(World.ownsRow.lt (h.code i k a j) b e).2
theorem eP.lt(h:eP w kb L g st)(b:Nat)(a:mH kb L st b):b<w.heap.size:=by
 rcases a with rfl| a
 ·exact aR h.box
 ·exact h.mach.lt b a
end
def pset(p:Nat→Value)(kx a:Nat):Nat→Value:=fun| 0=>.pointer (some ⟨kx,0,none⟩)| 2=>.pointer (some ⟨a,0,none⟩)| k=>p k
end
end Go.Proofs.YtnjlbgolnbdkaaaGreat
