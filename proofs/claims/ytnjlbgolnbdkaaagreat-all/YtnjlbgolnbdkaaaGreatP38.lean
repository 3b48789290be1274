/- All, with short names -/
import Derived.Test.YtnjlbgolnbdkaaaGreatP23
set_option maxRecDepth 100000
set_option maxHeartbeats 16000000
namespace Go.Proofs.YtnjlbgolnbdkaaaGreat
open Go Go.RowKit
def mL(base:Nat)(v:Value)(c:List fF)(w:World):Prop:=∃l:List (fF×Value×Value),l.map Prod.fst=c∧w.ownsRow base 198 4 v l.length (l.flatMap iH)∧(∀q∈l,Fp base q.2.1 q.1.words w∧pM base q.2.2 q.1.procs w)∧l.Pairwise fun a b=>(∀x,a.2.1.ownBlock=some x→b.2.1.ownBlock≠some x)∧∀x,a.2.2.ownBlock=some x→b.2.2.ownBlock≠some x
def Th(base:Nat)(v:Value)(n:Nat)(w:World):Prop:=∃b,v=.slice (some ⟨b,0,none⟩) n n∧base≤b∧w.ownsRow base 40 1 v n (List.replicate n (Value.slice none 0 0))
structure lZ(base kb g:Nat)(st:aQ)(w:World):Prop where
 lo:base≤kb
 ex:∃vP vW vC vR vQ,w.heap[kb]?=some (.cells (cE st.cf.frame st.cf.watch vP vW vC g vR vQ st.now st.dead) 151 (0,0))∧kA base vP vW vC st.cf w∧mL base vR st.parts w∧Th base vQ st.queues.length w
theorem mL.keep{base:Nat}{v:Value}{g:List fF}{w w':World}(h:mL base v g w)(d:∀b,base≤b→b<w.heap.size→w'.heap[b]?=w.heap[b]?):mL base v g w':=by
 obtain⟨l,i,f,a,j⟩:=h;exact⟨l,i,aO f (fun b e=>d b (World.ownsRow.lt f b e).1 (World.ownsRow.lt f b e).2),fun q c=>⟨aO (a q c).1 (fun b e=>d b (World.ownsRow.lt (a q c).1 b e).1 (World.ownsRow.lt (a q c).1 b e).2),aO (a q c).2 (fun b e=>d b (World.ownsRow.lt (a q c).2 b e).1 (World.ownsRow.lt (a q c).2 b e).2)⟩,j⟩
theorem mL.low{base base':Nat}{v:Value}{b:List fF}{w:World}(h:mL base v b w)(a:base'≤base):mL base' v b w:=by
 obtain⟨l,f,g,c,i⟩:=h;exact⟨l,f,bI g a,fun q d=>⟨bI (c q d).1 a,bI (c q d).2 a⟩,i⟩
theorem Iz(e6:Option Addr)(n cap:Nat)(zs:List Int)(g:Nat)(bs:List Int)(left res:Int)(dead:Bool)(done:Int)(w:World)(i9:gV w e6 n cap zs)(m6:n≤140737488351232)(hF:aS w g bs left res dead done):
 Calls Tryz.prog 60 #[.slice e6 n cap,.pointer (some ⟨g,0,none⟩)] w fun e w'=>(((bQ zs).2.2≠0∧e=.returned (.tuple #[.pointer none,.int .i64 (bQ zs).2.2]))∨((bQ zs).2.2=0∧∃kb,e=.returned (.tuple #[.pointer (some ⟨kb,0,none⟩),.int .i64 0])∧lZ w.heap.size kb g (cJ (bQ zs).1 bs) w'))∧Below w.heap.size w w':=by
 obtain⟨m7,A,m8,m9,n0⟩:=info_parts Tryz.info40;obtain⟨n1,n2,n3,n4,n5⟩:=info_parts Tryz.info3;obtain⟨k0,g4,n6,n7,n8⟩:=info_parts Tryz.info198;obtain⟨n9,o0,o1,o2,o3⟩:=info_parts Tryz.info200;have e7:=aI (Hk e6 n cap zs w i9 m6);have o4:=aI hF;have d3:=Fh zs;clear i9 hF;generalize bQ zs=P at e7 d3 ⊢;obtain⟨cf,pl,e8⟩:=P;have j0:=aI d3;have u5:=d3.chans;have u6:=d3.parts;clear d3;simp only[bJ]at e7;show Calls Tryz.prog 60 #[.slice e6 n cap,.pointer (some ⟨g,0,none⟩)] w fun e w'=>((e8≠0∧e=.returned (.tuple #[.pointer none,.int .i64 e8]))∨(e8=0∧∃kb,e=.returned (.tuple #[.pointer (some ⟨kb,0,none⟩),.int .i64 0])∧lZ w.heap.size kb g (cJ cf bs) w'))∧Below w.heap.size w w'
 go_enter Tryz.func60,Tryz.ntmps60
 go_wp2_with fail
 refine e7.out.mono ?_;rintro e y ⟨o5,vW,vC,rfl,a5,g5⟩;obtain⟨H,V,D,rfl⟩:∃a z c,o5=.slice a z c:=by obtain⟨l,_,E,_⟩:=a5.parts;obtain⟨a,c,h⟩:=bL E;exact⟨a,_,c,h⟩
 obtain⟨I,J,rfl⟩:=bL a5.wins;obtain⟨L,M,rfl⟩:=bL a5.chans;have o6:=g5.size;have o7:=aI g5;have o8:=aI a5;clear g5 a5 e7;have e9:Hid (Below w.heap.size w (y.alloc (wR cf.frame cf.watch (.slice H V D) (.slice I cf.wins.length J) (.slice L cf.chans.length M)))):=o7.out.alloc o6 _
 by_cases j1:e8=0
 ·subst j1;have j2:∀W:World,(Instr.makeSlice 83 (.int .i64 (cf.chans.length:Int)) (.int .i64 (cf.chans.length:Int))).run Tryz.prog W=.ok (.slice (some ⟨W.heap.size,0,none⟩) cf.chans.length cf.chans.length) (W.alloc (.cells (madeCells #[Value.slice none 0 0] (cf.chans.length*1)) 40)):=by
   intro W;have:=run_make (P:=Tryz.prog) (w:=W) 83 40 m7 _ Tryz.underlying83 A m8 .i64 .i64 (cf.chans.length:Int) (cf.chans.length:Int) (by omega) (by omega) (by rw[n0];omega) (by omega)
   simpa[m9,Value.cells]using this
  generalize j3:madeCells #[Value.slice none 0 0] (cf.chans.length*1)=O at j2;have j4:=aI j3;clear j3;obtain⟨d,b7⟩:∃d,d=y.alloc (wR cf.frame cf.watch (.slice H V D) (.slice I cf.wins.length J) (.slice L cf.chans.length M)):=⟨_,rfl⟩;have g6:d.heap.size=y.heap.size+1:=by rw[b7];simp
  have b1:d.heap[y.heap.size]?=some (wR cf.frame cf.watch (.slice H V D) (.slice I cf.wins.length J) (.slice L cf.chans.length M)):=aF b7;have g7:Hid (kA w.heap.size (.slice H V D) (.slice I cf.wins.length J) (.slice L cf.chans.length M) cf d):=by show kA _ _ _ _ _ _;rw[b7];exact o8.out.keep (fun b _ E=>Below.heap_alloc y _ b E)
  rw[←b7]at e9;have o9:=aI b1;have p2:=aI b7;have j5:d.cell? ⟨y.heap.size,0,none⟩=some (.int .i64 cf.frame):=aD b1;have j6:d.cell? ⟨y.heap.size,1,none⟩=some (.int .i64 cf.watch):=aD b1;have j7:d.cell? ⟨y.heap.size,2,none⟩=some (.slice H V D):=aD b1;have j8:d.cell? ⟨y.heap.size,3,none⟩=some (.slice I cf.wins.length J):=aD b1;have j9:d.cell? ⟨y.heap.size,4,none⟩=some (.slice L cf.chans.length M):=aD b1;have p3:(d.alloc (.cells O 40)).cell? ⟨y.heap.size,0,none⟩=some (.int .i64 cf.frame):=by rw[World.cell?_of_block (w:=d) (Below.heap_alloc d _ y.heap.size (by omega))];exact j5
  have g8:(d.alloc (.cells O 40)).cell? ⟨y.heap.size,1,none⟩=some (.int .i64 cf.watch):=by rw[World.cell?_of_block (w:=d) (Below.heap_alloc d _ y.heap.size (by omega))];exact j6
  have p4:(d.alloc (.cells O 40)).cell? ⟨y.heap.size,2,none⟩=some (.slice H V D):=by rw[World.cell?_of_block (w:=d) (Below.heap_alloc d _ y.heap.size (by omega))];exact j7
  have p5:(d.alloc (.cells O 40)).cell? ⟨y.heap.size,3,none⟩=some (.slice I cf.wins.length J):=by rw[World.cell?_of_block (w:=d) (Below.heap_alloc d _ y.heap.size (by omega))];exact j8
  have g9:(d.alloc (.cells O 40)).cell? ⟨y.heap.size,4,none⟩=some (.slice L cf.chans.length M):=by rw[World.cell?_of_block (w:=d) (Below.heap_alloc d _ y.heap.size (by omega))];exact j9
  have k1:Hid (∀X:World,X.heap=((d.alloc (.cells O 40)).alloc (.cells (cE cf.frame cf.watch (.slice H V D) (.slice I cf.wins.length J) (.slice L cf.chans.length M) g (.slice none 0 0) (.slice (some ⟨d.heap.size,0,none⟩) cf.chans.length cf.chans.length) 0 false) 151)).heap→X.os=d.os→X.tape=d.tape→X.output=d.output→aH (fun _=>False) d X∧X.heap[d.heap.size+1]?=some (.cells (cE cf.frame cf.watch (.slice H V D) (.slice I cf.wins.length J) (.slice L cf.chans.length M) g (.slice none 0 0) (.slice (some ⟨d.heap.size,0,none⟩) cf.chans.length cf.chans.length) 0 false) 151 (0,0))∧X.heap[d.heap.size]?=some (.cells O 40 (0,0))):=by
   intro X s E a6 a8;have t:aH (fun _=>False) d ((d.alloc (.cells O 40)).alloc (.cells (cE cf.frame cf.watch (.slice H V D) (.slice I cf.wins.length J) (.slice L cf.chans.length M) g (.slice none 0 0) (.slice (some ⟨d.heap.size,0,none⟩) cf.chans.length cf.chans.length) 0 false) 151)):=aH.trans (aH.alloc _ _) (aH.alloc _ _) (fun _ h=>.inl h);refine⟨⟨E,a6,a8,by rw[s];exact t.size,fun k g4 p6=>by rw[s];exact t.block k g4 p6⟩,?_,?_⟩
   ·rw[s];have:=heap_alloc_new (d.alloc (.cells O 40)) (.cells (cE cf.frame cf.watch (.slice H V D) (.slice I cf.wins.length J) (.slice L cf.chans.length M) g (.slice none 0 0) (.slice (some ⟨d.heap.size,0,none⟩) cf.chans.length cf.chans.length) 0 false) 151)
    rwa [show(d.alloc (.cells O 40)).heap.size=d.heap.size+1 from by simp]at this
   ·rw[s,Below.heap_alloc _ _ _ (by simp)];exact heap_alloc_new d _
  have p7:=aI g6;clear b1 b7 g6;go_wp2_with fail
  rw[←p2.out]
  go_cut [9]from 24 to 31 (fun p8 X=>p8=.pointer (some ⟨d.heap.size+1,0,none⟩)∧aH (fun _=>False) d X∧X.heap[d.heap.size+1]?=some (.cells (cE cf.frame cf.watch (.slice H V D) (.slice I cf.wins.length J) (.slice L cf.chans.length M) g (.slice none 0 0) (.slice (some ⟨d.heap.size,0,none⟩) cf.chans.length cf.chans.length) 0 false) 151 (0,0))∧X.heap[d.heap.size]?=some (.cells O 40 (0,0)))
  case first=>
   go_region
   all_goals (go_wp2_with fail;go_meet;exact⟨by simp,k1.out _ rfl rfl rfl rfl⟩)
  case rest=>
  obtain⟨rfl,Q,a9,k2⟩:=hcut;have g6:=p7.out;have u7:=Q.size;have p9:=lt_of_block a9;have h0:Below w.heap.size w wc:=e9.out.trans (Q.below (by omega) (fun _ h=>h.elim));have h1:=aI (tL g bs left res dead done wc (o4.out.below h0));have u8:=aI h0;have f0:=aI a9;have k3:=aI k2;have b8:=aI Q;clear Q a9 k2 h0 j5 j6 j7 j8 j9 p3 g8 p4 p5 g9 j2 k1;obtain⟨o,h2⟩:∃o,o=bT bs:=⟨_,rfl⟩;rw[←h2]at h1;have q0:=aI h2;clear h2;go_wp2_with fail
  refine h1.out.mono ?_;rintro e u ⟨u9,rfl,⟨b9,_⟩,c0⟩;have v0:=c0.size;obtain⟨k4,q1,rfl,q2⟩:=oO b9;obtain rfl:V=cf.parts.length:=by obtain⟨l,s,E,_⟩:=g7.out.parts;rw[←s,List.length_map];obtain⟨a,c,h⟩:=bL E;simp at h;exact h.2.1
  have h3:Hid (∀W:World,aH (fun b=>b=d.heap.size+1∨u.heap.size≤b) u W→W.cell? ⟨y.heap.size,2,none⟩=some (.slice H cf.parts.length D)∧
   (∀k p,cf.parts[k]?=some p→∃Z c3 cp,H=some ⟨Z,0,none⟩∧W.cell? ⟨Z,k*10+1,none⟩=some (.int .i64 p.words)∧W.cell? ⟨Z,k*10+9,none⟩=some (.slice c3 p.procs.length cp))∧
   (∀z r,o[z]?=some r→∃gl,k4=some ⟨gl,0,none⟩∧W.cell? ⟨gl,z*5+1,none⟩=some (.int .i64 (r 1))∧W.cell? ⟨gl,z*5+4,none⟩=some (.int .i64 (r 4)))):=by
   intro W f1;have q3:∀b,b<wc.heap.size→b≠d.heap.size+1→W.heap[b]?=wc.heap[b]?:=fun b s E=>(f1.block b (by omega) (by rintro(h| h);exact E h;omega)).trans (c0.block b s)
   have f2:∀b,b<d.heap.size→W.heap[b]?=d.heap[b]?:=fun b s=>(q3 b (by omega) (by omega)).trans (b8.out.block b s (fun h=>h))
   refine⟨?_,?_,?_⟩
   ·have:W.heap[y.heap.size]?=some (wR cf.frame cf.watch (.slice H cf.parts.length D) (.slice I cf.wins.length J) (.slice L cf.chans.length M)):=(f2 _ (by omega)).trans o9.out
    rw[cell_of_row _ _ _ _ _ _ this];rfl
   ·intro k p a0;have q4:fU w.heap.size (.slice H cf.parts.length D) cf.parts W:=g7.out.parts.keep (fun b _ E _=>f2 b E);obtain⟨l,s,E,a6⟩:=q4;obtain⟨_,v1,v2,k5,a7⟩:=iI (fun p:Pt×Value=>(aV p.1.sys p.1.words p.1.limit (fun i=>p.1.acts.getD i 0) p.2).toList) (fun _=>rfl) l rfl E;simp at k5;obtain⟨rfl,-,rfl⟩:=k5;obtain⟨q,N,q5⟩:∃q,l[k]?=some q∧q.1=p:=by
     rw[←s,List.getElem?_map]at a0;cases h:l[k]? with
     | none=>rw[h]at a0;simp at a0
     | some q=>rw[h]at a0;exact⟨q,rfl,by simpa using a0⟩
    obtain⟨Z,a1,k6⟩:=a7 k q N;subst q5;obtain⟨v3,q6,q7,_⟩:=a6 q (List.mem_of_getElem? N);obtain⟨c3,cp,q8⟩:=bL q7;refine⟨Z,c3,cp,a1,k6 1 (by omega),?_⟩;have:=k6 9 (by omega);rw[this,←q6,List.length_map,←q8];rfl
   ·intro z r a7;have q9:dM wc.heap.size (.slice k4 o.length q1) o W:=aO b9 (fun b e=>f1.block b (World.ownsRow.lt b9 b e).2 (by have:=World.ownsRow.lt b9 b e;rintro(h| h)<;>omega));obtain⟨ad,c,k7,r0⟩:=oO q9;simp at k7;obtain⟨rfl,rfl⟩:=k7;obtain⟨gl,s,_,E,_,_,a6⟩:=r0 z r a7;exact⟨gl,s,E,a6⟩
  have v4:o.length≤9223372036854775807:=(iI fZ (fun _=>rfl) o rfl b9).1;have r2:Hid (u.heap[d.heap.size+1]?=some (.cells (cE cf.frame cf.watch (.slice H cf.parts.length D) (.slice I cf.wins.length J) (.slice L cf.chans.length M) g (.slice none 0 0) (.slice (some ⟨d.heap.size,0,none⟩) cf.chans.length cf.chans.length) 0 false) 151 (0,0))):=(c0.block _ p9).trans f0.out;have f3:Hid (aH (fun _=>False) d u):=aH.trans b8.out (aH.ofBelow (S:=fun _=>False) c0) (fun _ h=>.inl h);have r3:Hid (u.heap[d.heap.size]?=some (.cells O 40 (0,0))):=(c0.block _ (by omega)).trans k3.out;clear q2 b9 c0 h1 f0 b8 k3;generalize v5:d.heap.size+1=kb at *;have v6:kb<u.heap.size:=by omega
  have v7:y.heap.size<u.heap.size∧y.heap.size≠kb:=by omega
  go_wp2
  go_loopw [11] (fun i wr=>∃ (k:Nat) (h4:Value),k≤cf.parts.length∧i=.int .i64 k∧wr.heap[kb]?=some (.cells (cE cf.frame cf.watch (.slice H cf.parts.length D) (.slice I cf.wins.length J) (.slice L cf.chans.length M) g h4 (.slice (some ⟨d.heap.size,0,none⟩) cf.chans.length cf.chans.length) 0 false) 151 (0,0))∧mL u.heap.size h4 (kI o cf.parts k) wr∧aH (fun b=>b=kb∨u.heap.size≤b) u wr) (fun i _=>cf.parts.length-(intOf i).toNat)
  case atStart=>exact⟨0,.slice none 0 0,by omega,rfl,r2.out,⟨[],rfl,World.ownsRow_nil _ _ _ _,(fun q N=>by simp at N),List.Pairwise.nil⟩,aH.refl _ _⟩
  case round=>
   obtain⟨k,h4,v8,rfl,a9,d4,Q⟩:=hrel;obtain⟨d5,c4,c5⟩:=h3.out wr Q
   by_cases r4:k<cf.parts.length
   ·obtain⟨p,a0⟩:∃p,cf.parts[k]?=some p:=⟨cf.parts[k],List.getElem?_eq_getElem r4⟩;obtain⟨Z,c3,cp,r5,p1,k8⟩:=c4 k p a0;have k9:=j0.out.procs p (List.mem_of_getElem? a0);obtain⟨m,h5⟩:∃m:Nat,p.words=(m:Int):=⟨p.words.toNat,by omega⟩;have r6:Hid (kI o cf.parts (k+1)=kI o cf.parts k++[jY o k p]):=by show kI o cf.parts k++_=_;rw[a0]
    have h6:Hid (jY o k p=⟨nV o k,List.replicate m 0,List.replicate p.procs.length dC,0⟩):=by show _=_;unfold jY;rw[h5];rfl
    rw[h5]at p1;have v9:m≤16:=by omega
    have w0:p.procs.length≤2:=k9.2;subst r5;have l0:∀W:World,(Instr.makeSlice 40 (.int .i64 (m:Int)) (.int .i64 (m:Int))).run Tryz.prog W=.ok (.slice (some ⟨W.heap.size,0,none⟩) m m) (W.alloc (.cells (madeCells #[Value.int .i64 0] (m*1)) 3)):=by
     intro W;have:=run_make (P:=Tryz.prog) (w:=W) 40 3 n1 _ Tryz.underlying40 n2 n3 .i64 .i64 (m:Int) (m:Int) (by omega) (by omega) (by rw[n5];omega) (by omega)
     simpa[n4,Value.cells]using this
    generalize l1:madeCells #[Value.int .i64 0] (m*1)=c6 at l0;have l2:=aI l1;have f0:=aI a9;have r7:=aI d4;have b8:=aI Q;have w1:=Q.size;have r8:Hid (∀W:World,aH (fun b=>b=kb∨u.heap.size≤b) u W→W.cell? ⟨y.heap.size,2,none⟩=some (.slice (some ⟨Z,0,none⟩) cf.parts.length D)∧∃c3 cp,W.cell? ⟨Z,k*10+9,none⟩=some (.slice c3 p.procs.length cp)):=by
     intro W f1;obtain⟨h7,h8,_⟩:=h3.out W f1;obtain⟨w2,r9,s0,b2,_,s1⟩:=h8 k p a0;simp at b2;subst b2;exact⟨h7,r9,s0,s1⟩
    clear a9 d4 Q c4 c5 k9 a0 h5 l1;generalize wr=j at *;obtain⟨b3,c7⟩:∃b3,b3=(j.alloc (.cells c6 3)).alloc (.cells #[.int .i64 1,.slice (some ⟨j.heap.size,0,none⟩) m m,.slice none 0 0,.int .i64 0] 198):=⟨_,rfl⟩;have w3:b3.heap.size=j.heap.size+2:=by rw[c7];simp
    have l3:Hid (b3.heap[j.heap.size+1]?=some (.cells #[.int .i64 1,.slice (some ⟨j.heap.size,0,none⟩) m m,.slice none 0 0,.int .i64 0] 198 (0,0))):=by
     show _=_
     rw[c7];have:=heap_alloc_new (j.alloc (.cells c6 3)) (.cells #[.int .i64 1,.slice (some ⟨j.heap.size,0,none⟩) m m,.slice none 0 0,.int .i64 0] 198)
     rwa [show(j.alloc (.cells c6 3)).heap.size=j.heap.size+1 from by simp]at this
    have s2:Hid (b3.heap[j.heap.size]?=some (.cells c6 3 (0,0))):=by
     show _=_
     rw[c7,Below.heap_alloc _ _ _ (by simp)];exact heap_alloc_new j _
    have l4:Hid (aH (fun _=>False) j b3):=by show aH _ _ _;rw[c7];exact aH.trans (aH.alloc _ _) (aH.alloc _ _) (fun _ h=>.inl h)
    have s3:=aI c7;clear c7;go_wp2
    rw[←s3.out];clear l0 d5 p1 k8
    go_loopw [13] (fun i c8=>∃ (z:Nat),z≤o.length∧i=.int .i64 z∧c8.heap[j.heap.size+1]?=some (.cells #[.int .i64 ((o.take z).foldl (fY k) 1),.slice (some ⟨j.heap.size,0,none⟩) m m,.slice none 0 0,.int .i64 0] 198 (0,0))∧aH (·=j.heap.size+1) b3 c8) (fun i _=>o.length-(intOf i).toNat)
    case atStart=>exact⟨0,by omega,rfl,l3.out,aH.refl _ _⟩
    case round=>
     obtain⟨z,w4,rfl,Y,c9⟩:=hrel;have b0:aH (fun b=>b=kb∨u.heap.size≤b) u wr:=aH.trans (aH.trans b8.out l4.out (fun _ h=>h.elim)) c9 (fun i A=>.inr (by omega));obtain⟨d5,c4,c5⟩:=h3.out wr b0
     by_cases s4:z<o.length
     ·obtain⟨r,a7⟩:∃r,o[z]?=some r:=⟨o[z],List.getElem?_eq_getElem s4⟩;obtain⟨gl,s5,r1,s6⟩:=c5 z r a7;subst s5;have d6:Hid ((o.take (z+1)).foldl (fY k) 1=fY k ((o.take z).foldl (fY k) 1) r):=by
       show _=_
       rw[List.take_add_one,a7,List.foldl_append];rfl
      have d0:Hid (∀n,fY k n r=if r 1=(k:Int)then(if r 4=4 then 2 else if r 4=6 then 3 else 1)else n):=fun n=>rfl
      have l5:wr.cell? ⟨j.heap.size+1,0,none⟩=some (.int .i64 ((o.take z).foldl (fY k) 1)):=aD Y;have w5:=aJ Y 0;have d7:=aI Y;have b4:=aI c9;clear Y c9 c4 c5 b0 a7 d5;generalize (o.take z).foldl (fY k) 1=mo at d6 l5 d7;generalize r 1=f4 at r1 d0;generalize r 4=b5 at s6 d0
      by_cases s:f4=(k:Int)
      ·have g8:(f4 == (k:Int))=true:=by simp[s]
       by_cases a8:b5=4
       ·have g9:(b5 == 4)=true:=by simp[a8]
        have l6:(b5 == 6)=false:=by simp[a8]
        go_wp2
        go_roundw
        case rel=>exact⟨z+1,by omega,by go_num,by rw[d6.out,d0.out,if_pos s,if_pos a8];exact aK (aK d7.out 0 _) 0 _,aH.trans (T:=(·=j.heap.size+1)) (aH.trans (T:=(·=j.heap.size+1)) b4.out (aH.ofSet _ _ 0 _ rfl) (fun i A=>.inl A)) (aH.ofSet _ _ 0 _ rfl) (fun i A=>.inl A)⟩
        case measure=>simp[intOf];omega
       ·have g9:(b5 == 4)=false:=by simp[a8]
        by_cases f5:b5=6
        ·have l6:(b5 == 6)=true:=by simp[f5]
         go_wp2
         go_roundw
         case rel=>exact⟨z+1,by omega,by go_num,by rw[d6.out,d0.out,if_pos s,if_neg a8,if_pos f5];exact aK (aK d7.out 0 _) 0 _,aH.trans (T:=(·=j.heap.size+1)) (aH.trans (T:=(·=j.heap.size+1)) b4.out (aH.ofSet _ _ 0 _ rfl) (fun i A=>.inl A)) (aH.ofSet _ _ 0 _ rfl) (fun i A=>.inl A)⟩
         case measure=>simp[intOf];omega
        ·have l6:(b5 == 6)=false:=by simp[f5]
         go_wp2
         go_roundw
         case rel=>exact⟨z+1,by omega,by go_num,by rw[d6.out,d0.out,if_pos s,if_neg a8,if_neg f5];exact aK d7.out 0 _,aH.trans (T:=(·=j.heap.size+1)) b4.out (aH.ofSet _ _ 0 _ rfl) (fun i A=>.inl A)⟩
         case measure=>simp[intOf];omega
      ·have g8:(f4 == (k:Int))=false:=by simp[s]
       have w6:(f4 != (k:Int))=true:=by simp[s]
       go_wp2
       go_roundw
       case rel=>exact⟨z+1,by omega,by go_num,by rw[d6.out,d0.out,if_neg s];exact d7.out,b4.out⟩
       case measure=>simp[intOf];omega
     ·obtain rfl:z=o.length:=by omega
      have l7:Hid ((o.take o.length).foldl (fY k) 1=nV o k):=by show _=_;rw[List.take_length];rfl
      rw[l7.out]at Y;generalize nV o k=mo at Y h6;have s7:=aI Y;have s9:=aI b0;have b4:=aI c9;have w7:=c9.size;clear Y b0 c9 c5 c4 d5 l7 l3;generalize wr=wb at *;go_wp2
      go_loopw [14] (fun i c8=>∃ (C:Nat) (h9:Value),C≤p.procs.length∧i=.int .i64 C∧c8.heap[j.heap.size+1]?=some (.cells #[.int .i64 mo,.slice (some ⟨j.heap.size,0,none⟩) m m,h9,.int .i64 0] 198 (0,0))∧pM wb.heap.size h9 (List.replicate C dC) c8∧aH (fun b=>b=j.heap.size+1∨wb.heap.size≤b) wb c8) (fun i _=>p.procs.length-(intOf i).toNat)
      case atStart=>exact⟨0,_,by omega,rfl,s7.out,World.ownsRow_nil _ _ _ _,aH.refl _ _⟩
      case round=>
       obtain⟨C,h9,w8,rfl,Y,a5,f6⟩:=hrel;have b0:aH (fun b=>b=kb∨u.heap.size≤b) u wr:=aH.trans s9.out f6 (fun i A=>.inl (.inr (by omega)));obtain⟨d5,w9,x0,k8⟩:=r8.out wr b0;obtain⟨R,U,l8⟩:=bL a5;rw[List.length_replicate]at l8;subst l8;have x1:=f6.size;have x2:wr.cell? ⟨j.heap.size+1,2,none⟩=some (.slice R C U):=aD Y;have d8:=aI Y;have d9:=aI a5;have i0:=aI f6;have x3:=aI b0;clear Y a5 f6 b0
       by_cases x4:C<p.procs.length
       ·go_wp2_with (at_builtin;go_must (refine wpList_append_lies _ rfl (.tmp 89) (.tmp 91) 196 rfl wb.heap.size 200 n9 _ 5 40 Tryz.underlying196 o0 o1 o2 o3 rfl (by decide) (.slice R C U) C ((List.replicate C dC).flatMap bM) rfl (by have:=d9.out;unfold pM at this;rw[List.length_replicate]at this;exact this.alloc _) ⟨wr.heap.size,0,none⟩ 1 1 (bM dC) (by rfl) rfl (dA wr #[.int .i64 0,.int .i64 0,.int .i64 0,.int .i64 (-1),.bool false] 200) (by intro t0 e0;simp[bM,dC]at e0;rcases e0 with rfl| rfl| rfl<;>rfl) (by omega) (by unfold maxLen;omega) (by omega) (by simp;omega) _ rfl ?_))
        intro F G B l9 m0 _ _;have f7:=aZ m0;have t1:=f7.size;have e1:∀b,(Value.slice R C U).ownBlock=some b→wb.heap.size≤b:=fun b e=>(World.ownsRow.lt d9.out b e).1
        have f8:B.heap[j.heap.size+1]?=some (.cells #[.int .i64 mo,.slice (some ⟨j.heap.size,0,none⟩) m m,.slice R C U,.int .i64 0] 198 (0,0)):=(f7.block _ (lt_of_block d8.out) (fun e=>by have:=e1 _ e.symm;omega)).trans d8.out;have x5:B.cell? ⟨j.heap.size+1,2,none⟩=some (.slice R C U):=aD f8;have x6:=aJ f8 2;have m1:Hid (pM wb.heap.size (.slice (some ⟨F,0,none⟩) (C+1) G) (List.replicate (C+1) dC) (B.setCell ⟨j.heap.size+1,2,none⟩ (.slice (some ⟨F,0,none⟩) (C+1) G))∧aH (fun b=>b=j.heap.size+1∨wb.heap.size≤b) wb (B.setCell ⟨j.heap.size+1,2,none⟩ (.slice (some ⟨F,0,none⟩) (C+1) G))):=by
         have d1:aH (·=j.heap.size+1) B (B.setCell ⟨j.heap.size+1,2,none⟩ (.slice (some ⟨F,0,none⟩) (C+1) G)):=aH.ofSet _ _ _ _ rfl;refine⟨?_,aH.trans (T:=(·=j.heap.size+1)) (aH.trans i0.out (aH.ofGrown (S:=fun b=>b=j.heap.size+1∨wb.heap.size≤b) f7 (fun b e=>.inl (.inr (e1 b e)))) (fun i A=>.inl A)) d1 (fun i A=>.inl (.inl A))⟩;have s:pM wb.heap.size (.slice (some ⟨F,0,none⟩) (C+1) G) (List.replicate (C+1) dC) B:=by
          unfold pM;rw[List.replicate_succ',List.flatMap_append,List.length_append,List.length_replicate]
          simpa using l9
         exact aO s (fun b e=>d1.block b (World.ownsRow.lt s b e).2 (fun t2=>by have:=(World.ownsRow.lt s b e).1;omega))
        have t3:=aI f8;clear l9 m0 f7 e1 f8;go_wp2
        go_roundw
        case rel=>exact⟨C+1,_,by omega,by go_num,aK t3.out 2 _,m1.out.1,m1.out.2⟩
        case measure=>simp[intOf];omega
       ·obtain rfl:C=p.procs.length:=by omega
        obtain⟨l,i1,b6,e2,m2⟩:=r7.out;obtain⟨a2,a3,t4⟩:=bL b6;subst t4;have t5:kb<j.heap.size:=by omega
        have e3:aH (fun b=>j.heap.size≤b) j wr:=aH.trans (aH.trans (l4.out.mono (fun _ h=>h.elim)) b4.out (fun i A=>.inl (by omega))) i0.out (fun i A=>.inl (by omega));have e4:wr.heap[kb]?=some (.cells (cE cf.frame cf.watch (.slice (some ⟨Z,0,none⟩) cf.parts.length D) (.slice I cf.wins.length J) (.slice L cf.chans.length M) g (.slice a2 l.length a3) (.slice (some ⟨d.heap.size,0,none⟩) cf.chans.length cf.chans.length) 0 false) 151 (0,0)):=(e3.block kb t5 (by omega)).trans f0.out;have t6:wr.cell? ⟨kb,6,none⟩=some (.slice a2 l.length a3):=aD e4;have x7:(wr.alloc (.cells #[.int .i64 mo,.slice (some ⟨j.heap.size,0,none⟩) m m,.slice R p.procs.length U,.int .i64 0] 198)).cell? ⟨kb,6,none⟩=some (.slice a2 l.length a3):=by rw[World.cell?_of_block (w:=wr) (Below.heap_alloc wr _ kb (lt_of_block e4))];exact t6
        have l5:wr.cell? ⟨j.heap.size+1,0,none⟩=some (.int .i64 mo):=aD d8.out;have x8:wr.cell? ⟨j.heap.size+1,1,none⟩=some (.slice (some ⟨j.heap.size,0,none⟩) m m):=aD d8.out;have x9:wr.cell? ⟨j.heap.size+1,3,none⟩=some (.int .i64 0):=aD d8.out;have i2:wr.ownsRow u.heap.size 198 4 (.slice a2 l.length a3) l.length (l.flatMap iH):=aO b6 (fun b e=>e3.block b (World.ownsRow.lt b6 b e).2 (by have:=(World.ownsRow.lt b6 b e).2;omega));have t7:=aI i2;have t8:Hid (l.length=k):=by show _=_;rw[←List.length_map (f:=Prod.fst),i1];exact mV o cf.parts k (by omega)
        have y0:l.length≤4:=by have:=t8.out;have:=j0.out.parts;omega
        have t9:Hid (∀F G B,B.ownsRow u.heap.size 198 4 (.slice (some ⟨F,0,none⟩) (l.length+1) G) (l.length+1) (l.flatMap iH++#[.int .i64 mo,.slice (some ⟨j.heap.size,0,none⟩) m m,.slice R p.procs.length U,.int .i64 0].toList)→(wr.alloc (.cells #[.int .i64 mo,.slice (some ⟨j.heap.size,0,none⟩) m m,.slice R p.procs.length U,.int .i64 0] 198)).grownBy B (Value.slice a2 l.length a3).ownBlock→B.cell? ⟨kb,6,none⟩=some (.slice a2 l.length a3)∧B.frozen? ⟨kb,6,none⟩=false∧
         ((B.setCell ⟨kb,6,none⟩ (.slice (some ⟨F,0,none⟩) (l.length+1) G)).heap[kb]?=some (.cells (cE cf.frame cf.watch (.slice (some ⟨Z,0,none⟩) cf.parts.length D) (.slice I cf.wins.length J) (.slice L cf.chans.length M) g (.slice (some ⟨F,0,none⟩) (l.length+1) G) (.slice (some ⟨d.heap.size,0,none⟩) cf.chans.length cf.chans.length) 0 false) 151 (0,0))∧mL u.heap.size (.slice (some ⟨F,0,none⟩) (l.length+1) G) (kI o cf.parts (k+1)) (B.setCell ⟨kb,6,none⟩ (.slice (some ⟨F,0,none⟩) (l.length+1) G))∧aH (fun b=>b=kb∨u.heap.size≤b) u (B.setCell ⟨kb,6,none⟩ (.slice (some ⟨F,0,none⟩) (l.length+1) G)))):=by
         intro F G B d2 a1;have b2:=aZ a1;have t1:=b2.size;have f9:∀b,(Value.slice a2 l.length a3).ownBlock=some b→u.heap.size≤b∧b<j.heap.size:=fun b e=>⟨(World.ownsRow.lt b6 b e).1,(World.ownsRow.lt b6 b e).2⟩
         have i3:B.heap[kb]?=some (.cells (cE cf.frame cf.watch (.slice (some ⟨Z,0,none⟩) cf.parts.length D) (.slice I cf.wins.length J) (.slice L cf.chans.length M) g (.slice a2 l.length a3) (.slice (some ⟨d.heap.size,0,none⟩) cf.chans.length cf.chans.length) 0 false) 151 (0,0)):=(b2.block kb (lt_of_block e4) (fun e=>by have:=f9 kb e.symm;omega)).trans e4;have d1:aH (·=kb) B (B.setCell ⟨kb,6,none⟩ (.slice (some ⟨F,0,none⟩) (l.length+1) G)):=aH.ofSet _ _ _ _ rfl;have same:∀b,b<wr.heap.size→b≠kb→(Value.slice a2 l.length a3).ownBlock≠some b→(B.setCell ⟨kb,6,none⟩ (.slice (some ⟨F,0,none⟩) (l.length+1) G)).heap[b]?=wr.heap[b]?:=fun b s E a6=>(d1.block b (by omega) E).trans (b2.block b s (fun e=>a6 e.symm))
         refine⟨aD i3,aJ i3 6,aK i3 6 _,?_,?_⟩
         ·refine⟨l++[(jY o k p,.slice (some ⟨j.heap.size,0,none⟩) m m,.slice R p.procs.length U)],?_,?_,(fun q N=>?_),?_⟩
          ·rw[List.map_append,i1,r6.out];rfl
          ·rw[List.flatMap_append,List.length_append];show World.ownsRow _ _ _ _ _ (l.length+1) (_++(iH _++[]))
           rw[List.append_nil,show iH (jY o k p,Value.slice (some ⟨j.heap.size,0,none⟩) m m,Value.slice R p.procs.length U)=#[.int .i64 mo,.slice (some ⟨j.heap.size,0,none⟩) m m,.slice R p.procs.length U,.int .i64 0].toList from by rw[h6.out];rfl];exact aO d2 (fun b e=>d1.block b (World.ownsRow.lt d2 b e).2 (fun t2=>by have:=(World.ownsRow.lt d2 b e).1;omega))
          ·rcases List.mem_append.1 N with N| N
           ·have m3:∀ {e:TypeId} {g0:Nat} {v:Value} {g1:Nat} {g2:List Value},e≠198→j.ownsRow u.heap.size e g0 v g1 g2→World.ownsRow (B.setCell ⟨kb,6,none⟩ (.slice (some ⟨F,0,none⟩) (l.length+1) G)) u.heap.size e g0 v g1 g2:=by
             intro e g0 v g1 g2 e1 i4;have g3:wr.ownsRow u.heap.size e g0 v g1 g2:=aO i4 (fun b a4=>e3.block b (World.ownsRow.lt i4 b a4).2 (by have:=(World.ownsRow.lt i4 b a4).2;omega));refine aO g3 (fun b a4=>same b (World.ownsRow.lt g3 b a4).2 (by have:=(World.ownsRow.lt g3 b a4).1;omega) (fun u0=>?_));obtain⟨c1,u1⟩:=cV i2 u0;obtain⟨c2,i5⟩:=cV g3 a4;rw[u1]at i5;simp at i5;exact e1 i5.2.symm
            exact⟨m3 (by decide) (e2 q N).1,m3 (by decide) (e2 q N).2⟩
           ·obtain rfl:=List.mem_singleton.1 N;have u2:wr.heap[j.heap.size]?=some (.cells c6 3 (0,0)):=(i0.out.block _ (by omega) (by rintro(h| h)<;>omega)).trans ((b4.out.block _ (by omega) (by omega)).trans s2.out);rw[h6.out];refine⟨?_,?_⟩
            ·refine⟨by simp,.inr ⟨j.heap.size,m,c6,by simp,by omega,(same _ (by omega) (by omega) (fun e=>by have:=f9 _ e;omega)).trans u2,by simp,by unfold maxLen;omega,by rw[←l2.out];simp[madeCells],?_⟩⟩;rw[←l2.out,uD];simp
            ·have:=d9.out;refine bI (base':=u.heap.size) (aO this (fun b a4=>same b (World.ownsRow.lt this b a4).2 (by have:=(World.ownsRow.lt this b a4).1;omega) (fun e=>by have:=f9 b e;have:=(World.ownsRow.lt d9.out b a4).1;omega))) (by omega)
          ·refine List.pairwise_append.2 ⟨m2,List.pairwise_singleton _ _,fun q N r a7=>?_⟩;obtain rfl:=List.mem_singleton.1 a7;refine⟨fun x i6 i7=>?_,fun x i6 i7=>?_⟩
           ·have s:=World.ownsRow.lt (e2 q N).1 x i6;simp[Value.ownBlock]at i7;omega
           ·have s:=World.ownsRow.lt (e2 q N).2 x i6;have E:=World.ownsRow.lt d9.out x i7;omega
         ·refine aH.trans (T:=(·=kb)) (aH.trans (aH.trans b8.out e3 (fun i A=>.inl (.inr (by omega)))) (aH.ofGrown (S:=fun b=>u.heap.size≤b) b2 (fun b e=>.inl (f9 b e).1)) (fun i A=>.inl (.inr A))) d1 (fun i A=>.inl (.inl A))
        clear i1 b6 e2 m2 e3 e4 i2;go_wp2_with fail
        go_region_law (refine step_append_lies _ rfl (.tmp 98) (.tmp 100) 149 rfl u.heap.size 198 k0 _ 4 64 Tryz.underlying149 g4 n6 n7 n8 rfl (by decide) (.slice a2 l.length a3) l.length (l.flatMap iH) (by rfl) (by exact t7.out.alloc _) ⟨wr.heap.size,0,none⟩ 1 1 #[.int .i64 mo,.slice (some ⟨j.heap.size,0,none⟩) m m,.slice R p.procs.length U,.int .i64 0].toList (by rfl) rfl (by exact dA wr #[.int .i64 mo,.slice (some ⟨j.heap.size,0,none⟩) m m,.slice R p.procs.length U,.int .i64 0] 198) (by intro t0 e0;simp at e0;rcases e0 with rfl| rfl| rfl| rfl<;>rfl) (by omega) (by unfold maxLen;omega) (by omega) (by simp;omega) (wr.heap.size+1) (by simp) ?_;intro F G B d2 a1 _ _;obtain⟨y1,y2,m4⟩:=t9.out F G B d2 ⟨a1.os,a1.tape,a1.output,a1.size,a1.block⟩;have u3:=aI m4;clear d2 a1 m4)
        all_goals (
         go_wp2
         go_roundw
         case rel=>
          obtain⟨h7,h8,e5⟩:=u3.out;exact⟨k+1,_,by omega,by go_num,h7,h8.keep (fun _ _ _=>rfl),⟨e5.os,e5.tape,e5.output,e5.size,e5.block⟩⟩
         case measure=>simp[intOf];omega)
   ·obtain rfl:k=cf.parts.length:=by omega
    have m5:Hid (lZ w.heap.size kb g (cJ cf bs) wr∧Below w.heap.size w wr):=by
     have f2:∀b,b<d.heap.size→wr.heap[b]?=d.heap[b]?:=fun b s=>(Q.block b (by have:=f3.out.size;omega) (by rintro(h| h);omega;have:=f3.out.size;omega)).trans (f3.out.block b s (fun h=>h))
     have N:wr.heap[d.heap.size]?=some (.cells O 40 (0,0)):=(Q.block _ (by omega) (by rintro(h| h)<;>omega)).trans r3.out;refine⟨⟨by omega,_,_,_,_,_,a9,g7.out.keep (fun b _ E=>f2 b E),by rw[q0.out]at d4;exact d4.low (by omega),?_⟩,?_⟩
     ·have u4:(cJ cf bs).queues.length=cf.chans.length:=by simp[cJ]
      unfold Th;rw[u4];refine⟨d.heap.size,rfl,by omega,by simp,.inr ⟨d.heap.size,cf.chans.length,O,by simp,by omega,N,by simp,by unfold maxLen;omega,by rw[←j4.out];simp[madeCells],?_⟩⟩;rw[←j4.out,Gt];simp
     ·have a6:Below w.heap.size w u:=e9.out.trans (f3.out.below (by omega) (fun _ h=>h.elim));exact a6.trans (Q.below (by omega) (fun b i8=>by rcases i8 with i8| i8<;>omega))
    clear a9 d4 Q c4 c5;go_wp2
    go_ret2
    exact⟨⟨kb,rfl,m5.out.1⟩,m5.out.2⟩
 ·go_wp2
  go_ret2
  exact⟨.inl ⟨j1,rfl⟩,e9.out⟩
end Go.Proofs.YtnjlbgolnbdkaaaGreat
