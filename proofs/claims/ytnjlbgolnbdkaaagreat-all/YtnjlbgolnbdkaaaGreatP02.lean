/- All, with short names -/
import Derived.Test.YtnjlbgolnbdkaaaGreatP01
import Derived.Test.YtnjlbgolnbdkaaaGreatP00
import Derived.Laws.CopyOwn
set_option maxRecDepth 100000
set_option maxHeartbeats 16000000
namespace Go.Proofs.YtnjlbgolnbdkaaaGreat
open Go Go.RowKit
theorem qY(e:Int)(w:World):Calls Tryz.prog 61 #[.int .i64 e] w fun a w'=>a=.returned (.int .i64 e)∧w'=w:=by
 go_enter Tryz.func61,Tryz.ntmps61
 go_wp2
 go_ret
 exact⟨rfl,rfl⟩
structure Rd where
 pos:Nat
 err:Int
 pl:Int
 fin:Int
def bS(zs:List Int)(a b:Int)(r:Rd):Int×Rd:=
 if r.err≠0 then(a,r)
 else if zs.length≤r.pos then(a,{ r with err:=2,pl:=zs.length })
 else if zs.getD r.pos 0<a∨b<zs.getD r.pos 0 then(a,{ r with err:=3,pl:=r.pos })
 else(zs.getD r.pos 0,{ r with pos:=r.pos+1 })
def gN(v a:Int)(r:Rd):Rd:=if r.err=0∧v=a then{ r with err:=3,pl:=(r.pos:Int)-1 }else r
def bH{α:Type}(f:Rd→α×Rd):Nat→Rd→List α×Rd
 | 0,r=>([],r)
 | k+1,r=>if(bH f k r).2.err≠0 then bH f k r else((bH f k r).1++[(f (bH f k r).2).1],(f (bH f k r).2).2)
theorem jP{α:Type}(f:Rd→α×Rd)(k:Nat)(r:Rd)(h:(bH f k r).2.err=0):bH f (k+1) r=((bH f k r).1++[(f (bH f k r).2).1],(f (bH f k r).2).2):=by
 show(if(bH f k r).2.err≠0 then _ else _)=_
 rw[if_neg (by simpa using h)]
theorem fT{α:Type}(f:Rd→α×Rd)(k:Nat)(r:Rd)(h:(bH f k r).2.err≠0):∀a,k≤a→bH f a r=bH f k r:=by
 intro a c
 induction a with
 | zero=>
  obtain rfl:k=0:=by omega
  rfl
 | succ a ih=>
  by_cases b:k=a+1
  ·rw[b]
  ·have:=ih (by omega);show(if(bH f a r).2.err≠0 then _ else _)=_
   rw[this,if_pos h]
def iY(zs:List Int)(n:Int)(r:Rd):(Int×Int)×Rd:=
 (((bS zs 0 13 r).1,(bS zs 0 (if(bS zs 0 13 r).1=4 then n-1 else 255) (bS zs 0 13 r).2).1),(bS zs 0 (if(bS zs 0 13 r).1=4 then n-1 else 255) (bS zs 0 13 r).2).2)
structure Pr where
 prio:Int
 code:List (Int×Int)
def eS(zs:List Int)(r:Rd):Pr×Rd:=
 (⟨(bS zs 0 9 r).1,(bH (iY zs (bS zs 1 20 (bS zs 0 9 r).2).1) (bS zs 1 20 (bS zs 0 9 r).2).1.toNat (bS zs 1 20 (bS zs 0 9 r).2).2).1⟩,
  (bH (iY zs (bS zs 1 20 (bS zs 0 9 r).2).1) (bS zs 1 20 (bS zs 0 9 r).2).1.toNat (bS zs 1 20 (bS zs 0 9 r).2).2).2)
theorem jF(zs:List Int)(a b:Int)(r:Rd)(h:a≤b):a≤(bS zs a b r).1∧(bS zs a b r).1≤b:=by
 unfold bS;split
 ·exact⟨Int.le_refl _,h⟩
 ·split
  ·exact⟨Int.le_refl _,h⟩
  ·split
   ·exact⟨Int.le_refl _,h⟩
   ·simp only;omega
theorem Bt(zs:List Int)(a b:Int)(r:Rd)(h:(bS zs a b r).2.err=0):r.err=0∧r.pos<zs.length∧(bS zs a b r).1=zs.getD r.pos 0∧a≤zs.getD r.pos 0∧zs.getD r.pos 0≤b∧(bS zs a b r).2.pos=r.pos+1:=by
 unfold bS at *;split at h
 ·rename_i c;exact absurd h c
 ·rename_i c
  split at h
  ·simp at h
  ·rename_i d
   split at h
   ·simp at h
   ·rename_i f
    rw[if_neg c,if_neg d,if_neg f];exact⟨by simpa using c,by omega,rfl,by omega,by omega,rfl⟩
theorem Tp(zs:List Int)(a b:Int)(r:Rd)(h:r.pos≤zs.length):(bS zs a b r).2.pos≤zs.length:=by
 unfold bS;split
 ·exact h
 ·split
  ·exact h
  ·split
   ·exact h
   ·simp only;omega
def bU(p:Nat→Value)(b vW:Value)(n:Int)(a:Nat→Value):Array Value:=#[p 0,p 1,p 2,p 3,p 4,b,vW,.int .i64 n,a 3,a 4,a 5,a 6,a 7,a 8,a 9,a 10,a 11,a 12,a 13,a 14,a 15,a 16,a 17,a 18,a 19,a 20]
structure aH(S:Nat→Prop)(w w':World):Prop where
 os:w'.os=w.os
 tape:w'.tape=w.tape
 output:w'.output=w.output
 size:w.heap.size≤w'.heap.size
 block:∀k,k<w.heap.size→¬S k→w'.heap[k]?=w.heap[k]?
theorem aH.refl(S:Nat→Prop)(w:World):aH S w w:=⟨rfl,rfl,rfl,Nat.le_refl _,fun _ _ _=>rfl⟩
theorem aH.trans{S T:Nat→Prop}{a b c:World}(h:aH S a b)(k:aH T b c)(j:∀i,T i→S i∨a.heap.size≤i):aH S a c:=
 ⟨k.os.trans h.os,k.tape.trans h.tape,k.output.trans h.output,Nat.le_trans h.size k.size,fun i d f=>(k.block i (Nat.lt_of_lt_of_le d h.size) (fun l=>by rcases j i l with g| g;exact f g;omega)).trans (h.block i d f)⟩
theorem aH.ofBelow{S:Nat→Prop}{a b:World}(h:Below a.heap.size a b):aH S a b:=⟨h.os,h.tape,h.output,h.size,fun k c _=>h.block k c⟩
theorem aH.ofGrown{S:Nat→Prop}{a b:World}{row:Option Nat}(h:a.grownBy b row)(d:∀k,row=some k→S k∨a.heap.size≤k):aH S a b:=
 ⟨h.os,h.tape,h.output,h.size,fun k f g=>h.block k f (fun e=>by rcases d k e.symm with c| c;exact g c;omega)⟩
theorem aH.ofSet{S:Nat→Prop}(a:World)(g o:Nat)(v:Value)(b:S g):aH S a (a.setCell ⟨g,o,none⟩ v):=
 ⟨rfl,rfl,rfl,by simp[World.setCell],fun k _ c=>Below.heap_setCell a ⟨g,o,none⟩ v k (fun e=>c (by simp at e;rw[e];exact b))⟩
theorem aH.ofDrewN{S:Nat→Prop}(a:World)(n:Nat):aH S a (a.drewN n):=⟨rfl,rfl,rfl,Nat.le_refl _,fun _ _ _=>rfl⟩
theorem aH.below{S:Nat→Prop}{a b:World}{B:Nat}(h:aH S a b)(f:B≤a.heap.size)(c:∀k,S k→B≤k):Below B a b:=
 ⟨h.os,h.tape,h.output,h.size,fun k g=>h.block k (by omega) (fun d=>by have:=c k d;omega)⟩
theorem aH.mono{S T:Nat→Prop}{a b:World}(h:aH S a b)(c:∀k,S k→T k):aH T a b:=⟨h.os,h.tape,h.output,h.size,fun k d f=>h.block k d (fun g=>f (c k g))⟩
theorem aK{w:World}{g:Nat}{b:Array Value}{t:TypeId}(a:w.heap[g]?=some (.cells b t (0,0)))(o:Nat)(v:Value):(w.setCell ⟨g,o,none⟩ v).heap[g]?=some (.cells (b.setIfInBounds o v) t (0,0)):=by
 have c:g<w.heap.size:=by
  rcases Nat.lt_or_ge g w.heap.size with h| h
  ·exact h
  ·rw[Array.getElem?_eq_none h]at a;cases a
 simp only[World.setCell,Array.getElem?_modify,if_true,a,Option.map];rfl
theorem aJ{w:World}{g:Nat}{a:Array Value}{t:TypeId}(b:w.heap[g]?=some (.cells a t (0,0)))(o:Nat):w.frozen? ⟨g,o,none⟩=false:=by
 simp[World.frozen?,b]
structure gV(w:World)(ao:Option Addr)(n cap:Nat)(zs:List Int):Prop where
 len:zs.length=n
 cap1:n≤cap
 cap2:cap≤9223372036854775807
 bytes:cT zs
 none:ao=Option.none→cap=0
 cells:∀ad,ao=some ad→∀j u,(bZ zs)[j]?=some u→w.cell? (ad.add j)=some u
 lt:∀ad,ao=some ad→0<n→ad.block<w.heap.size
theorem Ac(ad:Addr)(a:Nat):(ad.add a).block=ad.block:=by unfold Addr.add;split<;>rfl
theorem gV.touch{S:Nat→Prop}{w w':World}{b:Option Addr}{n cap:Nat}{zs:List Int}(h:gV w b n cap zs)(t:aH S w w')(f:∀ad,b=some ad→0<n→¬S ad.block):gV w' b n cap zs:=by
 refine⟨h.len,h.cap1,h.cap2,h.bytes,h.none,?_,fun ad e a=>Nat.lt_of_lt_of_le (h.lt ad e a) t.size⟩;intro ad e c g d;have a:0<n:=by
  have i:c<(bZ zs).length:=(List.getElem?_eq_some_iff.1 d).1;rw[bX,h.len]at i;omega
 rw[World.cell?_of_block (w:=w) (t.block _ (by rw[Ac];exact h.lt ad e a) (by rw[Ac];exact f ad e a))];exact h.cells ad e c g d
theorem Tryz.info22:(Tryz.prog.info? 22).map (fun i=>(i.zero,i.size,i.bytes))=some (some (.slice none 0 0),1,24):=by kernel_rfl
theorem Mi{w:World}{base g n:Nat}{b:List Value}{e:TypeId}(h:w.ownsRow base e 1 (.slice (some ⟨g,0,none⟩) n n) n b):w.heap[g]?=some (.cells b.toArray e (0,0))∧base≤g:=by
 obtain⟨j,a⟩:=h;rcases a with⟨a,_⟩| ⟨k,cap,cur,c,f,i,_,_,l,d⟩
 ·cases a
 ·simp at c;obtain⟨rfl,rfl⟩:=c;rw[List.take_of_length_le (by simp;omega)]at d;rw[i,←d];exact⟨rfl,f⟩
section
open Go.RowKit
theorem Ig(n:Nat):(madeCells #[Value.int .u8 0] n).toList=List.replicate n (.int .u8 0):=by
 rw[List.eq_replicate_iff];refine⟨by simp[madeCells],?_⟩;intro v b;simp only[madeCells,Array.toList_map,List.mem_map]at b;obtain⟨i,_,rfl⟩:=b;have:i % 1=0:=Nat.mod_one i
 simp[this]
theorem oJ(v:Value)(f:Option Addr)(n c:Nat)(h:v=.slice f n c):∀b∈[v],b.oneCell'=true:=by
 intro b d;simp at d;subst d;subst h;rfl
theorem Ax{w:World}{base g cap:Nat}{e:TypeId}{v:Value}(h:w.ownsRow base e 1 (.slice (some ⟨g,0,none⟩) 1 cap) 1 [v]):w.cell? ⟨g,0,none⟩=some v:=by
 have:=h.cells (g:=g) rfl 0 v rfl
 simpa[Addr.add]using this
theorem Qn(p:Nat→Value)(b:Nat)(m:Int)(o:Nat→Value)(q:Option Addr)(n cap:Nat)(zs:List Int)(w:World)(E:w.heap[b]?=some (.cells (bU p (.slice none 0 0) (.slice none 0 0) m o) 94 (0,0)))(Y:gV w q n cap zs)(f5:n≤140737488351232):
 Calls Tryz.prog 58 #[.pointer (some ⟨b,5,none⟩),.slice q n cap] w fun e w'=>∃x f c1 r c2,e=.returned (.slice (some ⟨x,0,none⟩) n (n+2))∧w.heap.size≤x∧w.heap.size≤f∧w.heap.size≤r∧
  w'.heap[x]?=some (.cells (bZ (zs++[165,165])).toArray 5 (0,0))∧w'.cell? ⟨f,0,none⟩=some (.slice (some ⟨x,0,none⟩) (n+2) (n+2))∧w'.cell? ⟨r,0,none⟩=some (.slice q n cap)∧
  w'.heap[b]?=some (.cells (bU p (.slice (some ⟨f,0,none⟩) 1 c1) (.slice (some ⟨r,0,none⟩) 1 c2) m o) 94 (0,0))∧aH (·=b) w w':=by
 obtain⟨c8,j,c9,Z,d0⟩:=info_parts Tryz.info5;have f6:(n:Int)≤140737488351232:=by omega
 have d1:b<w.heap.size:=by
  rcases Nat.lt_or_ge b w.heap.size with h| h
  ·exact h
  ·rw[Array.getElem?_eq_none h]at E;cases E
 have d2:=aI E;have a0:=aI Y;clear E Y
 go_enter Tryz.func58,Tryz.ntmps58
 go_wp2_with (at_make;go_must (refine wpList_make_full _ rfl _ _ 22 rfl w.heap.size 5 c8 (.int .u8 0) 1 Tryz.underlying22 j c9 Z .i64 .i64 _ _ (n+2) rfl rfl (by omega) (by omega) (by rw[d0];omega) (by unfold maxLen;omega) (by omega) ?_))
 intro d3 O a1;rw[Ig]at O;have a2:=aI (Mi O).1;have a3:=aI a1;clear O a1;have P:Hid (aH (fun _=>False) w d3):=aH.ofGrown a3.out (by simp);have F:=aI (a0.out.touch P.out (fun _ _ _=>id));have a4:=a0.out.len;have s:Hid (zs.length=n):=a4;clear a4;go_wp2_with (refine wpList_copy_splice rfl (.tmp 12) (.tmp 13) 22 22 rfl 5 Tryz.underlying22 (by rw[j];simp[Z]) (some ⟨w.heap.size,0,none⟩) q (n+2) (n+2) n cap rfl rfl w.heap.size 0 (List.replicate (n+2) (.int .u8 0)) 5 a2.out (bZ zs) (by rw[bX,s.out];exact(Nat.min_eq_left (by omega)).symm) (fun d4=>⟨rfl,(by cases q with| none=>exact absurd (F.out.none rfl) (by have:=F.out.cap1;rw[bX,s.out]at d4;omega)| some ad=>exact⟨ad,rfl,F.out.cells ad rfl⟩)⟩) (by rw[bX,s.out];simp) (jM _) w.heap.size w (P.out.below (Nat.le_refl _) (by simp)) (Nat.le_refl _) ?_)
 intro c a5 Q;have u:Hid (c.heap[w.heap.size]?=some (.cells (bZ (zs++[0,0])).toArray 5 (0,0))):=by
  have:=a5.out;rw[show splice (List.replicate (n+2) (Value.int .u8 0)) 0 (bZ zs)=bZ (zs++[0,0])from by
   unfold splice;rw[iQ,bX,s.out];simp[bZ,List.drop_replicate]]at this
  exact this
 have d5:c.cell? ⟨w.heap.size,n,none⟩=some (.int .u8 0):=by
  rw[cell_of_row _ _ _ _ _ _ u.out];simp[bZ,←s.out]
 have d6:c.cell? ⟨w.heap.size,n+1,none⟩=some (.int .u8 0):=by
  rw[cell_of_row _ _ _ _ _ _ u.out];simp[bZ,←s.out]
 have d7:=aJ u.out n;have d8:=aJ u.out (n+1);have a6:=aI Q;have y:Hid (c.heap[b]?=some (.cells (bU p (.slice none 0 0) (.slice none 0 0) m o) 94 (0,0))):=(Q.block _ d1).trans d2.out;clear a5 Q a2 a3 P F;have f7:w.heap.size<c.heap.size:=by
  rcases Nat.lt_or_ge w.heap.size c.heap.size with h| h
  ·exact h
  ·exact absurd u.out (by rw[Array.getElem?_eq_none h];simp)
 have d9:c.cell? ⟨b,5,none⟩=some (.slice none 0 0):=aD y.out;have c1:c.cell? ⟨b,6,none⟩=some (.slice none 0 0):=aD y.out;have e0:=aJ y.out 5;have e1:=aJ y.out 6;have a7:¬w.heap.size=b:=by omega
 have f8:¬b=w.heap.size:=by omega
 obtain⟨a8,a9,b0,b1,b2⟩:=info_parts Tryz.info22;obtain⟨l,B⟩:∃l,l=(c.setCell ⟨w.heap.size,n,none⟩ (.int .u8 165)).setCell ⟨w.heap.size,n+1,none⟩ (.int .u8 165):=⟨_,rfl⟩;have e2:l.heap.size=c.heap.size:=by rw[B];simp
 have b3:Hid (l.heap[w.heap.size]?=some (.cells (bZ (zs++[165,165])).toArray 5 (0,0))):=by
  have:=aK (aK u.out n (.int .u8 165)) (n+1) (.int .u8 165);rw[←B]at this;rw[this]
  congr 2
  apply Array.ext'
  simp[bZ,←s.out]
 have R:Hid (aH (·=w.heap.size) c l):=by
  rw[B];exact aH.trans (S:=(·=w.heap.size)) (T:=(·=w.heap.size)) (aH.ofSet c w.heap.size n (.int .u8 165) rfl) (aH.ofSet _ w.heap.size (n+1) (.int .u8 165) rfl) (fun i j=>.inl j)
 have b4:Hid (l.heap[b]?=some (.cells (bU p (.slice none 0 0) (.slice none 0 0) m o) 94 (0,0))):=(R.out.block _ (by omega) (by omega)).trans y.out;have G:=aI B;clear B;go_wp2_with (at_builtin;go_must (refine wpList_append_lies _ rfl (.tmp 26) (.tmp 28) 36 rfl w.heap.size 22 a8 (.slice none 0 0) 1 24 Tryz.underlying36 a9 b0 b1 b2 rfl (by decide) (.slice none 0 0) 0 [] rfl (World.ownsRow_nil _ _ _ _) ⟨c.heap.size,0,none⟩ 1 1 [.slice (some ⟨w.heap.size,0,none⟩) (n+2) (n+2)] (by rfl) rfl (by rw[←G.out,←e2];exact dA l #[.slice (some ⟨w.heap.size,0,none⟩) (n+2) (n+2)] 22) (oJ _ _ _ _ rfl) (by omega) (by decide) (by omega) (by rw[←G.out];simp;omega) _ rfl ?_))
 intro f H d b5 U b6 f9;rw[←G.out]at U;have b7:f=c.heap.size+1:=by simpa[Value.ownBlock]using b6
 have I:l.grownBy d none:=aZ U;have b8:Hid (d.heap[w.heap.size]?=some (.cells (bZ (zs++[165,165])).toArray 5 (0,0))):=(I.block _ (by omega) (by simp)).trans b3.out;have z:Hid (d.heap[b]?=some (.cells (bU p (.slice none 0 0) (.slice none 0 0) m o) 94 (0,0))):=(I.block _ (by omega) (by simp)).trans b4.out;have e3:=aI (Ax b5);have b9:Hid (Below w.heap.size w d):=(a6.out.trans (R.out.below (by omega) (by intro k g0;omega))).grown I (by omega) (by simp);have e4:d.cell? ⟨b,5,none⟩=some (.slice none 0 0):=aD z.out;have e5:d.cell? ⟨b,6,none⟩=some (.slice none 0 0):=aD z.out;have e6:=aJ z.out 5;have e7:=aJ z.out 6;have g1:c.heap.size+1<d.heap.size:=by omega
 clear b5 U b6 I d9 c1 e0 e1 d5 d6 d7 d8 b4 y u b3 R a6 G;have c0:=aI b7;clear b7;obtain⟨v,D⟩:∃v,v=d.setCell ⟨b,5,none⟩ (.slice (some ⟨f,0,none⟩) 1 H):=⟨_,rfl⟩;have e8:v.heap.size=d.heap.size:=by rw[D];simp
 have c3:Hid (aH (·=b) d v):=by
  rw[D];exact aH.ofSet d b 5 _ rfl
 have c4:Hid (v.heap[b]?=some (.cells (bU p (.slice (some ⟨f,0,none⟩) 1 H) (.slice none 0 0) m o) 94 (0,0))):=by
  rw[D];exact aK z.out 5 _
 have J:=aI D;clear D;go_wp2_with (at_builtin;go_must (refine wpList_append_lies _ rfl (.tmp 36) (.tmp 38) 36 rfl w.heap.size 22 a8 (.slice none 0 0) 1 24 Tryz.underlying36 a9 b0 b1 b2 rfl (by decide) (.slice none 0 0) 0 [] rfl (World.ownsRow_nil _ _ _ _) ⟨d.heap.size,0,none⟩ 1 1 [.slice q n cap] (by rfl) rfl (by rw[←J.out,←e8];exact dA v #[.slice q n cap] 22) (oJ _ _ _ _ rfl) (by omega) (by decide) (by omega) (by rw[←J.out];simp;omega) _ rfl ?_))
 intro r e9 g c5 V c6 g2;rw[←J.out]at V;have c7:r=d.heap.size+1:=by simpa[Value.ownBlock]using c6
 have f0:=aI c7;clear c7;have W:v.grownBy g none:=aZ V;have N:Hid (aH (·=b) d g):=aH.trans (T:=fun _=>False) c3.out (aH.ofGrown W (by simp)) (fun _ h=>h.elim);have f1:Hid (g.heap[w.heap.size]?=some (.cells (bZ (zs++[165,165])).toArray 5 (0,0))):=(N.out.block _ (by omega) a7).trans b8.out;have X:Hid (g.heap[b]?=some (.cells (bU p (.slice (some ⟨f,0,none⟩) 1 H) (.slice none 0 0) m o) 94 (0,0))):=(W.block _ (by omega) (by simp)).trans c4.out;have f2:Hid (g.cell? ⟨f,0,none⟩=some (.slice (some ⟨w.heap.size,0,none⟩) (n+2) (n+2))):=(World.cell?_of_block (N.out.block f (by omega) (by rw[c0.out];omega))).trans e3.out;have f3:=aI (Ax c5);have f4:Hid (aH (·=b) w g):=aH.trans (S:=(·=b)) (aH.ofBelow b9.out) N.out (fun i j=>.inl j);have g3:=aJ X.out 6;have g4:g.cell? ⟨b,6,none⟩=some (.slice none 0 0):=aD X.out;clear c5 V c6 W e4 e5 e6 e7 z c4 b8 b9 c3 N J;go_wp2
 go_ret
 have g5:=c0.out;have g6:=f0.out;refine⟨w.heap.size,f,H,r,e9,rfl,Nat.le_refl _,by omega,by omega,?_,?_,?_,aK X.out 6 _,aH.trans (S:=(·=b)) (T:=(·=b)) f4.out (aH.ofSet g b 6 _ rfl) (fun i j=>.inl j)⟩
 ·rw[Below.heap_setCell _ _ _ _ (by exact a7)];exact f1.out
 ·rw[World.cell?_of_block (w:=g) (Below.heap_setCell _ _ _ _ (by show ¬f=b;omega))];exact f2.out
 ·rw[World.cell?_of_block (w:=g) (Below.heap_setCell _ _ _ _ (by show ¬r=b;omega))];exact f3.out
end
section
open Go.RowKit
def tI(zs:List Int):ByteArray:=zs.foldl (fun r n=>r.push (UInt8.ofNat n.toNat)) ByteArray.empty
theorem Fc(w:World)(b:Option Addr)(n cap:Nat)(zs:List Int)(h:gV w b n cap zs):(convert 22 9 (.slice b n cap)).run Tryz.prog w=.ok (.string (tI zs)) w:=by
 rw[run_convert_bytes_string w 22 9 5 b n cap Tryz.underlying22 Tryz.underlying5 Tryz.underlying9];cases b with
 | none=>
  have f:=h.none rfl;have c:n=0:=by have:=h.cap1;omega
  have d:zs=[]:=List.eq_nil_of_length_eq_zero (by rw[h.len,c]);subst d;unfold Conv.bytesToString;simp[Sem.run_pure,tI]
 | some ad=>
  refine run_bytesToString w ad n cap zs ?_;have:=run_loadCells_list (P:=Tryz.prog) (w:=w) ad (bZ zs) (h.cells ad rfl);rw[bX,h.len]at this;exact this
theorem gV.drewN{w:World}{b:Option Addr}{n cap:Nat}{zs:List Int}(h:gV w b n cap zs)(k:Nat):gV (w.drewN k) b n cap zs:=⟨h.len,h.cap1,h.cap2,h.bytes,h.none,h.cells,h.lt⟩
theorem Ei(p:Nat→Value)(b x c c1 d c2:Nat)(u:Int)(v:Nat→Value)(J:Option Addr)(n cap:Nat)(zs:List Int)(w:World)
 (N:w.heap[b]?=some (.cells (bU p (.slice (some ⟨c,0,none⟩) 1 c1) (.slice (some ⟨d,0,none⟩) 1 c2) u v) 94 (0,0))) (y:gV w J n cap zs)
 (O:w.heap[x]?=some (.cells (bZ (zs++[165,165])).toArray 5 (0,0))) (z:w.cell? ⟨c,0,none⟩=some (.slice (some ⟨x,0,none⟩) (n+2) (n+2))) (B:w.cell? ⟨d,0,none⟩=some (.slice J n cap)) (X:x≠b) (a8:n≤140737488351232):
 Calls Tryz.prog 59 #[.pointer (some ⟨b,5,none⟩)] w fun e w'=>e=.returned (.bool true)∧w'.heap[b]?=some (.cells (bU p (.slice none 0 0) (.slice none 0 0) u v) 94 (0,0))∧aH (fun k=>k=b∨k=x) w w':=by
 have a9:(n:Int)≤140737488351232:=by omega
 have b0:(0:Int)≤(n:Int):=by omega
 have f:=y.len;have j:=aI O;have D:=aI N;have Y:n<(zs++[165,165]:List Int).length∧n+1<(zs++[165,165]:List Int).length:=by simp[f]
 have Z:Hid (gV w (some ⟨x,0,none⟩) n (n+2) zs):=by
  refine⟨f,by omega,by omega,y.bytes,fun h=>by simp at h,?_,?_⟩
  ·intro ad e P a0 Q;obtain rfl:ad=⟨x,0,none⟩:=by simpa using e.symm
   refine World.news_of_block j.out P a0 ?_;have a1:P<(bZ zs).length:=(List.getElem?_eq_some_iff.1 Q).1;simp only[iQ];rw[List.getElem?_append_left a1];exact Q
  ·intro ad e _;obtain rfl:ad=⟨x,0,none⟩:=by simpa using e.symm
   rcases Nat.lt_or_ge x w.heap.size with h| h
   ·exact h
   ·exact absurd j.out (by rw[Array.getElem?_eq_none h];simp)
 have l:∀nq,(convert 22 9 (.slice (some ⟨x,0,none⟩) n (n+2))).run Tryz.prog (w.drewN nq)=.ok (.string (tI zs)) (w.drewN nq):=fun nq=>Fc _ _ _ _ _ (Z.out.drewN nq)
 have m:∀nq,(convert 22 9 (.slice J n cap)).run Tryz.prog (w.drewN nq)=.ok (.string (tI zs)) (w.drewN nq):=fun nq=>Fc _ _ _ _ _ (y.drewN nq)
 have E:w.cell? ⟨x,n,none⟩=some (.int .u8 165):=by
  rw[cell_of_row _ _ _ _ _ _ j.out];simp[bZ,←f]
 have F:w.cell? ⟨x,n+1,none⟩=some (.int .u8 165):=by
  rw[cell_of_row _ _ _ _ _ _ j.out];simp[bZ,←f]
 have G:w.cell? ⟨b,5,none⟩=some (.slice (some ⟨c,0,none⟩) 1 c1):=aD D.out;have H:w.cell? ⟨b,6,none⟩=some (.slice (some ⟨d,0,none⟩) 1 c2):=aD D.out;have I:=aI (And.intro G (And.intro H (And.intro z (And.intro B (And.intro E (And.intro F (And.intro l m)))))));have a2:=aI f;generalize tI zs=S at l m I;clear N O y f G H z B E F l m Y
 go_enter Tryz.func59,Tryz.ntmps59
 go_wp2
 go_loopw [3,4] (fun t i wr=>t=.bool true∧((i=.int .i64 0∧wr=w)∨(i=.int .i64 1∧wr.heap[b]?=some (.cells (bU p (.slice (some ⟨c,0,none⟩) 1 c1) (.slice (some ⟨d,0,none⟩) 1 c2) u v) 94 (0,0))∧aH (fun k=>k=b∨k=x) w wr)))
  (fun _ i _=>1-(intOf i).toNat)
 case atStart=>exact⟨rfl,.inl ⟨rfl,rfl⟩⟩
 case round=>
  obtain⟨rfl,⟨rfl,R⟩| ⟨rfl,g,o⟩⟩:=hrel
  ·have a3:=R.symm;subst a3;clear R;obtain⟨G,H,z,B,E,F,l,m⟩:=I.out;go_wp2
   go_quiet (fail)
   clear G H z B E F l m I;go_wp2
   go_loopw [7] (fun i U=>∃ (k:Nat) (cur:Array Value),k≤n+2∧i=.int .i64 k∧cur.size=n+2∧U.heap[x]?=some (.cells cur 5 (0,0))∧aH (·=x) w U) (fun i _=>n+2-(intOf i).toNat)
   case atStart=>exact⟨0,_,by omega,rfl,by simp[bX,a2.out],j.out,aH.ofDrewN w nq⟩
   case round=>
    obtain⟨k,cur,V,rfl,W,q,o⟩:=hrel;have r:=aI o;clear o
    by_cases a4:k<n+2
    ·have b1:wr.cell? ⟨x,k,none⟩=some (cur[k]'(by omega)):=by rw[cell_of_row _ _ _ _ _ _ q];simp[W,a4]
     have ff:=aJ q k;have a5:=aI q;clear q;go_wp2
     go_roundw
     case rel=>exact⟨k+1,_,by omega,by go_num,by simp[W],aK a5.out k _,aH.trans (T:=(·=x)) r.out (aH.ofSet wr x k _ rfl) (fun i s=>.inl s)⟩
     case measure=>simp[intOf];omega
    ·have a6:Hid (wr.heap[b]?=some (.cells (bU p (.slice (some ⟨c,0,none⟩) 1 c1) (.slice (some ⟨d,0,none⟩) 1 c2) u v) 94 (0,0))):=(r.out.block b (lt_of_block D.out) (fun h=>X h.symm)).trans D.out;clear q;go_wp2
     go_roundw
     case rel=>exact⟨rfl,.inr ⟨rfl,a6.out,r.out.mono (fun k V=>.inr V)⟩⟩
     case measure=>simp[intOf]
  ·have b2:wr.cell? ⟨b,5,none⟩=some (.slice (some ⟨c,0,none⟩) 1 c1):=aD g;have b3:wr.cell? ⟨b,6,none⟩=some (.slice (some ⟨d,0,none⟩) 1 c2):=aD g;have b4:=aJ g 5;have b5:=aJ g 6;have a7:=aI g;have r:=aI o;clear g o I;go_wp2
   go_ret
   exact⟨rfl,aK (aK a7.out 5 _) 6 _,aH.trans (T:=(·=b)) (aH.trans (T:=(·=b)) r.out (aH.ofSet wr b 5 _ rfl) (fun i s=>.inl (.inl s))) (aH.ofSet _ b 6 _ rfl) (fun i s=>.inl (.inl s))⟩
end
section
open Go.RowKit
structure eI where
 v:Value
 mark:Int
structure Hb(eB eM:TypeId)(mv:Int→Value)(C:World→eI→Prop)(a:Nat)(L:Nat→Nat)(base:Nat)(vB vM:Value)(A M:List eI)(w:World):Prop where
 own:w.ownsRow base eB 1 vB A.length (A.map eI.v)
 lab:∀b,vB.ownBlock=some b→L b=a+1
 ownM:w.ownsRow base eM 1 vM M.length (M.map fun k=>mv k.mark)
 labM:∀b,vM.ownBlock=some b→L b=a+2
 kept:∀k∈A,(∀b,k.v.ownBlock=some b→L b=a+3∧base≤b∧b<w.heap.size)∧C w k
def Kr(C:World→eI→Prop):Prop:=∀ (w w':World) (k:eI),(∀b,k.v.ownBlock=some b→w'.heap[b]?=w.heap[b]?)→C w k→C w' k
theorem tA{w w':World}{base:Nat}{e:TypeId}{v:Value}{n:Nat}{d:List Value}(h:w.ownsRow base e 1 v n d)(j:∀b,v.ownBlock=some b→w'.heap[b]?=w.heap[b]?):w'.ownsRow base e 1 v n d:=by
 obtain⟨f,c⟩:=h;rcases c with c| ⟨g,cap,cur,i,k,l,r⟩
 ·exact⟨f,.inl c⟩
 ·exact⟨f,.inr ⟨g,cap,cur,i,k,by rw[j g (by rw[i];rfl)];exact l,r⟩⟩
variable {eB eM:TypeId} {mv:Int→Value} {C:World→eI→Prop} {a:Nat} {L L':Nat→Nat} {base:Nat} {vB vM:Value} {A M:List eI} {w w':World}
theorem Hb.touch{S:Nat→Prop}(h:Hb eB eM mv C a L base vB vM A M w)(f:Kr C)(t:aH S w w')(g:∀k,k<w.heap.size→S k→L k≤a∨a+3<L k):Hb eB eM mv C a L base vB vM A M w':=by
 have same:∀b,b<w.heap.size→(L b=a+1∨L b=a+2∨L b=a+3)→w'.heap[b]?=w.heap[b]?:=fun b d m=>t.block b d (fun i=>by have:=g b d i;omega)
 refine⟨tA h.own fun b e=>same b (h.own.lt b e).2 (.inl (h.lab b e)),h.lab,tA h.ownM fun b e=>same b (h.ownM.lt b e).2 (.inr (.inl (h.labM b e))),h.labM,?_⟩;intro k j;obtain⟨c,l⟩:=h.kept k j;refine⟨fun b e=>⟨(c b e).1,(c b e).2.1,Nat.lt_of_lt_of_le (c b e).2.2 t.size⟩,f w w' k (fun b e=>same b (c b e).2.2 (.inr (.inr (c b e).1))) l⟩
theorem Hb.relabel(h:Hb eB eM mv C a L base vB vM A M w)(c:∀k,k<w.heap.size→L' k=L k):Hb eB eM mv C a L' base vB vM A M w:=
 ⟨h.own,fun b e=>by rw[c b (h.own.lt b e).2];exact h.lab b e,h.ownM,fun b e=>by rw[c b (h.ownM.lt b e).2];exact h.labM b e,
  fun k d=>⟨fun b e=>by rw[c b ((h.kept k d).1 b e).2.2];exact(h.kept k d).1 b e,(h.kept k d).2⟩⟩
theorem Hb.more{c:World}{o:Obj}{g cap:Nat}{k0:eI}(h:Hb eB eM mv C a L base vB vM A M w)(l:Kr C)
 (m:(∀b,k0.v.ownBlock=some b→L b=a+3∧base≤b∧b<w.heap.size)∧C w k0)
 (n:c.ownsRow base eB 1 (.slice (some ⟨g,0,none⟩) (A.length+1) cap) (A.length+1) (A.map eI.v++[k0.v])) (j:(w.alloc o).grownBy c vB.ownBlock) (f:vB.ownBlock=some g∨g=w.heap.size+1):
 ∃L',(∀k,k<w.heap.size→L' k=L k)∧Hb eB eM mv C a L' base (.slice (some ⟨g,0,none⟩) (A.length+1) cap) vM (A++[k0]) M c∧aH (fun k=>L k=a+1) w c:=by
 have t:aH (fun k=>L k=a+1) w c:=aH.ofGrown (aZ j) (fun k e=>.inl (h.lab k e));have p:w.heap.size<c.heap.size:=by have:=j.size;simp at this;omega
 refine⟨fun k=>if k<w.heap.size then L k else a+1,fun k d=>by simp[d],?_,t⟩;have same:∀b,b<w.heap.size→(L b=a+2∨L b=a+3)→c.heap[b]?=w.heap[b]?:=fun b q r=>t.block b q (fun p=>by omega)
 refine⟨by simpa using n,?_,tA h.ownM fun b e=>same b (h.ownM.lt b e).2 (.inl (h.labM b e)),fun b e=>by simp only[(h.ownM.lt b e).2,if_true];exact h.labM b e,?_⟩
 ·intro b e;simp[Value.ownBlock]at e;subst e;rcases f with f| f
  ·simp only[(h.own.lt g f).2,if_true];exact h.lab g f
  ·rw[if_neg (by omega)]
 ·intro k d;have i:(∀b,k.v.ownBlock=some b→L b=a+3∧base≤b∧b<w.heap.size)∧C w k:=by
   rcases List.mem_append.1 d with d| d
   ·exact h.kept k d
   ·simp at d;subst d;exact m
  refine⟨fun b e=>?_,l w c k (fun b e=>same b (i.1 b e).2.2 (.inr (i.1 b e).1)) i.2⟩;have:=i.1 b e;exact⟨by simp only[this.2.2,if_true];exact this.1,this.2.1,by omega⟩
theorem Hb.moreM{c:World}{o:Obj}{g cap:Nat}{k0:eI}(h:Hb eB eM mv C a L base vB vM A M w)(l:Kr C)
 (m:c.ownsRow base eM 1 (.slice (some ⟨g,0,none⟩) (M.length+1) cap) (M.length+1) ((M.map fun k=>mv k.mark)++[mv k0.mark])) (j:(w.alloc o).grownBy c vM.ownBlock) (d:vM.ownBlock=some g∨g=w.heap.size+1):
 ∃L',(∀k,k<w.heap.size→L' k=L k)∧Hb eB eM mv C a L' base vB (.slice (some ⟨g,0,none⟩) (M.length+1) cap) A (M++[k0]) c∧aH (fun k=>L k=a+2) w c:=by
 have t:aH (fun k=>L k=a+2) w c:=aH.ofGrown (aZ j) (fun k e=>.inl (h.labM k e));have n:w.heap.size<c.heap.size:=by have:=j.size;simp at this;omega
 refine⟨fun k=>if k<w.heap.size then L k else a+2,fun k f=>by simp[f],?_,t⟩;have same:∀b,b<w.heap.size→(L b=a+1∨L b=a+3)→c.heap[b]?=w.heap[b]?:=fun b p r=>t.block b p (fun n=>by omega)
 refine⟨tA h.own fun b e=>same b (h.own.lt b e).2 (.inl (h.lab b e)),fun b e=>by simp only[(h.own.lt b e).2,if_true];exact h.lab b e,by simpa using m,?_,?_⟩
 ·intro b e;simp[Value.ownBlock]at e;subst e;rcases d with d| d
  ·simp only[(h.ownM.lt g d).2,if_true];exact h.labM g d
  ·rw[if_neg (by omega)]
 ·intro k f;obtain⟨i,q⟩:=h.kept k f;refine⟨fun b e=>?_,l w c k (fun b e=>same b (i b e).2.2 (.inr (i b e).1)) q⟩;have:=i b e;exact⟨by simp only[this.2.2,if_true];exact this.1,this.2.1,by omega⟩
end
end Go.Proofs.YtnjlbgolnbdkaaaGreat
