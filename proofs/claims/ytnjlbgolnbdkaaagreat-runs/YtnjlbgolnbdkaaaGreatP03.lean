/- All, with short names -/
import Derived.Test.YtnjlbgolnbdkaaaGreatP02
import Derived.Deep.RegionWith
import Derived.Deep.CutRange
import Derived.OpenShut
import Derived.Laws.CopyOwn
set_option maxRecDepth 100000
set_option maxHeartbeats 16000000
namespace Go.Proofs.YtnjlbgolnbdkaaaGreat
open Go Go.RowKit
theorem pY{w:World}{d:Option Addr}{n cap:Nat}{zs:List Int}(h:gV w d n cap zs)(f:0<n):∃b c,d=some ⟨b,c,none⟩∧jG w b c zs:=by
 cases d with
 | none=>have:=h.none rfl;have:=h.cap1;omega
 | some ad=>
  obtain⟨b,c,rfl,g⟩:=ints_at (w:=w) (a:=ad) (k:=.u8) (zs:=zs) (fun i j=>h.cells ad rfl i _ (by simp[bZ,List.getD_eq_getElem?_getD,List.getElem?_eq_getElem j])) (by rw[h.len];exact f);exact⟨b,c,rfl,g⟩
theorem aN{w:World}{b o:Nat}{v:Value}(h:w.cell? ⟨b,o,none⟩=some v):b<w.heap.size:=by
 rcases Nat.lt_or_ge b w.heap.size with a| a
 ·exact a
 ·simp[World.cell?,Array.getElem?_eq_none a]at h
theorem Ln{w:World}{x n:Nat}{zs:List Int}(a:w.heap[x]?=some (.cells (bZ (zs++[165,165])).toArray 5 (0,0)))(d:zs.length=n)(f:cT zs)(j:n≤140737488351232):gV w (some ⟨x,0,none⟩) n (n+2) zs:=by
 refine⟨d,by omega,by omega,f,fun h=>by simp at h,?_,?_⟩
 ·intro ad e b g c;obtain rfl:ad=⟨x,0,none⟩:=by simpa using e.symm
  refine World.news_of_block a b g ?_;have i:b<(bZ zs).length:=(List.getElem?_eq_some_iff.1 c).1;simp only[iQ];rw[List.getElem?_append_left i];exact c
 ·intro ad e _;obtain rfl:ad=⟨x,0,none⟩:=by simpa using e.symm
  exact lt_of_block a
def uX(a:Value)(r:Rd):Obj:=.cells #[a,.int .i64 r.pos,.int .i64 r.err,.int .i64 r.pl] 230 (0,0)
structure nY(rb:Nat)(ao:Option Addr)(n cap:Nat)(zs:List Int)(r:Rd)(w:World):Prop where
 obj:w.heap[rb]?=some (uX (.slice ao n cap) r)
 held:gV w ao n cap zs
 apart:∀ad,ao=some ad→0<n→ad.block≠rb
 small:n≤140737488351232
 pos:r.pos≤n
theorem nY.touch{a:Nat}{c:Option Addr}{n cap:Nat}{zs:List Int}{r:Rd}{w w':World}(h:nY a c n cap zs r w){B:Nat}(b:Below B w w')(d:a<B)(f:∀ad,c=some ad→0<n→ad.block<B):nY a c n cap zs r w':=
 ⟨(b.block a d).trans h.obj,h.held.touch (S:=fun k=>B≤k) ⟨b.os,b.tape,b.output,b.size,fun k _ g=>b.block k (by omega)⟩ (fun ad e i g=>by have:=f ad e i;omega),h.apart,h.small,h.pos⟩
theorem eJ(c:Nat)(m:Option Addr)(n cap:Nat)(zs:List Int)(r:Rd)(f d:Int)(w:World)(h:nY c m n cap zs r w):
 Calls Tryz.prog 132 #[.pointer (some ⟨c,0,none⟩),.int .i64 f,.int .i64 d] w fun e w'=>e=.returned (.int .i64 (bS zs f d r).1)∧nY c m n cap zs (bS zs f d r).2 w'∧aH (·=c) w w':=by
 have j:=h.obj;have Z:w.cell? ⟨c,0,none⟩=some (.slice m n cap):=aD j;have c1:w.cell? ⟨c,1,none⟩=some (.int .i64 r.pos):=aD j;have c2:w.cell? ⟨c,2,none⟩=some (.int .i64 r.err):=aD j;have a0:w.cell? ⟨c,3,none⟩=some (.int .i64 r.pl):=aD j;have a1:=aJ j 1;have a2:=aJ j 2;have a3:=aJ j 3;have u:=h.held.len;have D:=h.pos;have a4:=h.small;have a5:(0:Int)≤(n:Int):=by omega
 have l:=aI h
 -- how a reader that has iU stands behind two stores
 have A:Hid (∀ (B:Rd) (w':World),w'.heap[c]?=some (uX (.slice m n cap) B)→aH (·=c) w w'→B.pos≤n→nY c m n cap zs B w'):=fun B w' N O P=>⟨N,l.out.held.touch O (fun ad e Q R=>l.out.apart ad e Q R),l.out.apart,l.out.small,P⟩
 have p:Hid (∀nq o v E F,aH (·=c) w (((w.drewN nq).setCell ⟨c,o,none⟩ v).setCell ⟨c,E,none⟩ F)):=fun nq o v E F=>aH.trans (T:=(·=c)) (aH.trans (T:=(·=c)) (aH.ofDrewN w nq) (aH.ofSet _ c o v rfl) (fun i d=>.inl d)) (aH.ofSet _ c E F rfl) (fun i d=>.inl d)
 have G:Hid (∀nq o v,aH (·=c) w ((w.drewN nq).setCell ⟨c,o,none⟩ v)):=fun nq o v=>aH.trans (T:=(·=c)) (aH.ofDrewN w nq) (aH.ofSet _ c o v rfl) (fun i d=>.inl d)
 have C:=aI j;clear h j
 by_cases g:r.err=0
 ·have S:(r.err != 0)=false:=by simp[g]
  by_cases q:zs.length≤r.pos
  ·have k:Hid (bS zs f d r=(f,{ r with err:=2,pl:=zs.length })):=by show _=_;unfold bS;rw[if_neg (by simpa using g),if_pos q]
   have U:(n:Int)≤(r.pos:Int):=by omega
   have H:=aI u;clear g q u
   go_enter Tryz.func132,Tryz.ntmps132
   go_wp2
   go_quiet (fail)
   go_wp2
   go_ret
   rw[k.out];refine⟨rfl,A.out _ _ ?_ (p.out _ _ _ _ _) D,p.out _ _ _ _ _⟩;rw[aK (aK (w:=w.drewN nq) C.out 2 _) 3 _,H.out];rfl
  ·have U:(r.pos:Int)<(n:Int):=by omega
   obtain⟨ad,b,x,y,V,I⟩:∃ad b x,m=some ad∧(ad=⟨b,x,none⟩∧w.cell? ⟨b,x+r.pos,none⟩=some (.int .u8 (zs.getD r.pos 0)))∧(0≤zs.getD r.pos 0∧zs.getD r.pos 0<256):=by
    obtain⟨b,x,y,W⟩:=pY l.out.held (by omega);exact⟨_,b,x,y,⟨rfl,W r.pos (by omega)⟩,l.out.held.bytes.getD r.pos⟩
   obtain⟨rfl,J⟩:=V
   by_cases s:zs.getD r.pos 0<f∨d<zs.getD r.pos 0
   ·have k:Hid (bS zs f d r=(f,{ r with err:=3,pl:=r.pos })):=by show _=_;unfold bS;rw[if_neg (by simpa using g),if_neg q,if_pos s]
    have H:=aI u;have X:=aI y;subst y;clear g q u X;generalize zs.getD r.pos 0=z at J I s
    by_cases L:z<f
    ·clear s
     go_enter Tryz.func132,Tryz.ntmps132
     go_wp2
     go_quiet (fail)
     go_wp2
     go_quiet (fail)
     go_wp2
     go_ret
     rw[k.out];refine⟨rfl,A.out _ _ ?_ (p.out _ _ _ _ _) D,p.out _ _ _ _ _⟩;rw[aK (aK (w:=w.drewN _) C.out 2 _) 3 _];rfl
    ·have M:d<z:=by omega
     clear s
     go_enter Tryz.func132,Tryz.ntmps132
     go_wp2
     go_quiet (fail)
     go_wp2
     go_quiet (fail)
     go_wp2
     go_ret
     rw[k.out];refine⟨rfl,A.out _ _ ?_ (p.out _ _ _ _ _) D,p.out _ _ _ _ _⟩;rw[aK (aK (w:=w.drewN _) C.out 2 _) 3 _];rfl
   ·have k:Hid (bS zs f d r=(zs.getD r.pos 0,{ r with pos:=r.pos+1 })):=by show _=_;unfold bS;rw[if_neg (by simpa using g),if_neg q,if_neg s]
    have Y:r.pos+1≤n:=by omega
    subst y;have L:¬zs.getD r.pos 0<f:=by omega
    have M:¬d<zs.getD r.pos 0:=by omega
    clear g q u s;generalize zs.getD r.pos 0=z at J I L M k
    go_enter Tryz.func132,Tryz.ntmps132
    go_wp2
    go_quiet (fail)
    go_wp2
    go_quiet (fail)
    go_wp2
    go_ret
    rw[k.out];refine⟨rfl,A.out _ _ ?_ (G.out _ _ _) Y,G.out _ _ _⟩;rw[aK (w:=w.drewN _) C.out 1 _];rfl
 ·have S:(r.err != 0)=true:=by simpa using g
  have k:Hid (bS zs f d r=(f,r)):=by show _=_;unfold bS;rw[if_pos g]
  clear g
  go_enter Tryz.func132,Tryz.ntmps132
  go_wp2
  go_ret
  rw[k.out];exact⟨rfl,l.out,aH.refl _ _⟩
theorem Ck(a:Nat)(k:Option Addr)(n cap:Nat)(zs:List Int)(r:Rd)(v b:Int)(w:World)(h:nY a k n cap zs r w):
 Calls Tryz.prog 134 #[.pointer (some ⟨a,0,none⟩),.int .i64 v,.int .i64 b] w fun e w'=>e=.returned (.tuple #[])∧nY a k n cap zs (gN v b r) w'∧aH (·=a) w w':=by
 have c:=h.obj;have c1:w.cell? ⟨a,1,none⟩=some (.int .i64 r.pos):=aD c;have c2:w.cell? ⟨a,2,none⟩=some (.int .i64 r.err):=aD c;have y:w.cell? ⟨a,3,none⟩=some (.int .i64 r.pl):=aD c;have z:=aJ c 2;have A:=aJ c 3;have l:=h.pos;have m:=h.small;have g:=aI h;have o:=aI c;clear h c
 by_cases d:r.err=0
 ·have p:(r.err == 0)=true:=by simp[d]
  by_cases f:v=b
  ·have j:Hid (gN v b r={ r with err:=3,pl:=(r.pos:Int)-1 }):=by show _=_;unfold gN;rw[if_pos ⟨d,f⟩]
   have q:(v == b)=true:=by simp[f]
   clear d f
   go_enter Tryz.func134,Tryz.ntmps134
   go_wp2
   go_end0
   rw[j.out];have t:aH (·=a) w ((w.setCell ⟨a,2,none⟩ (.int .i64 3)).setCell ⟨a,3,none⟩ (.int .i64 ((r.pos:Int)-1))):=aH.trans (T:=(·=a)) (aH.ofSet w a 2 _ rfl) (aH.ofSet _ a 3 _ rfl) (fun i s=>.inl s);refine⟨rfl,⟨?_,g.out.held.touch t (fun ad e u x=>g.out.apart ad e u x),g.out.apart,m,l⟩,t⟩;rw[aK (aK o.out 2 _) 3 _];rfl
  ·have j:Hid (gN v b r=r):=by show _=_;unfold gN;rw[if_neg (fun h=>f h.2)]
   have q:(v == b)=false:=by simpa using f
   clear d f
   go_enter Tryz.func134,Tryz.ntmps134
   go_wp2
   go_end0
   rw[j.out];exact⟨rfl,g.out,aH.refl _ _⟩
 ·have j:Hid (gN v b r=r):=by show _=_;unfold gN;rw[if_neg (fun h=>d h.1)]
  have p:(r.err == 0)=false:=by simpa using d
  clear d
  go_enter Tryz.func134,Tryz.ntmps134
  go_wp2
  go_end0
  rw[j.out];exact⟨rfl,g.out,aH.refl _ _⟩
theorem Tryz.info210:(Tryz.prog.info? 210).map (fun i=>(i.zero,i.size,i.bytes))=some (some (.agg #[.int .i64 0,.int .i64 0]),2,16):=by kernel_rfl
def iJ(code:List (Int×Int)):List Value:=code.flatMap fun c=>[.int .i64 c.1,.int .i64 c.2]
theorem rS(code:List (Int×Int))(c:Int×Int):iJ (code++[c])=iJ code++[.int .i64 c.1,.int .i64 c.2]:=by simp[iJ]
def iV(base:Nat)(v:Value)(code:List (Int×Int))(w:World):Prop:=w.ownsRow base 210 2 v code.length (iJ code)
theorem aO{w w':World}{base:Nat}{e:TypeId}{size:Nat}{v:Value}{n:Nat}{c:List Value}(h:w.ownsRow base e size v n c)(i:∀b,v.ownBlock=some b→w'.heap[b]?=w.heap[b]?):w'.ownsRow base e size v n c:=by
 obtain⟨d,a⟩:=h;rcases a with a| ⟨g,cap,cur,f,j,k,r⟩
 ·exact⟨d,.inl a⟩
 ·exact⟨d,.inr ⟨g,cap,cur,f,j,by rw[i g (by rw[f];rfl)];exact k,r⟩⟩
theorem oM(c:List Value)(h:∀b∈c,∃k a,b=.int k a):∀b∈c,b.oneCell'=true:=by
 intro b d;obtain⟨k,a,rfl⟩:=h b d;rfl
theorem lO{α:Type}(f:Rd→α×Rd)(k:Nat)(r:Rd):(bH f k r).1.length≤k:=by
 induction k with
 | zero=>simp[bH]
 | succ k ih=>
  show((if(bH f k r).2.err≠0 then _ else _):List α×Rd).1.length≤k+1
  split
  ·omega
  ·simp;omega
theorem Gx(f:Nat)(m:Option Addr)(n cap:Nat)(zs:List Int)(r:Rd)(w:World)(h:nY f m n cap zs r w):
 Calls Tryz.prog 175 #[.pointer (some ⟨f,0,none⟩)] w fun e w'=>∃v,e=.returned (.agg #[.int .i64 (eS zs r).1.prio,v])∧iV w.heap.size v (eS zs r).1.code w'∧nY f m n cap zs (eS zs r).2 w'∧aH (·=f) w w':=by
 obtain⟨e1,j,e2,e3,e4⟩:=info_parts Tryz.info210;have e5:=lt_of_block h.obj;have b1:∀ad,m=some ad→0<n→ad.block<w.heap.size:=h.held.lt;have a1:=aI b1;have e6:=aI h;clear h b1;have e7:Hid (eS zs r=(⟨(bS zs 0 9 r).1,(bH (iY zs (bS zs 1 20 (bS zs 0 9 r).2).1) (bS zs 1 20 (bS zs 0 9 r).2).1.toNat (bS zs 1 20 (bS zs 0 9 r).2).2).1⟩,(bH (iY zs (bS zs 1 20 (bS zs 0 9 r).2).1) (bS zs 1 20 (bS zs 0 9 r).2).1.toNat (bS zs 1 20 (bS zs 0 9 r).2).2).2)):=rfl
 go_enter Tryz.func175,Tryz.ntmps175
 go_wp2_with fail
 have A:nY f m n cap zs r (w.alloc (.cells #[.int .i64 0,.slice none 0 0] 190)):=e6.out.touch (B:=w.heap.size) (aG _ _) e5 a1.out;refine(eJ f m n cap zs r 0 9 _ A).mono ?_;rintro e d ⟨rfl,b2,a2⟩;have h3:w.heap.size+1≤d.heap.size:=by have:=a2.size;simp at this;exact this
 have c4:d.heap[w.heap.size]?=some (.cells #[.int .i64 0,.slice none 0 0] 190 (0,0)):=(a2.block _ (by simp) (by omega)).trans (heap_alloc_new w _);have c5:aH (·=f) w d:=aH.trans (T:=(·=f)) (aH.ofBelow (aG _ _)) a2 (fun i j=>.inl j);have c6:∀ad,m=some ad→0<n→ad.block<d.heap.size:=b2.held.lt;generalize b3:(bS zs 0 9 r).1=prio at *;generalize b4:(bS zs 0 9 r).2=r1 at *;have u:nY f m n cap zs r1 (d.alloc (.cells #[.int .i64 prio,.slice none 0 0] 190)):=b2.touch (B:=d.heap.size) (aG _ _) (by omega) c6;have J:=aI (eJ f m n cap zs r1 1 20 _ u);have h4:=jF zs 1 20 r1 (by omega);generalize b5:(bS zs 1 20 r1).1=a at *;generalize b6:(bS zs 1 20 r1).2=l at *;have b7:=aI (And.intro c4 c5);have e8:=aI (And.intro b3 (And.intro b4 (And.intro b5 b6)));clear A u b2 a2 c4 c5 c6 b3 b4 b5 b6;go_wp2_with fail
 refine J.out.mono ?_;rintro e a3 ⟨rfl,c7,Q⟩;have h5:d.heap.size+1≤a3.heap.size:=by have:=Q.size;simp at this;exact this
 have c8:a3.heap[d.heap.size]?=some (.cells #[.int .i64 prio,.slice none 0 0] 190 (0,0)):=(Q.block _ (by simp) (by omega)).trans (heap_alloc_new d _);have c9:a3.heap[w.heap.size]?=some (.cells #[.int .i64 0,.slice none 0 0] 190 (0,0)):=(Q.block _ (by simp;omega) (by omega)).trans ((Below.heap_alloc _ _ _ (by omega)).trans b7.out.1);have d0:aH (·=f) w a3:=aH.trans (T:=(·=f)) b7.out.2 (aH.trans (T:=(·=f)) (aH.ofBelow (aG _ _)) Q (fun i j=>.inl j)) (fun i j=>.inl j);have R:=aI (And.intro c8 (And.intro c9 (And.intro d0 c7)));clear c8 c9 d0 c7 Q b7 J;go_wp2
 go_loopw [5] (fun i wr=>∃ (k:Nat) (v:Value),(k:Int)≤a∧i=.int .i64 k∧wr.heap[d.heap.size]?=some (.cells #[.int .i64 prio,v] 190 (0,0))∧wr.heap[w.heap.size]?=some (.cells #[.int .i64 0,.slice none 0 0] 190 (0,0))∧
  iV (d.heap.size+1) v (bH (iY zs a) k l).1 wr∧nY f m n cap zs (bH (iY zs a) k l).2 wr∧aH (·=f) w wr) (fun i _=>a.toNat-(intOf i).toNat)
 case atStart=>exact⟨0,_,by omega,rfl,R.out.1,R.out.2.1,World.ownsRow_nil _ _ _ _,R.out.2.2.2,R.out.2.2.1⟩
 case round=>
  obtain⟨k,v,h6,rfl,L,C,q,o,M⟩:=hrel;have e9:=lO (iY zs a) k l;have c2:wr.cell? ⟨f,2,none⟩=some (.int .i64 (bH (iY zs a) k l).2.err):=aD o.obj;have f0:d.heap.size<wr.heap.size:=lt_of_block L
  by_cases a4:(k:Int)<a∧(bH (iY zs a) k l).2.err=0
  ·obtain⟨b1,D⟩:=a4;have b8:=aI (jP (iY zs a) k l D);have J:=aI (fun f1 j=>eJ f m n cap zs (bH (iY zs a) k l).2 f1 j wr o);have f2:((bH (iY zs a) k l).2.err == 0)=true:=by simp[D]
   have E:=aI (And.intro L (And.intro C (And.intro q M)));clear D L C q o M;generalize bH (iY zs a) k l=S at b8 J f2 E c2 e9;have F:Hid (iY zs a S.2=(((bS zs 0 13 S.2).1,(bS zs 0 (if(bS zs 0 13 S.2).1=4 then a-1 else 255) (bS zs 0 13 S.2).2).1),(bS zs 0 (if(bS zs 0 13 S.2).1=4 then a-1 else 255) (bS zs 0 13 S.2).2).2)):=rfl;have f3:=jF zs 0 13 S.2 (by omega);have a5:=aI (J.out 0 13);generalize (bS zs 0 13 S.2).1=op at F a5 f3;generalize (bS zs 0 13 S.2).2=b9 at F a5;clear J;go_wp2_with fail
   refine a5.out.mono ?_;rintro e f4 ⟨rfl,d1,c0⟩;have d2:=aI (fun j=>eJ f m n cap zs b9 0 j f4 d1);have f5:=aI c0;have h7:=c0.size;clear d1 c0 a5;obtain⟨G,a6⟩:∃G,G=(if op=4 then a-1 else 255):=⟨_,rfl⟩;rw[←a6]at F;have U:=aI (d2.out G);generalize f6:(bS zs 0 G b9).1=d3 at F U;generalize f7:(bS zs 0 G b9).2=f8 at F U;clear d2 f6 f7;have f9:((op == 4)=true∧G=a-1)∨((op == 4)=false∧G=255):=by
    by_cases a7:op=4
    ·exact .inl ⟨by simp[a7],by rw[a6,if_pos a7]⟩
    ·exact .inr ⟨by simpa using a7,by rw[a6,if_neg a7]⟩
   clear a6;rcases f9 with⟨g0,c1⟩| ⟨g0,c1⟩
   all_goals
    rw[c1]at U;clear c1;go_wp2_with fail
    refine U.out.mono ?_;rintro e x ⟨rfl,V,c3⟩;have h8:=c3.size;have y:aH (·=f) wr x:=aH.trans (T:=(·=f)) f5.out c3 (fun i j=>.inl j);have N:x.heap[d.heap.size]?=some (.cells #[.int .i64 prio,v] 190 (0,0)):=(y.block _ f0 (by omega)).trans E.out.1;have W:x.heap[w.heap.size]?=some (.cells #[.int .i64 0,.slice none 0 0] 190 (0,0)):=(y.block _ (by omega) (by omega)).trans E.out.2.1;have O:x.ownsRow (d.heap.size+1) 210 2 v S.1.length (iJ S.1):=aO E.out.2.2.1 (fun b e=>y.block b (World.ownsRow.lt E.out.2.2.1 b e).2 (by have:=(World.ownsRow.lt E.out.2.2.1 b e).1;omega));have g1:x.cell? ⟨d.heap.size,1,none⟩=some v:=aD N;have d4:=aI O;have d5:=aI (And.intro N (And.intro W (And.intro y (And.intro V O))));clear N W y V O c3 U;go_wp2_with (at_builtin;go_must (refine wpList_append_lies _ rfl (.tmp 36) (.tmp 40) 162 rfl (d.heap.size+1) 210 e1 (.agg #[.int .i64 0,.int .i64 0]) 2 16 Tryz.underlying162 j e2 e3 e4 rfl (by decide) v S.1.length (iJ S.1) rfl (d4.out.alloc _) ⟨x.heap.size,0,none⟩ 1 1 [.int .i64 op,.int .i64 d3] (by rfl) rfl (dA x #[.int .i64 op,.int .i64 d3] 210) (by intro h9 d6;simp at d6;rcases d6 with rfl| rfl<;>rfl) (by omega) (by unfold maxLen;omega) (by omega) (by simp;omega) _ rfl ?_))
    intro g c s X d7 _ _;obtain⟨N,W,y,V,O⟩:=d5.out;have Y:=aZ d7;have a8:∀b,v.ownBlock=some b→d.heap.size+1≤b:=fun b e=>(World.ownsRow.lt O b e).1
    have P:s.heap[d.heap.size]?=some (.cells #[.int .i64 prio,v] 190 (0,0)):=(Y.block _ (by omega) (fun e=>by have:=a8 _ e.symm;omega)).trans N;have a9:s.heap[w.heap.size]?=some (.cells #[.int .i64 0,.slice none 0 0] 190 (0,0)):=(Y.block _ (by omega) (fun e=>by have:=a8 _ e.symm;omega)).trans W;have H:Below (d.heap.size+1) x s:=(Below.refl _ _).grown Y (by omega) (fun k e=>a8 k e);have i0:=Y.size;have z:nY f m n cap zs f8 s:=V.touch H (by omega) (fun ad e Z=>by have:=a1.out ad e Z;omega);have i1:s.cell? ⟨d.heap.size,1,none⟩=some v:=aD P;have i2:=aJ P 1;have b0:aH (·=f) w s:=aH.trans (T:=fun k=>d.heap.size+1≤k) (aH.trans (T:=(·=f)) E.out.2.2.2 y (fun i j=>.inl j)) ⟨H.os,H.tape,H.output,H.size,fun k _ h=>H.block k (by omega)⟩ (fun i j=>.inr (by omega));have g2:=aI (And.intro P (And.intro a9 (And.intro z (And.intro b0 X))));clear N W y V O Y a8 P a9 H z b0 X d7 d5 d4 g1;go_wp2
    go_roundw
    case rel=>
     obtain⟨P,a9,z,b0,X⟩:=g2.out;have p:aH (·=d.heap.size) s (s.setCell ⟨d.heap.size,1,none⟩ (.slice (some ⟨g,0,none⟩) (S.1.length+1) c)):=aH.ofSet s _ 1 _ rfl;have g3:=(World.ownsRow.lt X g rfl);refine⟨k+1,_,by omega,by go_num,aK P 1 _,(p.block _ (by omega) (by omega)).trans a9,?_,?_,aH.trans (T:=(·=d.heap.size)) b0 p (fun i j=>.inr (by omega))⟩
     ·rw[b8.out,F.out];show World.ownsRow _ _ _ _ _ _ _
      rw[rS,List.length_append];exact aO X (fun b e=>by simp[Value.ownBlock]at e;subst e;exact p.block g g3.2 (by omega))
     ·rw[b8.out,F.out];exact⟨(p.block f (by omega) (by omega)).trans z.obj,z.held.touch p (fun ad e Z g4=>by have:=a1.out ad e Z;omega),z.apart,z.small,z.pos⟩
    case measure=>simp[intOf];omega
  ·have g5:Hid (bH (iY zs a) a.toNat l=bH (iY zs a) k l):=by
    by_cases I:(k:Int)<a
    ·exact fT (iY zs a) k l (fun D=>a4 ⟨I,D⟩) a.toNat (by omega)
    ·obtain rfl:k=a.toNat:=by omega
     rfl
   have p0:wr.cell? ⟨d.heap.size,0,none⟩=some (.int .i64 prio):=aD L;have p1:wr.cell? ⟨d.heap.size,1,none⟩=some v:=aD L;have g6:wr.cell? ⟨w.heap.size,0,none⟩=some (.int .i64 0):=aD C;have g7:wr.cell? ⟨w.heap.size,1,none⟩=some (.slice none 0 0):=aD C;have i3:=aJ C 0;have i4:=aJ C 1;have g8:=aI (And.intro q (And.intro o M));have d8:Hid (∃ad c,v=.slice ad (bH (iY zs a) k l).1.length c):=by
    rcases q.2 with⟨A,u⟩| ⟨d9,i5,cur,a0,_⟩
    ·exact⟨none,0,by rw[A,u]⟩
    ·exact⟨_,_,a0⟩
   obtain⟨ad,e0,a0⟩:=d8.out;have i6:¬d.heap.size=w.heap.size:=by omega
   have i7:¬w.heap.size=d.heap.size:=by omega
   clear L C q o M d8 R;have g9:((k:Int)<a∧((bH (iY zs a) k l).2.err == 0)=false)∨¬ (k:Int)<a:=by
    by_cases I:(k:Int)<a
    ·exact .inl ⟨I,by simp;exact fun D=>a4 ⟨I,D⟩⟩
    ·exact .inr I
   clear a4;generalize bH (iY zs a) k l=S at *;subst a0;rcases g9 with⟨I,i8⟩| I
   all_goals
    go_wp2
    refine bodyPost_ret (v:=.agg #[.int .i64 prio,.slice ad S.1.length e0]) (by simp[results,Tryz.results175,go_sem,g6,g7]) rfl ?_;obtain⟨q,o,M⟩:=g8.out;obtain⟨b3,b4,b5,b6⟩:=e8.out;have p:aH (·=w.heap.size) wr ((wr.setCell ⟨w.heap.size,0,none⟩ (.int .i64 prio)).setCell ⟨w.heap.size,1,none⟩ (.slice ad S.1.length e0)):=aH.trans (T:=(·=w.heap.size)) (aH.ofSet wr _ 0 _ rfl) (aH.ofSet _ _ 1 _ rfl) (fun i j=>.inl j);have h0:eS zs r=(⟨prio,S.1⟩,S.2):=by rw[e7.out,g5.out]
    rw[h0];refine⟨_,rfl,?_,?_,aH.trans (T:=(·=w.heap.size)) M p (fun i j=>.inr (by omega))⟩
    ·have h1:=aO q (fun b e=>p.block b (World.ownsRow.lt q b e).2 (by have:=(World.ownsRow.lt q b e).1;omega));obtain⟨A,u⟩:=h1;rcases u with u| ⟨d9,cap,cur,a0,i9,h2⟩
     ·exact⟨A,.inl u⟩
     ·exact⟨A,.inr ⟨d9,cap,cur,a0,by omega,h2⟩⟩
    ·exact⟨(p.block f (by omega) (by omega)).trans o.obj,o.held.touch p (fun ad e Z g4=>by have:=a1.out ad e Z;omega),o.apart,o.small,o.pos⟩
section
open Go.RowKit
structure Pt where
 sys:Bool
 words:Int
 limit:Int
 acts:List Int
 procs:List Pr
def tH(zs:List Int)(c:Nat)(r:Rd):Int×Rd:=((bS zs 1 7 r).1,if c=5 then gN (bS zs 1 7 r).1 3 (gN (bS zs 1 7 r).1 2 (bS zs 1 7 r).2)else(bS zs 1 7 r).2)
def cO(zs:List Int):Nat→Rd→List Int×Rd
 | 0,r=>([],r)
 | k+1,r=>((cO zs k r).1++[(tH zs k (cO zs k r).2).1],(tH zs k (cO zs k r).2).2)
def dP(zs:List Int)(r:Rd):Pt×Rd:=
 let r1:=(bS zs 0 1 r).2
 let b:=(bS zs 1 16 r1).2
 let c:=(bS zs 0 9 b).2
 let a:=(cO zs 6 c).2
 let d:=(bS zs 1 2 a).2
 (⟨(bS zs 0 1 r).1 == 1,(bS zs 1 16 r1).1,(bS zs 0 9 b).1,(cO zs 6 c).1,(bH (eS zs) (bS zs 1 2 a).1.toNat d).1⟩,(bH (eS zs) (bS zs 1 2 a).1.toNat d).2)
theorem nZ(zs:List Int)(k:Nat)(r:Rd):(cO zs k r).1.length=k:=by
 induction k with
 | zero=>rfl
 | succ k ih=>show((cO zs k r).1++[_]).length=k+1;simp[ih]
theorem Tryz.info190:(Tryz.prog.info? 190).map (fun i=>(i.zero,i.size,i.bytes))=some (some (.agg #[.int .i64 0,.slice none 0 0]),2,32):=by kernel_rfl
def eV(l:List (Pr×Value)):List Value:=l.flatMap fun p=>[.int .i64 p.1.prio,p.2]
theorem pV(l:List (Pr×Value))(p:Pr×Value):eV (l++[p])=eV l++[.int .i64 p.1.prio,p.2]:=by simp[eV]
def lW(base:Nat)(v:Value)(a:List Pr)(w:World):Prop:=∃l:List (Pr×Value),l.map Prod.fst=a∧w.ownsRow base 190 2 v l.length (eV l)∧∀p∈l,iV base p.2 p.1.code w
theorem iV.keep{base:Nat}{v:Value}{code:List (Int×Int)}{w w':World}(h:iV base v code w)(c:∀b,base≤b→b<w.heap.size→(∃cur,w.heap[b]?=some (.cells cur 210 (0,0)))→w'.heap[b]?=w.heap[b]?):iV base v code w':=by
 refine aO h (fun b e=>?_);have a:=World.ownsRow.lt h b e;refine c b a.1 a.2 ?_;rcases h.2 with⟨d,_⟩| ⟨g,cap,cur,f,_,i,_⟩
 ·rw[d]at e;simp[Value.ownBlock]at e
 ·rw[f]at e;simp[Value.ownBlock]at e;subst e;exact⟨cur,i⟩
theorem iV.base{base base':Nat}{v:Value}{code:List (Int×Int)}{w:World}(h:iV base v code w)(g:base'≤base):iV base' v code w:=by
 obtain⟨b,a⟩:=h;rcases a with a| ⟨c,cap,cur,d,i,f⟩
 ·exact⟨b,.inl a⟩
 ·exact⟨b,.inr ⟨c,cap,cur,d,by omega,f⟩⟩
theorem lW.keep{base:Nat}{v:Value}{d:List Pr}{w w':World}(h:lW base v d w)(f:∀b,base≤b→b<w.heap.size→(∃cur t,(t=210∨t=190)∧w.heap[b]?=some (.cells cur t (0,0)))→w'.heap[b]?=w.heap[b]?):lW base v d w':=by
 obtain⟨l,a,c,j⟩:=h;refine⟨l,a,aO c (fun b e=>?_),fun p k=>(j p k).keep (fun b a c ⟨cur,h⟩=>f b a c ⟨cur,210,.inl rfl,h⟩)⟩;have i:=World.ownsRow.lt c b e;refine f b i.1 i.2 ?_;rcases c.2 with⟨a,_⟩| ⟨g,cap,cur,m,_,o,_⟩
 ·rw[a]at e;simp[Value.ownBlock]at e
 ·rw[m]at e;simp[Value.ownBlock]at e;subst e;exact⟨cur,190,.inr rfl,o⟩
theorem lW.base{base base':Nat}{v:Value}{c:List Pr}{w:World}(h:lW base v c w)(d:base'≤base):lW base' v c w:=by
 obtain⟨l,b,a,f⟩:=h;refine⟨l,b,?_,fun p g=>(f p g).base d⟩;obtain⟨b,a⟩:=a;rcases a with a| ⟨i,cap,cur,j,m,k⟩
 ·exact⟨b,.inl a⟩
 ·exact⟨b,.inr ⟨i,cap,cur,j,by omega,k⟩⟩
def aV(s:Bool)(wd b:Int)(a:Nat→Int)(v:Value):Array Value:=#[.bool s,.int .i64 wd,.int .i64 b,.int .i64 (a 0),.int .i64 (a 1),.int .i64 (a 2),.int .i64 (a 3),.int .i64 (a 4),.int .i64 (a 5),v]
theorem Ou(s:Bool)(wd b:Int)(f g:Nat→Int)(v:Value)(k:Nat)(a:Int)(d:k<6)(c:g k=a)(h:∀i,i≠k→g i=f i):(aV s wd b f v).setIfInBounds (3+k) (.int .i64 a)=aV s wd b g v:=by
 rcases(show k=0∨k=1∨k=2∨k=3∨k=4∨k=5 from by omega)with rfl| rfl| rfl| rfl| rfl| rfl
 ·show _=aV s wd b g v
  unfold aV;rw[c,h 1 (by decide),h 2 (by decide),h 3 (by decide),h 4 (by decide),h 5 (by decide)];rfl
 ·show _=aV s wd b g v
  unfold aV;rw[h 0 (by decide),c,h 2 (by decide),h 3 (by decide),h 4 (by decide),h 5 (by decide)];rfl
 ·show _=aV s wd b g v
  unfold aV;rw[h 0 (by decide),h 1 (by decide),c,h 3 (by decide),h 4 (by decide),h 5 (by decide)];rfl
 ·show _=aV s wd b g v
  unfold aV;rw[h 0 (by decide),h 1 (by decide),h 2 (by decide),c,h 4 (by decide),h 5 (by decide)];rfl
 ·show _=aV s wd b g v
  unfold aV;rw[h 0 (by decide),h 1 (by decide),h 2 (by decide),h 3 (by decide),c,h 5 (by decide)];rfl
 ·show _=aV s wd b g v
  unfold aV;rw[h 0 (by decide),h 1 (by decide),h 2 (by decide),h 3 (by decide),h 4 (by decide),c];rfl
theorem Ae(l:List Int)(a:Int)(k:Nat)(b:l.length=k):(l++[a]).getD k 0=a∧∀i,i≠k→(l++[a]).getD i 0=l.getD i 0:=by
 subst b;refine⟨by simp,fun i c=>?_⟩;simp only[List.getD_eq_getElem?_getD];rcases Nat.lt_or_ge i l.length with h| h
 ·rw[List.getElem?_append_left h]
 ·rw[List.getElem?_eq_none (by simp;omega),List.getElem?_eq_none h]
structure iG(rb:Nat)(ao:Option Addr)(n cap:Nat)(zs:List Int)(T:TypeId)(zero:Array Value)(w:World)(cells:Array Value)(r:Rd)(wr:World):Prop where
 zero:wr.heap[w.heap.size]?=some (.cells zero T (0,0))
 cur:wr.heap[w.heap.size+1]?=some (.cells cells T (0,0))
 rd:nY rb ao n cap zs r wr
 t:aH (·=rb) w wr
section
variable {rb:Nat} {ao:Option Addr} {n cap:Nat} {zs:List Int} {T:TypeId} {zero:Array Value} {w:World} {cells:Array Value} {r r':Rd} {wr w':World}
theorem iG.byte(h:iG rb ao n cap zs T zero w cells r wr)(d:rb<w.heap.size)(b:nY rb ao n cap zs r' w')(a:aH (·=rb) wr w'):iG rb ao n cap zs T zero w cells r' w':=
 ⟨(a.block _ (lt_of_block h.zero) (by omega)).trans h.zero,(a.block _ (lt_of_block h.cur) (by omega)).trans h.cur,b,aH.trans (T:=(·=rb)) h.t a (fun i c=>.inl c)⟩
theorem iG.set(h:iG rb ao n cap zs T zero w cells r wr)(c:rb<w.heap.size)(a:∀ad,ao=some ad→0<n→ad.block<w.heap.size)(o:Nat)(v:Value):iG rb ao n cap zs T zero w (cells.setIfInBounds o v) r (wr.setCell ⟨w.heap.size+1,o,none⟩ v):=by
 have t:aH (·=w.heap.size+1) wr (wr.setCell ⟨w.heap.size+1,o,none⟩ v):=aH.ofSet wr _ o v rfl;exact⟨(t.block _ (lt_of_block h.zero) (by omega)).trans h.zero,aK h.cur o v,⟨(t.block rb (lt_of_block h.rd.obj) (by omega)).trans h.rd.obj,h.rd.held.touch t (fun ad e b d=>by have:=a ad e b;omega),h.rd.apart,h.rd.small,h.rd.pos⟩,aH.trans (T:=(·=w.heap.size+1)) h.t t (fun i f=>.inr (by omega))⟩
theorem iG.below(h:iG rb ao n cap zs T zero w cells r wr)(d:rb<w.heap.size)(a:∀ad,ao=some ad→0<n→ad.block<w.heap.size)(b:Below (w.heap.size+2) wr w'):iG rb ao n cap zs T zero w cells r w':=
 ⟨(b.block _ (by omega)).trans h.zero,(b.block _ (by omega)).trans h.cur,h.rd.touch b (by omega) (fun ad e c=>by have:=a ad e c;omega),aH.trans (T:=fun k=>w.heap.size+2≤k) h.t ⟨b.os,b.tape,b.output,b.size,fun k _ f=>b.block k (by omega)⟩ (fun i g=>.inr (by omega))⟩
theorem iG.start(a:nY rb ao n cap zs r w)(zero cells:Array Value)(T:TypeId):iG rb ao n cap zs T zero w cells r ((w.alloc (.cells zero T)).alloc (.cells cells T)):=by
 have d:=lt_of_block a.obj;have b:Below w.heap.size w ((w.alloc (.cells zero T)).alloc (.cells cells T)):=(aG _ _).alloc (by simp) _;have c:=heap_alloc_new (w.alloc (.cells zero T)) (.cells cells T);rw[show(w.alloc (.cells zero T)).heap.size=w.heap.size+1 from by simp]at c;exact⟨(Below.heap_alloc _ _ _ (by simp)).trans (heap_alloc_new w _),c,a.touch b d a.held.lt,aH.ofBelow b⟩
end
theorem zU(rb:Nat)(ao:Option Addr)(n cap:Nat)(zs:List Int)(r:Rd)(w:World)(h:nY rb ao n cap zs r w):
 Calls Tryz.prog 133 #[.pointer (some ⟨rb,0,none⟩)] w fun e w'=>∃v,e=.returned (.agg (aV (dP zs r).1.sys (dP zs r).1.words (dP zs r).1.limit (fun i=>(dP zs r).1.acts.getD i 0) v))∧lW w.heap.size v (dP zs r).1.procs w'∧nY rb ao n cap zs (dP zs r).2 w'∧aH (·=rb) w w':=by
 obtain⟨i0,f,i1,i2,i3⟩:=info_parts Tryz.info190;have u:=lt_of_block h.obj;have O:Hid (∀ad,ao=some ad→0<n→ad.block<w.heap.size):=h.held.lt;have D:=aI (iG.start h (aV false 0 0 (fun _=>0) (.slice none 0 0)) (aV false 0 0 (fun _=>0) (.slice none 0 0)) 124);clear h;have E:Hid (dP zs r=(⟨(bS zs 0 1 r).1 == 1,(bS zs 1 16 (bS zs 0 1 r).2).1,(bS zs 0 9 (bS zs 1 16 (bS zs 0 1 r).2).2).1,(cO zs 6 (bS zs 0 9 (bS zs 1 16 (bS zs 0 1 r).2).2).2).1,(bH (eS zs) (bS zs 1 2 (cO zs 6 (bS zs 0 9 (bS zs 1 16 (bS zs 0 1 r).2).2).2).2).1.toNat (bS zs 1 2 (cO zs 6 (bS zs 0 9 (bS zs 1 16 (bS zs 0 1 r).2).2).2).2).2).1⟩,(bH (eS zs) (bS zs 1 2 (cO zs 6 (bS zs 0 9 (bS zs 1 16 (bS zs 0 1 r).2).2).2).2).1.toNat (bS zs 1 2 (cO zs 6 (bS zs 0 9 (bS zs 1 16 (bS zs 0 1 r).2).2).2).2).2).2)):=rfl;have b0:=aI (eJ rb ao n cap zs r 0 1 _ D.out.rd);generalize (bS zs 0 1 r).1=s at E b0;generalize (bS zs 0 1 r).2=r1 at E b0
 go_enter Tryz.func133,Tryz.ntmps133
 go_wp2_with fail
 refine b0.out.mono ?_;rintro e e1 ⟨rfl,e2,e3⟩;have b1:=aI (D.out.byte u e2 e3);have p0:e1.cell? ⟨w.heap.size+1,0,none⟩=some (.bool false):=aD b1.out.cur;have i4:=aJ b1.out.cur 0;clear e2 e3 D b0;have d1:Hid (iG rb ao n cap zs 124 (aV false 0 0 (fun _=>0) (.slice none 0 0)) w (aV (s == 1) 0 0 (fun _=>0) (.slice none 0 0)) r1 (e1.setCell ⟨w.heap.size+1,0,none⟩ (.bool (s == 1)))):=b1.out.set u O.out 0 (.bool (s == 1));have b2:=aI (eJ rb ao n cap zs r1 1 16 _ d1.out.rd);generalize (bS zs 1 16 r1).1=wd at E b2;generalize (bS zs 1 16 r1).2=b3 at E b2;go_wp2_with fail
 refine b2.out.mono ?_;rintro e e4 ⟨rfl,e5,e6⟩;have b4:=aI (d1.out.byte u e5 e6);have p1:e4.cell? ⟨w.heap.size+1,1,none⟩=some (.int .i64 0):=aD b4.out.cur;have i5:=aJ b4.out.cur 1;clear e5 e6 d1 b2 b1 p0 i4;have d2:Hid (iG rb ao n cap zs 124 (aV false 0 0 (fun _=>0) (.slice none 0 0)) w (aV (s == 1) wd 0 (fun _=>0) (.slice none 0 0)) b3 (e4.setCell ⟨w.heap.size+1,1,none⟩ (.int .i64 wd))):=b4.out.set u O.out 1 (.int .i64 wd);have b5:=aI (eJ rb ao n cap zs b3 0 9 _ d2.out.rd);generalize (bS zs 0 9 b3).1=A at E b5;generalize (bS zs 0 9 b3).2=m at E b5;go_wp2_with fail
 refine b5.out.mono ?_;rintro e e7 ⟨rfl,e8,e9⟩;have b6:=aI (d2.out.byte u e8 e9);have p2:e7.cell? ⟨w.heap.size+1,2,none⟩=some (.int .i64 0):=aD b6.out.cur;have i6:=aJ b6.out.cur 2;clear e8 e9 d2 b5 b4 p1 i5;have f0:Hid (iG rb ao n cap zs 124 (aV false 0 0 (fun _=>0) (.slice none 0 0)) w (aV (s == 1) wd A (fun _=>0) (.slice none 0 0)) m (e7.setCell ⟨w.heap.size+1,2,none⟩ (.int .i64 A))):=b6.out.set u O.out 2 (.int .i64 A);go_wp2
 go_loopw [5] (fun i wr=>∃k:Nat,k≤6∧i=.int .i64 k∧iG rb ao n cap zs 124 (aV false 0 0 (fun _=>0) (.slice none 0 0)) w (aV (s == 1) wd A (fun i=>(cO zs k m).1.getD i 0) (.slice none 0 0)) (cO zs k m).2 wr) (fun i _=>6-(intOf i).toNat)
 case atStart=>exact⟨0,by omega,rfl,f0.out⟩
 case round=>
  obtain⟨k,l4,rfl,d⟩:=hrel
  by_cases f1:k<6
  ·have b7:=nZ zs k m;have a5:Hid (cO zs (k+1) m=((cO zs k m).1++[(bS zs 1 7 (cO zs k m).2).1],if k=5 then gN (bS zs 1 7 (cO zs k m).2).1 3 (gN (bS zs 1 7 (cO zs k m).2).1 2 (bS zs 1 7 (cO zs k m).2).2)else(bS zs 1 7 (cO zs k m).2).2)):=rfl;have C:=aI (eJ rb ao n cap zs (cO zs k m).2 1 7 wr d.rd);have D:=aI d;clear d;generalize cO zs k m=S at a5 C D b7;generalize (bS zs 1 7 S.2).1=a at a5 C;generalize (bS zs 1 7 S.2).2=b8 at a5 C;go_wp2_with fail
   refine C.out.mono ?_;rintro e x ⟨rfl,a6,M⟩;have f2:=aI (D.out.byte u a6 M);have d3:=f2.out.cur;have i7:∃Z,x.cell? ⟨w.heap.size+1,3+k,none⟩=some Z:=by
    rw[cell_of_row _ _ _ _ _ _ d3];exact⟨_,Array.getElem?_eq_getElem (show 3+k<(aV (s == 1) wd A (fun i=>S.1.getD i 0) (.slice none 0 0)).size from by show 3+k<10;omega)⟩
   obtain⟨Z,b9⟩:=i7;have l5:=aJ d3 (3+k);have c0:Hid (iG rb ao n cap zs 124 (aV false 0 0 (fun _=>0) (.slice none 0 0)) w (aV (s == 1) wd A (fun i=>(S.1++[a]).getD i 0) (.slice none 0 0)) b8 (x.setCell ⟨w.heap.size+1,3+k,none⟩ (.int .i64 a))):=by
    have:=f2.out.set u O.out (3+k) (.int .i64 a);obtain⟨f3,f4⟩:=Ae S.1 a k b7;rw[Ou (s == 1) wd A (fun i=>S.1.getD i 0) (fun i=>(S.1++[a]).getD i 0) (.slice none 0 0) k a f1 f3 f4]at this;exact this
   clear a6 M C D d3
   by_cases l6:k<5
   ·have a7:Hid (cO zs (k+1) m=(S.1++[a],b8)):=by show _=_;rw[a5.out,if_neg (by omega)]
    go_wp2
    go_roundw
    case rel=>exact⟨k+1,by omega,by go_num,by rw[a7.out];exact c0.out⟩
    case measure=>simp[intOf];omega
   ·have a7:Hid (cO zs (k+1) m=(S.1++[a],gN a 3 (gN a 2 b8))):=by show _=_;rw[a5.out,if_pos (by omega)]
    have f5:=aI (Ck rb ao n cap zs b8 a 2 _ c0.out.rd);go_wp2_with fail
    refine f5.out.mono ?_;rintro e i8 ⟨rfl,f6,d4⟩;have f7:=aI (c0.out.byte u f6 d4);have l7:i8.cell? ⟨w.heap.size+1,3+k,none⟩=some (.int .i64 a):=by
     rw[World.cell?_of_block (w:=x.setCell ⟨w.heap.size+1,3+k,none⟩ (.int .i64 a)) (d4.block _ (lt_of_block c0.out.cur) (by show ¬w.heap.size+1=rb;omega))];exact World.cell?_setCell_same _ _ _ b9
    have f8:=aI (Ck rb ao n cap zs _ a 3 _ f7.out.rd);clear f6 d4 f5;go_wp2_with fail
    refine f8.out.mono ?_;rintro e l8 ⟨rfl,f9,g0⟩;have i9:=aI (f7.out.byte u f9 g0);clear f9 g0 f8;go_wp2
    go_roundw
    case rel=>exact⟨k+1,by omega,by go_num,by rw[a7.out];exact i9.out⟩
    case measure=>simp[intOf];omega
  ·obtain g1:Hid (k=6):=(by omega:k=6);have D:=aI d;clear d b6 f0 p2 i6;have d5:iG rb ao n cap zs 124 (aV false 0 0 (fun _=>0) (.slice none 0 0)) w (aV (s == 1) wd A (fun i=>(cO zs 6 m).1.getD i 0) (.slice none 0 0)) (cO zs 6 m).2 wr:=by
    have g2:=D.out;rw[g1.out]at g2;exact g2
   have C:=aI (eJ rb ao n cap zs (cO zs 6 m).2 1 2 wr d5.rd);have c1:=aI d5;have g3:=jF zs 1 2 (cO zs 6 m).2 (by omega);generalize cO zs 6 m=S at E C c1 g3;generalize (bS zs 1 2 S.2).1=F at E C g3;generalize (bS zs 1 2 S.2).2=y at E C;clear D g1 d5;obtain⟨q,d6⟩:∃q:Nat→Int,q=fun i=>S.1.getD i 0:=⟨_,rfl⟩
   rw[←d6]at c1;have j0:=aI d6;clear d6;go_wp2_with fail
   refine C.out.mono ?_;rintro e l9 ⟨rfl,g4,g5⟩;have j1:=aI (c1.out.byte u g4 g5);clear g4 g5 C c1;go_wp2
   go_loopw [7] (fun i g6=>∃ (k:Nat) (v:Value),(k:Int)≤F∧i=.int .i64 k∧iG rb ao n cap zs 124 (aV false 0 0 (fun _=>0) (.slice none 0 0)) w (aV (s == 1) wd A q v) (bH (eS zs) k y).2 g6∧lW (w.heap.size+2) v (bH (eS zs) k y).1 g6) (fun i _=>F.toNat-(intOf i).toNat)
   case atStart=>exact⟨0,_,by omega,rfl,j1.out,[],rfl,World.ownsRow_nil _ _ _ _,fun p B=>by simp at B⟩
   case round=>
    obtain⟨o,v,m0,rfl,d,P⟩:=hrel;have b7:=lO (eS zs) o y;have c2:wr.cell? ⟨rb,2,none⟩=some (.int .i64 (bH (eS zs) o y).2.err):=aD d.rd.obj;have m1:w.heap.size+1<wr.heap.size:=lt_of_block d.cur
    by_cases c3:(o:Int)<F∧(bH (eS zs) o y).2.err=0
    ·obtain⟨f1,R⟩:=c3;have c4:=aI (jP (eS zs) o y R);have j2:((bH (eS zs) o y).2.err == 0)=true:=by simp[R]
     have c5:=aI (Gx rb ao n cap zs (bH (eS zs) o y).2 wr d.rd);have d7:=aI (And.intro d P);clear R d P;generalize bH (eS zs) o y=Q at c4 j2 c5 d7 c2 b7;generalize eS zs Q.2=G at c4 c5;go_wp2_with fail
     refine c5.out.mono ?_;rintro e x ⟨j3,rfl,a0,a6,M⟩;obtain⟨d,l,g7,a1,g8⟩:=d7.out;have m2:=M.size;have g9:l.length=Q.1.length:=by rw[←g7,List.length_map]
     have m3:l.length≤100:=by omega
     have m4:=aI g9;clear g9;have a2:=d.byte u a6 M;have U:x.ownsRow (w.heap.size+2) 190 2 v l.length (eV l):=aO a1 (fun b e=>M.block b (World.ownsRow.lt a1 b e).2 (by have:=(World.ownsRow.lt a1 b e).1;omega));have a8:∀p∈l,iV (w.heap.size+2) p.2 p.1.code x:=fun p B=>(g8 p B).keep (fun b N H _=>M.block b H (by omega))
     have j4:x.cell? ⟨w.heap.size+1,9,none⟩=some v:=aD a2.cur;have m5:w.heap.size+1<x.heap.size:=by omega
     have h0:=aI (And.intro a2 (And.intro U (And.intro a8 a0)));have h1:=aI U;have h2:Hid (∃ad d8 c,j3=.slice ad d8 c):=by
      rcases a0.2 with⟨N,_⟩| ⟨h3,h4,cur,a9,_⟩
      ·exact⟨_,_,_,N⟩
      ·exact⟨_,_,_,a9⟩
     obtain⟨I,J,L,rfl⟩:=h2.out;clear d a1 g8 a2 U a8 a0 a6 M h2 d7 c5;have j5:Hid (∀W:World,∀h5 Z,[Value.int .i64 G.1.prio,Value.slice I J L][h5]?=some Z→((W.alloc (.cells #[.int .i64 G.1.prio,.slice I J L] 190)).alloc (.cells #[.int .i64 G.1.prio,.slice I J L] 190)).cell? ((⟨W.heap.size+1,0,none⟩:Addr).add h5)=some Z):=by
      intro W;have:=dA (W.alloc (.cells #[.int .i64 G.1.prio,.slice I J L] 190)) #[.int .i64 G.1.prio,.slice I J L] 190;rw[show(W.alloc (.cells #[.int .i64 G.1.prio,.slice I J L] 190)).heap.size=W.heap.size+1 from by simp]at this;exact this
     go_wp2_with (at_builtin;go_must (refine wpList_append_lies _ rfl (.tmp 61) (.tmp 63) 122 rfl (w.heap.size+2) 190 i0 (.agg #[.int .i64 0,.slice none 0 0]) 2 32 Tryz.underlying122 f i1 i2 i3 rfl (by decide) v l.length (eV l) rfl ((h1.out.alloc _).alloc _) ⟨x.heap.size+1,0,none⟩ 1 1 [.int .i64 G.1.prio,.slice I J L] (by rfl) rfl (j5.out x) (by intro Z b9;simp at b9;rcases b9 with rfl| rfl<;>rfl) (by omega) (by unfold maxLen;omega) (by omega) (by simp;omega) _ rfl ?_))
     intro g c V a3 h6 _ _;obtain⟨a2,U,a8,a0⟩:=h0.out;have c6:=aZ (aZ h6);have h7:∀b,v.ownBlock=some b→w.heap.size+2≤b:=fun b e=>(World.ownsRow.lt U b e).1
     have h8:Below (w.heap.size+2) x V:=(Below.refl _ _).grown c6 (by omega) (fun k e=>h7 k e);have a4:=a2.below u O.out h8;have m6:=c6.size;have d9:∀b,b<x.heap.size→(∃cur,x.heap[b]?=some (.cells cur 210 (0,0)))→V.heap[b]?=x.heap[b]?:=by
      intro b j6 ⟨cur,z⟩;refine c6.block b j6 (fun e=>?_);rcases U.2 with⟨N,_⟩| ⟨h3,h4,m7,a9,_,j7,_⟩
      ·rw[N]at e;simp[Value.ownBlock]at e
      ·rw[a9]at e;simp[Value.ownBlock]at e;subst e;rw[j7]at z;simp at z
     have c7:∀p∈l++[(G.1,Value.slice I J L)],iV (w.heap.size+2) p.2 p.1.code V:=by
      intro p B;rcases List.mem_append.1 B with B| B
      ·exact(a8 p B).keep (fun b _ H e0=>d9 b H e0)
      ·simp at B;subst B;exact(a0.base (show w.heap.size+2≤wr.heap.size from by omega)).keep (fun b _ H e0=>d9 b H e0)
     have m8:V.cell? ⟨w.heap.size+1,9,none⟩=some v:=aD a4.cur;have m9:=aJ a4.cur 9;have j8:=aI (And.intro a4 (And.intro a3 c7));clear a2 U a8 a0 c6 h7 h8 a4 d9 c7 a3 h6 h0 h1 j4;go_wp2
     go_roundw
     case rel=>
      obtain⟨a4,a3,c7⟩:=j8.out;have j9:=a4.set u O.out 9 (.slice (some ⟨g,0,none⟩) (l.length+1) c);have X:aH (·=w.heap.size+1) V (V.setCell ⟨w.heap.size+1,9,none⟩ (.slice (some ⟨g,0,none⟩) (l.length+1) c)):=aH.ofSet V _ 9 _ rfl;refine⟨o+1,.slice (some ⟨g,0,none⟩) (l.length+1) c,by omega,by go_num,by rw[c4.out];exact j9,?_⟩;rw[c4.out];refine⟨l++[(G.1,Value.slice I J L)],by simp[g7],?_,fun p B=>(c7 p B).keep (fun b N H _=>X.block b H (by omega))⟩;rw[pV,List.length_append];exact aO a3 (fun b e=>X.block b (World.ownsRow.lt a3 b e).2 (by have:=(World.ownsRow.lt a3 b e).1;omega))
     case measure=>simp[intOf];omega
    ·have k0:Hid (bH (eS zs) F.toNat y=bH (eS zs) o y):=by
      by_cases Y:(o:Int)<F
      ·exact fT (eS zs) o y (fun R=>c3 ⟨Y,R⟩) F.toNat (by omega)
      ·obtain rfl:o=F.toNat:=by omega
       rfl
     have k1:((o:Int)<F∧((bH (eS zs) o y).2.err == 0)=false)∨¬ (o:Int)<F:=by
      by_cases Y:(o:Int)<F
      ·exact .inl ⟨Y,by simp;exact fun R=>c3 ⟨Y,R⟩⟩
      ·exact .inr Y
     clear c3;have h9:Hid (∃ad d8 c,v=.slice ad d8 c):=by
      obtain⟨l,_,a1,_⟩:=P;rcases a1.2 with⟨N,_⟩| ⟨h3,h4,cur,a9,_⟩
      ·exact⟨_,_,_,N⟩
      ·exact⟨_,_,_,a9⟩
     obtain⟨c8,c9,d0,rfl⟩:=h9.out;have j:=d.zero;have z:=d.cur;have n0:wr.cell? ⟨w.heap.size+1,0,none⟩=some (.bool (s == 1)):=aD z;have n1:wr.cell? ⟨w.heap.size+1,1,none⟩=some (.int .i64 wd):=aD z;have n2:wr.cell? ⟨w.heap.size+1,2,none⟩=some (.int .i64 A):=aD z;have n3:wr.cell? ⟨w.heap.size+1,3,none⟩=some (.int .i64 (q 0)):=aD z;have n4:wr.cell? ⟨w.heap.size+1,4,none⟩=some (.int .i64 (q 1)):=aD z;have n5:wr.cell? ⟨w.heap.size+1,5,none⟩=some (.int .i64 (q 2)):=aD z;have n6:wr.cell? ⟨w.heap.size+1,6,none⟩=some (.int .i64 (q 3)):=aD z;have n7:wr.cell? ⟨w.heap.size+1,7,none⟩=some (.int .i64 (q 4)):=aD z;have n8:wr.cell? ⟨w.heap.size+1,8,none⟩=some (.int .i64 (q 5)):=aD z;have n9:wr.cell? ⟨w.heap.size+1,9,none⟩=some (.slice c8 c9 d0):=aD z;have a7:=aI (And.intro d P);clear d P z h9;have k2:wr.cell? ⟨w.heap.size,0,none⟩=some (.bool false):=aD j;have o0:=aJ j 0;have k3:wr.cell? ⟨w.heap.size,1,none⟩=some (.int .i64 0):=aD j;have f3:=aJ j 1;have k4:wr.cell? ⟨w.heap.size,2,none⟩=some (.int .i64 0):=aD j;have f4:=aJ j 2;have k5:wr.cell? ⟨w.heap.size,3,none⟩=some (.int .i64 0):=aD j;have o1:=aJ j 3;have k6:wr.cell? ⟨w.heap.size,4,none⟩=some (.int .i64 0):=aD j;have o2:=aJ j 4;have k7:wr.cell? ⟨w.heap.size,5,none⟩=some (.int .i64 0):=aD j;have o3:=aJ j 5;have k8:wr.cell? ⟨w.heap.size,6,none⟩=some (.int .i64 0):=aD j;have o4:=aJ j 6;have k9:wr.cell? ⟨w.heap.size,7,none⟩=some (.int .i64 0):=aD j;have o5:=aJ j 7;have l0:wr.cell? ⟨w.heap.size,8,none⟩=some (.int .i64 0):=aD j;have o6:=aJ j 8;have l1:wr.cell? ⟨w.heap.size,9,none⟩=some (.slice none 0 0):=aD j;have o7:=aJ j 9;have o8:¬w.heap.size+1=w.heap.size:=by omega
     have o9:¬w.heap.size=w.heap.size+1:=by omega
     clear j;generalize bH (eS zs) o y=Q at *;rcases k1 with⟨Y,p3⟩| Y
     all_goals
      go_wp2
      refine bodyPost_ret (v:=.agg (aV (s == 1) wd A q (.slice c8 c9 d0))) (by simp[results,Tryz.results133,go_sem,aV,k2,k3,k4,k5,k6,k7,k8,k9,l0,l1]) rfl ?_;obtain⟨d,P⟩:=a7.out;have X:aH (·=w.heap.size) wr ((((((((((wr.setCell ⟨w.heap.size,0,none⟩ (.bool (s == 1))).setCell ⟨w.heap.size,1,none⟩ (.int .i64 wd)).setCell ⟨w.heap.size,2,none⟩ (.int .i64 A)).setCell ⟨w.heap.size,3,none⟩ (.int .i64 (q 0))).setCell ⟨w.heap.size,4,none⟩ (.int .i64 (q 1))).setCell ⟨w.heap.size,5,none⟩ (.int .i64 (q 2))).setCell ⟨w.heap.size,6,none⟩ (.int .i64 (q 3))).setCell ⟨w.heap.size,7,none⟩ (.int .i64 (q 4))).setCell ⟨w.heap.size,8,none⟩ (.int .i64 (q 5))).setCell ⟨w.heap.size,9,none⟩ (.slice c8 c9 d0)):=aH.trans (T:=(·=w.heap.size)) (aH.trans (T:=(·=w.heap.size)) (aH.trans (T:=(·=w.heap.size)) (aH.trans (T:=(·=w.heap.size)) (aH.trans (T:=(·=w.heap.size)) (aH.trans (T:=(·=w.heap.size)) (aH.trans (T:=(·=w.heap.size)) (aH.trans (T:=(·=w.heap.size)) (aH.trans (T:=(·=w.heap.size)) (aH.trans (T:=(·=w.heap.size)) (aH.refl _ _) (aH.ofSet _ w.heap.size 0 _ rfl) (fun i f=>.inl f)) (aH.ofSet _ w.heap.size 1 _ rfl) (fun i f=>.inl f)) (aH.ofSet _ w.heap.size 2 _ rfl) (fun i f=>.inl f)) (aH.ofSet _ w.heap.size 3 _ rfl) (fun i f=>.inl f)) (aH.ofSet _ w.heap.size 4 _ rfl) (fun i f=>.inl f)) (aH.ofSet _ w.heap.size 5 _ rfl) (fun i f=>.inl f)) (aH.ofSet _ w.heap.size 6 _ rfl) (fun i f=>.inl f)) (aH.ofSet _ w.heap.size 7 _ rfl) (fun i f=>.inl f)) (aH.ofSet _ w.heap.size 8 _ rfl) (fun i f=>.inl f)) (aH.ofSet _ w.heap.size 9 _ rfl) (fun i f=>.inl f);have l2:dP zs r=(⟨s == 1,wd,A,S.1,Q.1⟩,Q.2):=by rw[E.out,k0.out]
      rw[l2];refine⟨.slice c8 c9 d0,by rw[j0.out]<;>rfl,?_,?_,aH.trans (T:=(·=w.heap.size)) d.t X (fun i f=>.inr (by omega))⟩
      ·exact(P.keep (fun b N H _=>X.block b H (by omega))).base (by omega)
      ·exact⟨(X.block rb (by omega) (by omega)).trans d.rd.obj,d.rd.held.touch X (fun ad e l3 p4=>by have:=O.out ad e l3;omega),d.rd.apart,d.rd.small,d.rd.pos⟩
end
section
open Go.RowKit
structure Wn where
 part:Int
 first:Int
 many:Int
structure Ch where
 src:Int
 dst:Int
 depth:Int
structure Cf where
 frame:Int
 watch:Int
 parts:List Pt
 wins:List Wn
 chans:List Ch
def cX(zs:List Int)(n frame:Int)(r:Rd):Wn×Rd:=
 let a:=bS zs 0 (n-1) r
 let b:=bS zs r.fin (frame-1) a.2
 let c:=bS zs 1 (frame-b.1) b.2
 (⟨a.1,b.1,c.1⟩,{ c.2 with fin:=b.1+c.1 })
def fN(zs:List Int)(n:Int)(r:Rd):Ch×Rd:=
 let a:=bS zs 0 (n-1) r
 let b:=bS zs 0 (n-1) a.2
 let c:=bS zs 1 4 (gN b.1 a.1 b.2)
 (⟨a.1,b.1,c.1⟩,c.2)
def pG(zs:List Int):Cf×Rd:=
 let r1:=(bS zs 72 72 ⟨0,0,0,0⟩).2
 let n:=bS zs 1 4 r1
 let f:=bS zs 1 64 n.2
 let a:=bS zs 0 200 f.2
 let b:=bH (dP zs) n.1.toNat a.2
 let c:=bS zs 1 8 b.2
 let d:=bH (cX zs n.1 f.1) c.1.toNat { c.2 with fin:=0 }
 let k:=bS zs 0 4 d.2
 let g:=bH (fN zs n.1) k.1.toNat k.2
 (⟨f.1,a.1,b.1,d.1,g.1⟩,g.2)
def nE:Cf:=⟨0,0,[],[],[]⟩
def bQ(zs:List Int):Cf×Int×Int:=
 let c:=pG zs
 if c.2.err≠0 then(nE,c.2.pl,c.2.err)
 else if zs.length<c.2.pos+4 then(nE,zs.length,2)
 else if bF 0 ((zs.drop c.2.pos).take 4)≠eN (zs.take c.2.pos)then(nE,c.2.pos,5)
 else if c.2.pos+4<zs.length then(nE,(c.2.pos:Int)+4,4)
 else(c.1,0,0)
def gO(l:List (Pt×Value)):List Value:=l.flatMap fun p=>(aV p.1.sys p.1.words p.1.limit (fun i=>p.1.acts.getD i 0) p.2).toList
theorem rU(l:List (Pt×Value))(p:Pt×Value):gO (l++[p])=gO l++(aV p.1.sys p.1.words p.1.limit (fun i=>p.1.acts.getD i 0) p.2).toList:=by simp[gO]
def gK(l:List Wn):List Value:=l.flatMap fun p=>[.int .i64 p.part,.int .i64 p.first,.int .i64 p.many]
theorem rV(l:List Wn)(p:Wn):gK (l++[p])=gK l++[.int .i64 p.part,.int .i64 p.first,.int .i64 p.many]:=by simp[gK]
def fS(l:List Ch):List Value:=l.flatMap fun p=>[.int .i64 p.src,.int .i64 p.dst,.int .i64 p.depth]
theorem qD(l:List Ch)(p:Ch):fS (l++[p])=fS l++[.int .i64 p.src,.int .i64 p.dst,.int .i64 p.depth]:=by simp[fS]
def fU(base:Nat)(v:Value)(a:List Pt)(w:World):Prop:=∃l:List (Pt×Value),l.map Prod.fst=a∧w.ownsRow base 124 10 v l.length (gO l)∧∀p∈l,lW base p.2 p.1.procs w
def kF(base:Nat)(v:Value)(l:List Wn)(w:World):Prop:=w.ownsRow base 131 3 v l.length (gK l)
def yW(base:Nat)(v:Value)(l:List Ch)(w:World):Prop:=w.ownsRow base 142 3 v l.length (fS l)
def iO(w:World)(b:Nat)(P:TypeId→Prop):Prop:=∃cur t,P t∧w.heap[b]?=some (.cells cur t (0,0))
theorem cV{w:World}{base:Nat}{e:TypeId}{size:Nat}{v:Value}{n:Nat}{c:List Value}(h:w.ownsRow base e size v n c){b:Nat}(a:v.ownBlock=some b):∃cur,w.heap[b]?=some (.cells cur e (0,0)):=by
 rcases h.2 with⟨d,_⟩| ⟨g,cap,cur,f,_,i,_⟩
 ·rw[d]at a;simp[Value.ownBlock]at a
 ·rw[f]at a;simp[Value.ownBlock]at a;subst a;exact⟨cur,i⟩
theorem eO{w w':World}{base:Nat}{e:TypeId}{size:Nat}{v:Value}{n:Nat}{c:List Value}(h:w.ownsRow base e size v n c)(d:∀b,base≤b→b<w.heap.size→iO w b (·=e)→w'.heap[b]?=w.heap[b]?):w'.ownsRow base e size v n c:=
 aO h (fun b a=>d b (World.ownsRow.lt h b a).1 (World.ownsRow.lt h b a).2 (by obtain⟨cur,f⟩:=cV h a;exact⟨cur,e,rfl,f⟩))
theorem bI{w:World}{base base':Nat}{e:TypeId}{size:Nat}{v:Value}{n:Nat}{b:List Value}(h:w.ownsRow base e size v n b)(i:base'≤base):w.ownsRow base' e size v n b:=by
 obtain⟨c,a⟩:=h;rcases a with a| ⟨d,cap,cur,f,j,g⟩
 ·exact⟨c,.inl a⟩
 ·exact⟨c,.inr ⟨d,cap,cur,f,by omega,g⟩⟩
theorem fU.keep{base:Nat}{v:Value}{g:List Pt}{w w':World}(h:fU base v g w)(i:∀b,base≤b→b<w.heap.size→iO w b (fun t=>t=124∨t=210∨t=190)→w'.heap[b]?=w.heap[b]?):fU base v g w':=by
 obtain⟨l,j,k,m⟩:=h;refine⟨l,j,eO k (fun b a c ⟨cur,t,d,f⟩=>i b a c ⟨cur,t,.inl d,f⟩),fun p o=>(m p o).keep (fun b a c ⟨cur,t,d,f⟩=>i b a c ⟨cur,t,.inr d,f⟩)⟩
theorem fU.base{base base':Nat}{v:Value}{a:List Pt}{w:World}(h:fU base v a w)(b:base'≤base):fU base' v a w:=by
 obtain⟨l,c,d,f⟩:=h;exact⟨l,c,bI d b,fun p g=>(f p g).base b⟩
theorem Bl(base:Nat)(w:World):fU base (.slice none 0 0) [] w:=⟨[],rfl,World.ownsRow_nil _ _ _ _,fun p a=>by simp at a⟩
theorem bL{w:World}{base:Nat}{e:TypeId}{size:Nat}{v:Value}{n:Nat}{a:List Value}(h:w.ownsRow base e size v n a):∃ad c,v=.slice ad n c:=by
 rcases h.2 with⟨b,d⟩| ⟨g,i,cur,f,_⟩
 ·exact⟨none,0,by rw[b,d]⟩
 ·exact⟨_,_,f⟩
structure kA(base:Nat)(vP vW vC:Value)(cf:Cf)(w:World):Prop where
 parts:fU base vP cf.parts w
 wins:kF base vW cf.wins w
 chans:yW base vC cf.chans w
theorem pT(base:Nat)(w:World):kA base (.slice none 0 0) (.slice none 0 0) (.slice none 0 0) nE w:=⟨Bl _ _,World.ownsRow_nil _ _ _ _,World.ownsRow_nil _ _ _ _⟩
theorem kA.keep{base:Nat}{f vW vC:Value}{cf:Cf}{w w':World}(h:kA base f vW vC cf w)(d:∀b,base≤b→b<w.heap.size→w'.heap[b]?=w.heap[b]?):kA base f vW vC cf w':=
 ⟨h.parts.keep (fun b a c _=>d b a c),eO h.wins (fun b a c _=>d b a c),eO h.chans (fun b a c _=>d b a c)⟩
theorem kA.base{base base':Nat}{b vW vC:Value}{cf:Cf}{w:World}(h:kA base b vW vC cf w)(a:base'≤base):kA base' b vW vC cf w:=⟨h.parts.base a,bI h.wins a,bI h.chans a⟩
theorem Az(zs:List Int)(a d:Int)(r:Rd)(f:∀z∈zs,0≤z∧z<256)(b:0≤a)(c:a≤255):0≤(bS zs a d r).1∧(bS zs a d r).1≤255:=by
 unfold bS;split
 ·exact⟨b,c⟩
 ·split
  ·exact⟨b,c⟩
  ·rename_i g
   split
   ·exact⟨b,c⟩
   ·have:=f (zs.getD r.pos 0) (by rw[List.getD_eq_getElem?_getD,List.getElem?_eq_getElem (by omega)];simp);simp only;omega
theorem St(zs:List Int)(n frame:Int)(r:Rd)(c:r.fin=0)(d:0≤frame)(k:Nat)(h:(bH (cX zs n frame) k r).2.err=0):0≤(bH (cX zs n frame) k r).2.fin∧(bH (cX zs n frame) k r).2.fin≤frame:=by
 induction k with
 | zero=>show 0≤r.fin∧r.fin≤frame;omega
 | succ k ih=>
  by_cases a:(bH (cX zs n frame) k r).2.err=0
  ·have f:=ih a;rw[jP _ k r a]at h ⊢;generalize (bH (cX zs n frame) k r).2=q at *;simp only[cX]at h ⊢;obtain⟨b,_,g,i,j,_⟩:=Bt _ _ _ _ h;obtain⟨_,_,l,m,o,_⟩:=Bt _ _ _ _ b;omega
  ·have:=fT (cX zs n frame) k r a (k+1) (by omega);rw[this]at h;exact absurd h a
end
section
open Go.RowKit
def iA(bs:List Int)(left res:Int)(dead:Bool)(done:Int):List Value:=bZ bs++[.int .i64 left,.int .u8 res,.bool dead,.int .i64 done]
structure aS(w:World)(g:Nat)(bs:List Int)(left res:Int)(dead:Bool)(done:Int):Prop where
 blk:w.heap[g]?=some (.cells (iA bs left res dead done).toArray 80 (0,0))
 len:bs.length=256
 bytes:cT bs
theorem aS.lt{w:World}{g:Nat}{bs:List Int}{left res:Int}{dead:Bool}{done:Int}(h:aS w g bs left res dead done):g<w.heap.size:=lt_of_block h.blk
theorem aS.keep{w w':World}{g:Nat}{bs:List Int}{left res:Int}{dead:Bool}{done:Int}(h:aS w g bs left res dead done)(a:w'.heap[g]?=w.heap[g]?):aS w' g bs left res dead done:=⟨a.trans h.blk,h.len,h.bytes⟩
theorem aS.below{w w':World}{g:Nat}{bs:List Int}{left res:Int}{dead:Bool}{done:Int}(h:aS w g bs left res dead done)(a:Below w.heap.size w w'):aS w' g bs left res dead done:=h.keep (a.block g h.lt)
theorem aS.byte{w:World}{g:Nat}{bs:List Int}{left res:Int}{dead:Bool}{done:Int}(h:aS w g bs left res dead done)(i:Nat)(b:i<256):w.cell? ⟨g,i,none⟩=some (.int .u8 (bs.getD i 0)):=by
 have a:i<bs.length:=by rw[h.len];exact b
 rw[cell_of_row _ _ _ _ _ _ h.blk];simp only[iA,List.getElem?_toArray];rw[List.getElem?_append_left (by rw[bX];exact a)];simp[bZ,List.getD_eq_getElem?_getD,a]
theorem aS.last{w:World}{g:Nat}{bs:List Int}{left res:Int}{dead:Bool}{done:Int}(h:aS w g bs left res dead done):w.cell? ⟨g,256,none⟩=some (.int .i64 left)∧w.cell? ⟨g,257,none⟩=some (.int .u8 res)∧w.cell? ⟨g,258,none⟩=some (.bool dead)∧w.cell? ⟨g,259,none⟩=some (.int .i64 done):=by
 have a:∀i,w.cell? ⟨g,256+i,none⟩=[Value.int .i64 left,.int .u8 res,.bool dead,.int .i64 done][i]?:=by
  intro i;rw[cell_of_row _ _ _ _ _ _ h.blk];simp only[iA,List.getElem?_toArray];rw[List.getElem?_append_right (by rw[bX,h.len];omega),bX,h.len];rw[show 256+i-256=i from by omega]
 exact⟨a 0,a 1,a 2,a 3⟩
theorem Py(g:Nat)(bs:List Int)(left res:Int)(dead:Bool)(done:Int)(w:World)(h:aS w g bs left res dead done):
 Calls Tryz.prog 64 #[.pointer (some ⟨g,0,none⟩)] w fun e w'=>e=.returned (.int .i64 done)∧w'=w:=by
 have c:=h.last.2.2.2;clear h
 go_enter Tryz.func64,Tryz.ntmps64
 go_wp2
 go_ret
 exact⟨rfl,rfl⟩
theorem oK(g:Nat)(bs:List Int)(left res:Int)(dead:Bool)(done:Int)(w:World)(h:aS w g bs left res dead done):
 Calls Tryz.prog 35 #[.pointer (some ⟨g,0,none⟩)] w fun e w'=>∃x cap,e=.returned (.slice (some ⟨x,0,none⟩) 256 cap)∧w'.ownsRow w.heap.size 5 1 (.slice (some ⟨x,0,none⟩) 256 cap) 256 (bZ bs)∧Below w.heap.size w w':=by
 obtain⟨j,k,l,m,o⟩:=info_parts Tryz.info5;have b:=aI h;clear h
 go_enter Tryz.func35,Tryz.ntmps35
 go_wp2_with (at_builtin;go_must (refine wpList_append_lies _ rfl (.const (.slice none 0 0)) (.tmp 6) 22 rfl w.heap.size 5 j (.int .u8 0) 1 1 Tryz.underlying22 k l m o rfl (by decide) (.slice none 0 0) 0 [] rfl (World.ownsRow_nil _ _ _ _) ⟨g,0,none⟩ 256 256 (bZ bs) (by rfl) (by rw[bX,b.out.len]) (fun a s c=>?_) (jM bs) (by omega) (by decide) (by omega) (by omega) _ rfl ?_))
 ·have d:a<bs.length:=by have:=(List.getElem?_eq_some_iff.1 c).1;rwa [bX]at this
  have e:(⟨g,0,none⟩:Addr).add a=⟨g,a,none⟩:=by unfold Addr.add;split<;>simp_all
  rw[e,b.out.byte a (by rw[←b.out.len];exact d),←c];simp[bZ,List.getD_eq_getElem?_getD,d]
 ·intro x cap w' f i _ _;have p:=aI f;have q:Hid (Below w.heap.size w w'):=(Below.refl _ _).grown i (Nat.le_refl _) (by simp[Value.ownBlock]);clear f i;go_wp2
  go_ret
  exact⟨x,cap,by simp,by simpa using p.out,q.out⟩
theorem Below.thenSet{B:Nat}{a w:World}{g:Nat}(h:Below B a w)(b:B≤g)(o:Nat)(v:Value):Below B a (w.setCell ⟨g,o,none⟩ v):=
 h.trans ⟨rfl,rfl,rfl,by simp[World.setCell],fun k c=>Below.heap_setCell w ⟨g,o,none⟩ v k (fun e=>by simp at e;omega)⟩
def eG(bs:List Int)(s i:Nat):List Int:=(bs.drop (128*s+16*i)).take 16
def gQ(bs:List Int)(s i:Nat):Int:=dH (eG bs s i)
def cY(bs:List Int)(s i:Nat):Nat→Int:=dL (eG bs s i)
theorem mE(bs:List Int)(s i:Nat)(a:bs.length=256)(b:s<2)(c:i<8):(eG bs s i).length=16:=by
 unfold eG;rw[List.length_take,List.length_drop];omega
theorem qN(x cap:Nat)(bs:List Int)(s i:Nat)(w:World)(g:s<2)(h:i<8)(j:bs.length=256)(k:cT bs)(f:jG w x 0 bs)(B:256≤cap)(C:cap≤9223372036854775807):
 Calls Tryz.prog 177 #[.slice (some ⟨x,0,none⟩) 256 cap,.int .i64 s,.int .i64 i] w fun e w'=>e=.returned (.tuple #[.int .i64 (gQ bs s i),jZ (cY bs s i)])∧Below w.heap.size w w':=by
 have l:=aI f;clear f
 go_enter Tryz.func177,Tryz.ntmps177
 go_wp2_with fail
 refine(Nw x (128*s+16*i) (cap-(128*s+16*i)) (eG bs s i) _ (mE bs s i j g h) ((k.drop _).take _) (by have:=(l.out.alloc sY).piece (128*s+16*i) 16;rwa [Nat.zero_add]at this) (by omega) (by omega)).mono ?_;rintro e b ⟨rfl,d⟩;have a:b.heap[w.heap.size]?=some sY:=(d.block _ (by simp)).trans (heap_alloc_new w _);have m:Hid (Below w.heap.size w b):=(aG _ _).trans (d.mono (by simp));have o:b.cell? ⟨w.heap.size,0,none⟩=some (.int .i64 0):=aD a;have c1:b.cell? ⟨w.heap.size,1,none⟩=some (.int .i64 0):=aD a;have c2:b.cell? ⟨w.heap.size,2,none⟩=some (.int .i64 0):=aD a;have p:b.cell? ⟨w.heap.size,3,none⟩=some (.int .i64 0):=aD a;have q:b.cell? ⟨w.heap.size,4,none⟩=some (.int .i64 0):=aD a;have D:=aJ a 0;have E:=aJ a 1;have F:=aJ a 2;have G:=aJ a 3;have f4:=aJ a 4;have H:w.heap.size<b.heap.size:=lt_of_block a;clear d a;simp only[jZ];have c:Hid ((.int .i64 (gQ bs s i):Value)=.int .i64 (dH (eG bs s i))∧jZ (cY bs s i)=.agg #[.int .i64 (dL (eG bs s i) 0),.int .i64 (dL (eG bs s i) 1),.int .i64 (dL (eG bs s i) 2),.int .i64 (dL (eG bs s i) 3),.int .i64 (dL (eG bs s i) 4)]):=⟨rfl,rfl⟩;generalize dH (eG bs s i)=kk at c ⊢;generalize dL (eG bs s i) 0=u at c ⊢;generalize dL (eG bs s i) 1=r1 at c ⊢;generalize dL (eG bs s i) 2=y at c ⊢;generalize dL (eG bs s i) 3=z at c ⊢;generalize dL (eG bs s i) 4=A at c ⊢;go_wp2
 refine bodyPost_ret (v:=.tuple #[.int .i64 kk,.agg #[.int .i64 u,.int .i64 r1,.int .i64 y,.int .i64 z,.int .i64 A]]) (by simp[results,Tryz.results177,go_sem,o,c1,c2,p,q]) rfl ?_;rw[c.out.1,c.out.2];refine⟨rfl,?_⟩
 iterate 5 refine Below.thenSet ?_ (Nat.le_refl _) _ _
 exact m.out
end
end Go.Proofs.YtnjlbgolnbdkaaaGreat
