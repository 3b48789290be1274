/- All, with short names -/
import Derived.Test.YtnjlbgolnbdkaaaGreatP33
import Derived.Test.YtnjlbgolnbdkaaaGreatP08
import Derived.Test.YtnjlbgolnbdkaaaGreatP24
import Derived.Test.YtnjlbgolnbdkaaaGreatP04
set_option maxRecDepth 100000
set_option maxHeartbeats 16000000
namespace Go.Proofs.YtnjlbgolnbdkaaaGreat
open Go Go.RowKit
def Fr(a:Nat→Prop)(F:World→Prop)(w:World):Prop:=∀w':World,(∀b,a b→w'.heap[b]?=w.heap[b]?)→F w'
theorem Fr.keep{a:Nat→Prop}{F:World→Prop}{w w':World}(h:Fr a F w)(d:∀b,a b→w'.heap[b]?=w.heap[b]?):Fr a F w':=fun f g=>h f (fun b c=>(g b c).trans (d b c))
theorem jJ.fresh{p:Nat→Value}{a:Nat→Nat}{b:Nat}{n:Int}{c:Nat→Value}{d f:Nat→List eI}{w w':World}(h:jJ p a b n c d f w)(g:Below w.heap.size w w'):jJ p (fun k=>if k<w.heap.size then a k else 100) b n c d f w':=
 (h.relabel (L':=fun k=>if k<w.heap.size then a k else 100) (fun k i _=>by simp[i])).touch (S:=fun _=>False) (aH.ofBelow g) (fun _ _ j=>j.elim)
theorem Hj{c L':Nat→Nat}{f:Nat}{v:Value}{w d w':World}(g:Below w.heap.size w d)(h:∀b,v.ownBlock=some b→w.heap.size≤b)(l:∀k,k<d.heap.size→L' k=uF (fun k=>if k<w.heap.size then c k else 100) f v k)(m:aH (fun k=>(if k<w.heap.size then c k else 100)≤27∨v.ownBlock=some k) d w'):(∀k,k<w.heap.size→L' k=c k)∧aH (fun k=>c k≤27) w w':=by
 refine⟨fun k j=>?_,aH.trans (aH.ofBelow g) m (fun i a=>?_)⟩
 ·rw[l k (Nat.lt_of_lt_of_le j g.size)];unfold uF;rw[if_neg (fun e=>by have:=h k e;omega)];simp[j]
 ·rcases a with a| a
  ·by_cases n:i<w.heap.size
   ·rw[if_pos n]at a;exact .inl a
   ·exact .inr (by omega)
  ·exact .inr (h i a)
theorem Dz(p:Nat→Value)(l:Nat→Nat)(a:Nat)(n:Int)(H:Nat→Value)(g:Nat→List eI)(kx z m:Nat)(I:bN)(st:aQ)(bs:List Int)(left res:Int)(dead:Bool)(done:Int)(J L:Int)(M:Bool)(N:Int)(w:World)
 (h:jJ p l a n H g g w) (b2:0≤n) (b3:n≤100000000000) (b4:∀f,(g f).length≤100000000000) (p0:p 0=.pointer (some ⟨kx,0,none⟩)) (p3:p 3=.pointer (some ⟨m,0,none⟩)) (A:eP w kx I z st) (O:aS w z bs left res dead done) (P:aS w m bs J L M N):
 Calls Tryz.prog 62 #[.pointer (some ⟨a,0,none⟩)] w fun e w'=>∃L' s c,e=.returned (.bool true)∧jJ p L' a (n+1) s c c w'∧(∀f,(c f).length≤(g f).length+4)∧(∀k,k<w.heap.size→L' k=l k)∧aH (fun k=>l k≤27) w w':=by
 have Q:w.cell? ⟨a,0,none⟩=some (.pointer (some ⟨kx,0,none⟩)):=by rw[cell_of_row _ _ _ _ _ _ h.blk,←p0];rfl
 have R:w.cell? ⟨a,3,none⟩=some (.pointer (some ⟨m,0,none⟩)):=by rw[cell_of_row _ _ _ _ _ _ h.blk,←p3];rfl
 have b5:=aN Q;have S:=aI (Dw kx I z st bs left res dead done w A O);have T:Hid (∀W,Below w.heap.size w W→Calls Tryz.prog 97 #[.pointer (some ⟨m,0,none⟩)] W fun e w'=>∃v,e=.returned v∧(dM W.heap.size v (bT bs) w'∧(bT bs=[]→v=.slice none 0 0))∧Below W.heap.size W w'):=fun W b6=>tL m bs J L M N W (P.below b6)
 have b7:=aI h;have c9:=Er bs;clear h A O P p0 p3;generalize bT bs=d at *
 go_enter Tryz.func62,Tryz.ntmps62
 go_wp2_with fail
 refine S.out.mono ?_;rintro e b8 ⟨d0,rfl,⟨B,_⟩,u⟩;have d1:=(u.cell (p:=⟨a,3,none⟩) b5).trans R;have U:=aI (T.out b8 u);have V:=aI u;have X:=aI B;obtain⟨x,y,rfl⟩:=bL B;clear u B S T Q R;go_wp2_with fail
 refine U.out.mono ?_;rintro e i ⟨d2,rfl,⟨Y,_⟩,C⟩;obtain⟨d3,d4,b9,Z⟩:=iE Y;subst b9;have D:dM w.heap.size (.slice x d.length y) d i:=aO X.out (fun b e=>C.block b (World.ownsRow.lt X.out b e).2);obtain⟨d5,d6,a0,a1⟩:=iE D;obtain⟨rfl,_,rfl⟩:=Value.slice.inj a0;have c0:Hid (Below w.heap.size w i):=V.out.trans (C.mono V.out.size);have a2:=aI D;have c1:=aI a1;have c2:=aI Z;clear a0 D Y C a1 Z U;generalize a3:d.length=j at *;have a4:=aI a3;clear a3;have d7:((j:Int) == (j:Int))=true:=by simp
 go_wp2
 go_loopw [5,6] (fun o t wr=>∃k q:Nat,k≤j∧t=.int .i64 k∧o=.bool true∧wr=i.drewN q) (fun _ t _=>j-(intOf t).toNat)
 case atStart=>exact⟨0,0,by omega,rfl,rfl,rfl⟩
 case round=>
  obtain⟨k,q,A,rfl,rfl,rfl⟩:=hrel
  by_cases c3:k<j
  ·obtain⟨r,E⟩:∃r,d[k]?=some r:=⟨d[k]'(by rw[a4.out];exact c3),List.getElem?_eq_getElem _⟩;obtain⟨d8,c4,_,d9,e0,e1,e2,e3⟩:=c1.out k r E;obtain⟨e4,c5,_,e5,e6,e7,e8,e9⟩:=c2.out k r E;subst c4;subst c5;clear E;generalize r 0=f0 at *;generalize r 1=r1 at *;generalize r 2=f1 at *;generalize r 3=f2 at *;generalize r 4=f3 at *;go_wp2_with fail
   go_quiet (fail)
   go_wp2
   exact⟨⟨k+1,q+nq,by omega,by go_num,rfl,rfl⟩,by simp[intOf];omega⟩
  ·obtain rfl:k=j:=by omega
   have F:Below w.heap.size w (i.drewN q):=below_drewN c0.out q;have a5:(i.drewN q).ownsRow 0 52 5 (.slice x k y) k (cI d):=by
    have:=a2.out;unfold dM at this;rw[a4.out]at this;exact bI this (Nat.zero_le _)
   have G:∀b,(Value.slice x k y).ownBlock=some b→w.heap.size≤b:=fun b e=>(World.ownsRow.lt a2.out b e).1
   have a6:=aI (vO p a n H _ g (.slice x k y) k (cI d) (i.drewN q) (b7.out.fresh F) a5 (fun b e=>by have:=G b e;rw[if_neg (by omega)];omega) (by omega) b2 b3 b4);have c6:=aI F;have c7:=aI G;clear F a5 G;go_wp2_with fail
   refine a6.out.mono ?_;rintro e a7 ⟨L',s,c,rfl,a8,a9,b0,b1⟩;have c8:Hid (jJ p L' a (n+1) s c c a7∧(∀f,(c f).length≤(g f).length+4)∧(∀k,k<w.heap.size→L' k=l k)∧aH (fun k=>l k≤27) w a7):=⟨a8,a9,Hj c6.out c7.out b0 b1⟩;clear a8 a9 b0 b1 a6;go_wp2
   go_ret
   exact⟨L',s,c,rfl,c8.out⟩
theorem Bv(p:Nat→Value)(d:Nat)(n:Int)(W:Nat→Value)(q:Nat→Nat)(m:Nat→List eI)(v:Value)(o:Nat)(a9:List Value)(w:World)
 (h:jJ p q d n W m m w) (X:w.ownsRow 0 3 1 v o a9) (b0:∀b,v.ownBlock=some b→100≤q b) (h5:o≤1000) (d9:0≤n) (h6:n≤100000000000) (b1:∀f,(m f).length≤100000000000):
 Calls Tryz.prog 100 #[.pointer (some ⟨d,5,none⟩),v] w fun e w'=>∃L' z r,e=.returned (.tuple #[])∧jJ p L' d (n+1) z r r w'∧(∀f,(r f).length≤(m f).length+4)∧(∀k,k<w.heap.size→L' k=uF q 1 v k)∧aH (fun k=>q k≤27∨v.ownBlock=some k) w w':=by
 obtain⟨e0,Y,e1,e2,e3⟩:=info_parts Tryz.info3;obtain⟨e4,e5,e6,e7,e8⟩:=info_parts Tryz.info40;obtain⟨k0,A,e9,f0,f1⟩:=info_parts Tryz.info3;obtain⟨ad,c,rfl⟩:=bL X;have Z:=aI h;have a0:=aI X;have b2:=aI b0;have f2:=aI b1;have M:=h.lab;clear h X b0 b1
 go_enter Tryz.func100,Tryz.ntmps100
 go_wp2_with fail
 refine(wZ p d _ _ n W w Z.out.blk d9 (by omega)).mono ?_;rintro e u ⟨rfl,D,N⟩;have b3:=aI N;have b4:Hid (jJ p q d (n+1) W m m u):=⟨D,M,Z.out.fam.touch N (fun k _ A=>.inl (by rw[A];exact M))⟩;have b5:Hid (u.ownsRow 0 3 1 (.slice ad o c) o a9):=aO a0.out (fun b e=>N.block b (World.ownsRow.lt a0.out b e).2 (fun f3=>by have:=b2.out b e;rw[f3,M]at this;omega));clear D N;go_wp2
 generalize (-77000000-(n+1))=j
 go_loopw [5] (fun i wr=>∃ (k:Nat),k≤o∧i=.int .i64 k∧rI 1 u (.slice ad o c) o j k wr) (fun i _=>o-(intOf i).toNat)
 case atStart=>exact⟨0,by omega,rfl,rI.start b5.out⟩
 case round=>
  obtain⟨k,h7,rfl,hF⟩:=hrel
  by_cases a1:k<o
  ·obtain⟨g,f4,rfl,b6,b7⟩:=hF.at a1;have h8:wr.cell? ⟨g,k,none⟩=some (f4 0):=by have:=b6 0 (by decide);simpa[mF]using this
   have h9:=b7 (k);have E:=aI hF;clear hF b6 b7;go_wp2
   go_roundw
   case rel=>exact⟨k+1,by omega,by go_num,by have:=E.out.step a1;simpa[mF,zO,nG]using this⟩
   case measure=>simp[intOf];omega
  ·obtain rfl:k=o:=by omega
   have a2:Hid (∃L' z r,gX p 1 w q m (.slice ad k c) d (n+1) k j 0 L' z r (.slice ad k c) wr):=by
    obtain⟨f5,f6⟩:=jJ.begin (f:=1) (by omega) b4.out b2.out hF;exact⟨_,_,_,f5,f6,fun i=>by simp,fun _ _=>rfl,aH.trans (b3.out.mono (fun k A=>.inl (by rw[A,M];omega))) hF.t (fun i Y=>.inl (.inr Y))⟩
   clear hF b5 b4 b3 a0 Z;go_wp2
   go_loopw [1,6] (fun v i f7=>∃ (a:Nat) (L':Nat→Nat) (z:Nat→Value) (r:Nat→List eI),a≤4∧i=.int .i64 a∧gX p 1 w q m (.slice ad k c) d (n+1) k j a L' z r v f7) (fun _ i _=>4-(intOf i).toNat)
   case atStart=>
    obtain⟨L',z,r,A⟩:=a2.out;exact⟨0,L',z,r,by omega,rfl,A⟩
   case round=>
    obtain⟨a,O,G,l,i0,rfl,B⟩:=hrel;obtain⟨C,c1,f8⟩:=bL B.c.own;subst f8;have i1:(l 1).length≤100000000010:=by have:=B.len 1;have:=f2.out 1;simp at *;omega
    by_cases a1:a<4
    ·have f9:=(show wr.cell? ⟨d,10,none⟩=some (G 5)from B.h.cell 5 (by omega) (by omega));have P:=aI B;clear B a2;go_wp2_with (at_builtin;go_must (refine wpList_append_lies _ rfl (.tmp 27) (.tmp 29) 83 rfl 0 40 e4 (.slice none 0 0) 1 24 Tryz.underlying83 e5 e6 e7 e8 rfl (by decide) (G 5) (l 1).length ((l 1).map eI.v) rfl ((P.out.h.fam 1 (by omega)).own.alloc _) ⟨wr.heap.size,0,none⟩ 1 1 [.slice C (k+a) c1] (by rfl) rfl (dA wr #[.slice C (k+a) c1] 40) (oJ _ _ _ _ rfl) (by omega) (by unfold maxLen;omega) (by omega) (by omega) _ rfl ?_))
     intro g0 g1 u b8 b9 c0 _;obtain⟨D,a3,Q,s,H,I,F,J⟩:=P.out.h.row (f:=1) (by omega) P.out.c (by omega) b8 b9 c0;have g2:=aJ D 10;have g3:u.cell? ⟨d,10,none⟩=some (G 5):=aD D;obtain⟨x,L⟩:∃x,x=u.setCell ⟨d,10,none⟩ (.slice (some ⟨g0,0,none⟩) ((l 1).length+1) g1):=⟨_,rfl⟩;have c2:x.heap.size=u.heap.size:=by rw[L];simp
     have R:Hid (jJ p a3 d (n+1) Q s l x∧xP 1 a3 s x (.slice C (k+a) c1) (k+a) j∧s=zQ l 1 (l 1++[⟨.slice C (k+a) c1,j⟩])∧rX 1 O a3 wr x):=by show _∧_;rw[L];exact⟨H,I,F,J⟩
     have c3:x.cell? ⟨d,11,none⟩=some (Q 6):=R.out.1.cell 6 (by omega) (by omega);rw[L]at c3;have S:=aI L;clear D H I F J L b8 b9 c0 f9;go_wp2_with (at_builtin;go_must (refine wpList_append_lies _ rfl (.tmp 37) (.tmp 39) 40 rfl 0 3 k0 (.int .i64 0) 1 8 Tryz.underlying40 A e9 f0 f1 rfl (by decide) (Q 6) (l 1).length ((l 1).map fun k=>Value.int .i64 k.mark) rfl (by rw[←S.out];exact(R.out.1.fam 1 (by omega)).ownM.alloc _) ⟨u.heap.size,0,none⟩ 1 1 [.int .i64 j] (by rfl) rfl (by rw[←S.out,←c2];exact dA x #[.int .i64 j] 3) (oM _ (by simp)) (by omega) (by unfold maxLen;omega) (by omega) (by omega) _ rfl ?_))
     rw[←S.out];intro g4 g5 T c4 c5 c6 _;obtain⟨H,I,F,J⟩:=R.out;obtain⟨a4,a5,a6,g6,a7,c7,c8,c9⟩:=H.mark (f:=1) (by omega) I c4 c5 (by rw[c2];exact c6);have g7:=aJ a4 11;have g8:T.cell? ⟨d,11,none⟩=some (Q 6):=aD a4;obtain⟨y,U⟩:∃y,y=T.setCell ⟨d,11,none⟩ (.slice (some ⟨g4,0,none⟩) ((l 1).length+1) g5):=⟨_,rfl⟩;have g9:y.heap.size=T.heap.size:=by rw[U];simp
     have a8:Hid (jJ p a5 d (n+1) a6 s s y∧xP 1 a5 s y (.slice C (k+a) c1) (k+a) j∧rX 1 O a5 wr y):=by
      show _∧_
      rw[U];exact⟨by rw[show s=g6 from F.trans c8.symm]at a7 ⊢;exact a7,c7,J.trans c9⟩
     have h0:=aI F;have V:=aI U;clear a4 H I F J a7 c7 c8 c9 U c4 c5 c6 c3 R S g3 g2;go_wp2_with (at_builtin;go_must (refine jV rfl (.tmp 43) (.tmp 45) 40 rfl 3 e0 (.int .i64 0) 1 8 Tryz.underlying40 Y e1 e2 e3 rfl (by decide) (.slice C (k+a) c1) (k+a) (nT (k+a) (nG 1 j)) rfl (by rw[←V.out];exact a8.out.2.1.own.alloc _) ⟨T.heap.size,0,none⟩ 1 1 (nG 1 j) (by rfl) rfl (by rw[←V.out,←g9];exact dA y #[.int .i64 j] 3) (Bw 1 j) (by omega) (by unfold maxLen;omega) (by omega) ?_))
     rw[←V.out];intro h1 h2 h3 d0 d1;obtain⟨d2,d3,d4⟩:=a8.out;obtain⟨d5,d6,d7,d8⟩:=d2.list (f:=1) (by omega) d3 (aH.alloc y _) d0 d1;have h4:Hid (gX p 1 w q m (.slice ad k c) d (n+1) k j (a+1) d5 a6 s (.slice (some ⟨h1,0,none⟩) (k+a+1) h2) h3):=P.out.next (by omega) h0.out (d4.trans d8) d6 d7;clear d2 d3 d4 d6 d7 d8 d0 d1 a8 V g8 g7;go_wp2
     go_roundw
     case rel=>exact⟨a+1,d5,a6,s,by omega,by go_num,h4.out⟩
     case measure=>simp[intOf];omega
    ·have E:Hid (gX p 1 w q m (.slice ad k c) d (n+1) k j a O G l (.slice C (k+a) c1) wr):=B;clear B a2;go_wp2
     go_end0
     exact⟨O,G,l,rfl,E.out.h,fun f=>by have:=E.out.len f;split at this<;>omega,E.out.lab,E.out.t⟩
end Go.Proofs.YtnjlbgolnbdkaaaGreat
