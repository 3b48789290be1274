/- All, with short names -/
import Derived.Test.YtnjlbgolnbdkaaaGreatP32
import Derived.Test.YtnjlbgolnbdkaaaGreatP36
import Derived.Test.YtnjlbgolnbdkaaaGreatP33
set_option maxRecDepth 100000
set_option maxHeartbeats 16000000
namespace Go.Proofs.YtnjlbgolnbdkaaaGreat
open Go Go.RowKit
theorem Iv(p:Nat→Value)(C:Nat→Nat)(c:Nat)(n:Int)(b4:Nat→Value)(D:Nat→List eI)(kx a1 b5:Nat)(b6:bN)(M:eZ)(Q:Nat→Value)(st:aQ)(F:Fl)(i:Nat)(w:World)
 (h:jJ p C c n b4 D D w) (e4:0≤n) (e5:n+1≤100000000000) (e6:∀f,(D f).length+4≤100000000000) (p0:p 0=.pointer (some ⟨kx,0,none⟩)) (p2:p 2=.pointer (some ⟨M.kb,0,none⟩)) (R:eP w kx b6 a1 st) (b7:Ro w M Q b5 st F) (b8:fO w a1 F) (S:i<st.parts.length):
 Calls Tryz.prog 63 #[.pointer (some ⟨c,0,none⟩),.int .i64 i] w fun e w'=>∃L' N j,e=.returned (.bool true)∧jJ p L' c (n+2) N j j w'∧(∀f,(j f).length≤(D f).length+8)∧(∀k,k<w.heap.size→L' k=C k)∧aH (fun k=>C k≤27) w w':=by
 have b9:w.cell? ⟨c,0,none⟩=some (.pointer (some ⟨kx,0,none⟩)):=by rw[cell_of_row _ _ _ _ _ _ h.blk,←p0];rfl
 have c2:w.cell? ⟨c,2,none⟩=some (.pointer (some ⟨M.kb,0,none⟩)):=by rw[cell_of_row _ _ _ _ _ _ h.blk,←p2];rfl
 have e7:=aN b9;have c0:=aI (uN kx b6 a1 st F.bs F.left F.res F.dead F.done i w R b8 S);have a2:=R.ok;have c3:Hid (∀W,Below w.heap.size w W→Calls Tryz.prog 99 #[.pointer (some ⟨M.kb,0,none⟩),.int .i64 i] W fun e w'=>∃s u v,e=.returned (.tuple #[.agg #[.int .i64 (st.parts.getD i default).mode,.int .i64 (aX F.bs i),.slice s (st.parts.getD i default).words.length u,v],.int .i64 0])∧Fp 0 (.slice s (st.parts.getD i default).words.length u) (st.parts.getD i default).words w'∧w'.ownsRow W.heap.size 47 3 v (st.parts.getD i default).procs.length ((st.parts.getD i default).procs.flatMap cU)∧Below W.heap.size W w'):=fun W e8=>Hs M Q b5 st F i W (b7.mono e8) S
 have e9:=aI h;have h6:=a2.np i S;have h7:=a2.nw i S;clear h R b8 p0 p2 b7 a2;generalize st.parts.getD i default=q at *;generalize aX F.bs i=rs at *
 go_enter Tryz.func63,Tryz.ntmps63
 go_wp2_with fail
 refine c0.out.mono ?_;rintro e d ⟨v,rfl,⟨x,E,l,y,rfl,c4,c5⟩,O⟩;have c6:=O.size;have h8:=(O.cell (p:=⟨c,2,none⟩) e7).trans c2;have h9:c<d.heap.size:=by omega
 have a3:Below d.heap.size d (d.alloc (.cells #[.int .i64 q.mode,.int .i64 rs,.slice (some ⟨x,0,none⟩) q.words.length E,.slice (some ⟨l,0,none⟩) q.procs.length y] 43)):=aG _ _;have c7:=aI (c3.out _ (O.trans (a3.mono c6)));have f0:=aI O;have f1:=aI a3;have c8:=aI c4;have c9:=aI c5;clear O c4 c5 c0 c3 b9 c2 a3;go_wp2_with fail
 refine c7.out.mono ?_;rintro e G ⟨s,u,i0,rfl,a4,T,U⟩;have i1:d.heap.size+1≤G.heap.size:=by have:=U.size;simpa using this
 obtain⟨V,X,f2,f3⟩:=qJ rfl T;subst f2;have a5:Below d.heap.size d G:=f1.out.trans (U.mono (by simp));obtain⟨g,a6⟩:∃g,g=d.heap.size:=⟨_,rfl⟩;obtain⟨m,a7⟩:∃m,m=G.heap.size:=⟨_,rfl⟩;obtain⟨a,Y⟩:∃a,a=G.alloc (.cells #[.int .i64 q.mode,.int .i64 rs,.slice s q.words.length u,.slice V q.procs.length X] 43):=⟨_,rfl⟩;have P:Below G.heap.size G a:=aE Y;have A:a.heap[g]?=some (.cells #[.int .i64 q.mode,.int .i64 rs,.slice (some ⟨x,0,none⟩) q.words.length E,.slice (some ⟨l,0,none⟩) q.procs.length y] 43 (0,0)):=eT P (eT U (cG a6));have H:a.heap[m]?=some (.cells #[.int .i64 q.mode,.int .i64 rs,.slice s q.words.length u,.slice V q.procs.length X] 43 (0,0)):=by rw[Y];exact cG a7
 have Z:Below d.heap.size d a:=a5.trans (P.mono a5.size);have a8:Below w.heap.size w a:=f0.out.trans (Z.mono c6);have a9:a.ownsRow w.heap.size 3 1 (.slice (some ⟨x,0,none⟩) q.words.length E) q.words.length (q.words.map (Value.int .i64)):=aO c8.out (fun b e=>Z.block b (World.ownsRow.lt c8.out b e).2);have b0:a.ownsRow w.heap.size 47 3 (.slice (some ⟨l,0,none⟩) q.procs.length y) q.procs.length (q.procs.flatMap cU):=aO c9.out (fun b e=>Z.block b (World.ownsRow.lt c9.out b e).2);have d0:a.ownsRow 0 3 1 (.slice s q.words.length u) q.words.length (q.words.map (Value.int .i64)):=aO a4 (fun b e=>P.block b (World.ownsRow.lt a4 b e).2);have d1:a.ownsRow (d.alloc (.cells #[.int .i64 q.mode,.int .i64 rs,.slice (some ⟨x,0,none⟩) q.words.length E,.slice (some ⟨l,0,none⟩) q.procs.length y] 43)).heap.size 47 3 (.slice V q.procs.length X) q.procs.length (q.procs.flatMap cU):=aO T (fun b e=>P.block b (World.ownsRow.lt T b e).2);obtain⟨_,_,r,d2⟩:=Bh rfl a9;obtain⟨rfl,_,rfl⟩:=Value.slice.inj r;obtain⟨_,_,I,d3⟩:=Bh rfl d0;obtain⟨rfl,_,rfl⟩:=Value.slice.inj I;obtain⟨_,_,d4,d5⟩:=qJ rfl b0;obtain⟨rfl,_,rfl⟩:=Value.slice.inj d4;obtain⟨_,_,d6,d7⟩:=qJ rfl d1;obtain⟨rfl,_,rfl⟩:=Value.slice.inj d6;have d8:=aI (fun qq=>Fa p C c n b4 D _ _ _ _ _ _ w (a.drewN qq) e9.out e4 e5 e6 (below_drewN a8 qq) a9 b0 (by omega) (by omega));have f4:=aI d2;have f5:=aI d3;have f6:=aI d5;have f7:=aI d7;have d9:=aI A;have i2:=aI a8;have f8:=aI Y;have f9:Hid (w.heap.size≤g∧g<a.heap.size∧m<a.heap.size):=⟨by omega,aR A,aR H⟩;have g0:=aI a6;have g1:=aI a7;have i3:a.cell? ⟨g,0,none⟩=some (.int .i64 q.mode):=aD A;have i4:a.cell? ⟨g,1,none⟩=some (.int .i64 rs):=aD A;have i5:a.cell? ⟨g,2,none⟩=some (.slice (some ⟨x,0,none⟩) q.words.length E):=aD A;have i6:a.cell? ⟨g,3,none⟩=some (.slice (some ⟨l,0,none⟩) q.procs.length y):=aD A;have z0:a.cell? ⟨m,0,none⟩=some (.int .i64 q.mode):=aD H;have z1:a.cell? ⟨m,1,none⟩=some (.int .i64 rs):=aD H;have z2:a.cell? ⟨m,2,none⟩=some (.slice s q.words.length u):=aD H;have z3:a.cell? ⟨m,3,none⟩=some (.slice V q.procs.length X):=aD H;clear a4 T U f3 a5 P A H Z a8 a9 b0 d0 d1 r I d4 d6 d2 d3 d5 d7 Y c7 a6 a7;have i7:(q.mode == q.mode)=true:=by simp
 have i8:(rs == rs)=true:=by simp
 have i9:((q.words.length:Int) == (q.words.length:Int))=true:=by simp
 have j0:((q.procs.length:Int) == (q.procs.length:Int))=true:=by simp
 generalize e0:q.words.length=nw at *;generalize e1:q.procs.length=np at *;have g2:=aI e0;have g3:=aI e1;clear e0 e1;have g4:=aI qY;go_wp2_with fail
 rw[←f8.out,←g0.out,←g1.out];refine(g4.out _ _).mono ?_;rintro e j1 ⟨rfl,g5⟩;obtain rfl:=g5.symm;go_wp2
 go_loopw [9,10] (fun o t wr=>∃k J:Nat,k≤nw∧t=.int .i64 k∧o=.bool true∧wr=a.drewN J) (fun _ t _=>nw-(intOf t).toNat)
 case atStart=>exact⟨0,0,by omega,rfl,rfl,rfl⟩
 case round=>
  obtain⟨k,J,R,rfl,rfl,rfl⟩:=hrel
  by_cases g6:k<nw
  ·obtain⟨z,B⟩:∃z,q.words[k]?=some z:=⟨q.words[k]'(by rw[g2.out];exact g6),List.getElem?_eq_getElem _⟩;obtain⟨b1,r,_,c1⟩:=f4.out k z B;obtain⟨g7,I,_,c2⟩:=f5.out k z B;subst I;obtain rfl:x=b1:=by simpa using r
   clear B r;have j2:(z == z)=true:=by simp
   go_wp2_with fail
   go_quiet (fail)
   go_wp2
   exact⟨⟨k+1,J+nq,by omega,by go_num,rfl,rfl⟩,by simp[intOf];omega⟩
  ·go_wp2
   go_loopw [9,11] (fun o t wr=>∃k J:Nat,k≤np∧t=.int .i64 k∧o=.bool true∧wr=a.drewN J) (fun _ t _=>np-(intOf t).toNat)
   case atStart=>exact⟨0,J,by omega,rfl,rfl,rfl⟩
   case round=>
    obtain⟨L,b2,j3,rfl,rfl,rfl⟩:=hrel
    by_cases g8:L<np
    ·obtain⟨z,B⟩:∃z,q.procs[L]?=some z:=⟨q.procs[L]'(by rw[g3.out];exact g8),List.getElem?_eq_getElem _⟩;obtain⟨b1,r,_,c1,c2,j4⟩:=f6.out L z B;obtain⟨g7,I,_,j5,j6,j7⟩:=f7.out L z B;subst I;obtain rfl:l=b1:=by simpa using r
     clear B r;generalize z.next=j8 at *;generalize z.acc=j9 at *;generalize z.stopped=zs at *;go_wp2_with fail
     go_quiet (fail)
     go_wp2
     exact⟨⟨L+1,b2+nq,by omega,by go_num,rfl,rfl⟩,by simp[intOf];omega⟩
    ·have g9:Hid (Calls Tryz.prog 100 #[.pointer (some ⟨c,5,none⟩),.slice (some ⟨x,0,none⟩) nw E] (a.drewN (b2+1)) fun e a0=>e=.returned (.tuple #[])∧a0.cell? ⟨g,3,none⟩=some (.slice (some ⟨l,0,none⟩) np y)∧(∀q,Calls Tryz.prog 101 #[.pointer (some ⟨c,5,none⟩),.slice (some ⟨l,0,none⟩) np y] (a0.drewN q) fun e b3=>∃L' N j,e=.returned (.tuple #[])∧jJ p L' c (n+2) N j j b3∧(∀f,(j f).length≤(D f).length+8)∧(∀k,k<w.heap.size→L' k=C k)∧aH (fun k=>C k≤27) w b3)):=(d8.out (b2+1)).mono (fun e a0 ⟨h0,h1,h2⟩=>⟨h0,by rw[cell_of_row _ _ _ _ _ _ ((h1 g _ _ f9.out.1 d9.out (by decide)).trans d9.out)];rfl,h2⟩);clear d8;go_wp2_with fail
     go_region_with (go_at_call 100;refine g9.out.mono ?_;rintro e a0 ⟨rfl,k0,e2⟩;have h3:=aI e2;clear e2)
     all_goals
      go_wp2_with fail
      have h4:=aI (h3.out 1)
      go_region_with (go_at_call 101;refine h4.out.mono ?_;rintro e b3 ⟨L',N,j,rfl,e3⟩;have h5:=aI e3;clear e3)
      all_goals
       go_wp2
       go_ret
       exact⟨L',N,j,rfl,h5.out⟩
theorem My(p:Nat→Value)(m:Nat→Nat)(b:Nat)(n:Int)(M:Nat→Value)(r:Nat→List eI)(kx N O:Nat)(P:bN)(u:eZ)(Q:Nat→Value)(st:aQ)(F:Fl)(i:Int)(w:World)
 (h:jJ p m b n M r r w) (a2:0≤n) (a3:n+1≤100000000000) (a4:∀f,(r f).length+4≤100000000000) (p0:p 0=.pointer (some ⟨kx,0,none⟩)) (p2:p 2=.pointer (some ⟨u.kb,0,none⟩)) (R:eP w kx P N st) (S:Ro w u Q O st F) (D:¬ (0≤i∧i<st.parts.length)):
 Calls Tryz.prog 63 #[.pointer (some ⟨b,0,none⟩),.int .i64 i] w fun e w'=>∃L' v c,e=.returned (.bool true)∧jJ p L' b (n+2) v c c w'∧(∀f,(c f).length≤(r f).length+8)∧(∀k,k<w.heap.size→L' k=m k)∧aH (fun k=>m k≤27) w w':=by
 have T:w.cell? ⟨b,0,none⟩=some (.pointer (some ⟨kx,0,none⟩)):=by rw[cell_of_row _ _ _ _ _ _ h.blk,←p0];rfl
 have c2:w.cell? ⟨b,2,none⟩=some (.pointer (some ⟨u.kb,0,none⟩)):=by rw[cell_of_row _ _ _ _ _ _ h.blk,←p2];rfl
 have a5:=aN T;have U:=aI (Qe kx P N st i w R D);have V:Hid (∀W,Below w.heap.size w W→Calls Tryz.prog 99 #[.pointer (some ⟨u.kb,0,none⟩),.int .i64 i] W fun e w'=>e=.returned (.tuple #[.agg #[.int .i64 0,.int .i64 0,.slice none 0 0,.slice none 0 0],.int .i64 1])∧Below W.heap.size W w'):=fun W a6=>Me u Q O st F i W (S.mono a6) D
 have X:Hid (∀a,Below w.heap.size w a→_):=fun a z=>Fa p m b n M r (.slice none 0 0) (.slice none 0 0) 0 0 [] [] w a h a2 a3 a4 z (World.ownsRow_nil _ _ _ _) (World.ownsRow_nil _ _ _ _) (by omega) (by omega)
 clear h R p0 p2 S D
 go_enter Tryz.func63,Tryz.ntmps63
 go_wp2_with fail
 refine U.out.mono ?_;rintro e g ⟨rfl,x⟩;have Y:=x.size;have c3:=(x.cell (p:=⟨b,2,none⟩) a5).trans c2;have c4:b<g.heap.size:=by omega
 obtain⟨d,E⟩:∃d,d=g.heap.size:=⟨_,rfl⟩;have G:Below g.heap.size g (g.alloc (.cells #[.int .i64 0,.int .i64 0,.slice none 0 0,.slice none 0 0] 43)):=aG _ _;have Z:=aI (V.out _ (x.trans (G.mono Y)));have a7:=aI x;have a8:=aI G;clear x U V T c2 G;go_wp2_with fail
 refine Z.out.mono ?_;rintro e s ⟨rfl,A⟩;have c5:g.heap.size+1≤s.heap.size:=by have:=A.size;simpa using this
 have H:Below g.heap.size g s:=a8.out.trans (A.mono (by simp));obtain⟨j,I⟩:∃j,j=s.heap.size:=⟨_,rfl⟩;obtain⟨a,B⟩:∃a,a=s.alloc (.cells #[.int .i64 0,.int .i64 0,.slice none 0 0,.slice none 0 0] 43):=⟨_,rfl⟩;have J:Below s.heap.size s a:=aE B;have l:a.heap[d]?=some (.cells #[.int .i64 0,.int .i64 0,.slice none 0 0,.slice none 0 0] 43 (0,0)):=eT J (eT A (cG E));have y:a.heap[j]?=some (.cells #[.int .i64 0,.int .i64 0,.slice none 0 0,.slice none 0 0] 43 (0,0)):=by rw[B];exact cG I
 have z:Below w.heap.size w a:=a7.out.trans ((H.trans (J.mono H.size)).mono Y);have c6:a.cell? ⟨d,0,none⟩=some (.int .i64 0):=aD l;have c7:a.cell? ⟨d,1,none⟩=some (.int .i64 0):=aD l;have c8:a.cell? ⟨d,2,none⟩=some (.slice none 0 0):=aD l;have c9:a.cell? ⟨d,3,none⟩=some (.slice none 0 0):=aD l;have z0:a.cell? ⟨j,0,none⟩=some (.int .i64 0):=aD y;have z1:a.cell? ⟨j,1,none⟩=some (.int .i64 0):=aD y;have z2:a.cell? ⟨j,2,none⟩=some (.slice none 0 0):=aD y;have z3:a.cell? ⟨j,3,none⟩=some (.slice none 0 0):=aD y;have a9:Hid (∀q,Calls Tryz.prog 100 #[.pointer (some ⟨b,5,none⟩),.slice none 0 0] (a.drewN q) fun e C=>e=.returned (.tuple #[])∧C.cell? ⟨d,3,none⟩=some (.slice none 0 0)∧(∀q,Calls Tryz.prog 101 #[.pointer (some ⟨b,5,none⟩),.slice none 0 0] (C.drewN q) fun e L=>∃L' v c,e=.returned (.tuple #[])∧jJ p L' b (n+2) v c c L∧(∀f,(c f).length≤(r f).length+8)∧(∀k,k<w.heap.size→L' k=m k)∧aH (fun k=>m k≤27) w L)):=fun q=>(X.out (a.drewN q) (below_drewN z q)).mono (fun e C ⟨b0,b1,b2⟩=>⟨b0,by rw[cell_of_row _ _ _ _ _ _ ((b1 d _ _ (by omega) l (by decide)).trans l)];rfl,b2⟩)
 have b3:=aI B;have b4:=aI E;have b5:=aI I;have b6:=aI qY;clear A H J l y z B Z E I X;go_wp2_with fail
 rw[←b3.out,←b4.out,←b5.out];refine(b6.out _ _).mono ?_;rintro e d0 ⟨rfl,b7⟩;obtain rfl:=b7.symm;go_wp2
 go_loopw [9,10] (fun o t wr=>o=.bool true∧t=.int .i64 0∧a=wr) (fun _ _ _=>0)
 case atStart=>exact⟨rfl,rfl,rfl⟩
 case round=>
  obtain⟨rfl,rfl,rfl⟩:=hrel;go_wp2
  go_loopw [9,11] (fun o t wr=>o=.bool true∧t=.int .i64 0∧a=wr) (fun _ _ _=>0)
  case atStart=>exact⟨rfl,rfl,rfl⟩
  case round=>
   obtain⟨rfl,rfl,rfl⟩:=hrel;have b8:=aI (a9.out 1);go_wp2_with fail
   go_region_with (go_at_call 100;refine b8.out.mono ?_;rintro e C ⟨rfl,d1,a0⟩;have b9:=aI a0;clear a0)
   all_goals
    go_wp2_with fail
    have c0:=aI (b9.out 1)
    go_region_with (go_at_call 101;refine c0.out.mono ?_;rintro e L ⟨L',v,c,rfl,a1⟩;have c1:=aI a1;clear a1)
    all_goals
     go_wp2
     go_ret
     exact⟨L',v,c,rfl,c1.out⟩
theorem xA(p:Nat→Value)(b:Nat→Nat)(c:Nat)(n:Int)(j:Nat→Value)(a:Nat→List eI)(kx d l:Nat)(m:bN)(g:eZ)(Q:Nat→Value)(st:aQ)(F:Fl)(i:Int)(w:World)
 (h:jJ p b c n j a a w) (r:0≤n) (s:n+1≤100000000000) (u:∀f,(a f).length+4≤100000000000) (p0:p 0=.pointer (some ⟨kx,0,none⟩)) (p2:p 2=.pointer (some ⟨g.kb,0,none⟩)) (v:eP w kx m d st) (x:Ro w g Q l st F) (y:fO w d F):
 Calls Tryz.prog 63 #[.pointer (some ⟨c,0,none⟩),.int .i64 i] w fun e w'=>∃L' z o,e=.returned (.bool true)∧jJ p L' c (n+2) z o o w'∧(∀f,(o f).length≤(a f).length+8)∧(∀k,k<w.heap.size→L' k=b k)∧aH (fun k=>b k≤27) w w':=by
 by_cases A:0≤i∧i<st.parts.length
 ·obtain⟨q,rfl⟩:∃q:Nat,i=q:=⟨i.toNat,by omega⟩;exact Iv p b c n j a kx d l m g Q st F q w h r s u p0 p2 v x y (by omega)
 ·exact My p b c n j a kx d l m g Q st F i w h r s u p0 p2 v x A
end Go.Proofs.YtnjlbgolnbdkaaaGreat
