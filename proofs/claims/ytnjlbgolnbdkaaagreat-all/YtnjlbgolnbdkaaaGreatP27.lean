/- All, with short names -/
import Derived.Test.YtnjlbgolnbdkaaaGreatP26
import Derived.BigQuiet
set_option maxRecDepth 100000
set_option maxHeartbeats 16000000
namespace Go.Proofs.YtnjlbgolnbdkaaaGreat
open Go Go.RowKit
section
open Go.RowKit Go.Shelf
attribute [local go_sem] Oper.semAt_some
theorem iZ{S:Type}(f:Nat→S→Bool×S)(k:Nat)(s:S)(h:(loopB f k s).1=true):loopB f (k+1) s=f k (loopB f k s).2:=by
 show eL (loopB f k s) (f k)=_
 unfold eL;rw[if_pos h]
theorem jU{S:Type}(r:Bool×S)(f:S→Bool×S)(h:r.1=false):eL r f=r:=by
 unfold eL;rw[h];simp
theorem oD{S:Type}(r:Bool×S)(f:S→Bool×S)(h:r.1=true):eL r f=f r.2:=by
 unfold eL;rw[if_pos h]
theorem qT(r:Bool×SF)(h:r.1=true):lT r=r.2.1:=by
 obtain⟨b,s⟩:=r;simp only at h;subst h;exact iL s
def Js(a:eZ)(Q:Nat→Value)(g:Nat)(st:aQ)(w:World)(r:Bool×SF)(W:World):Prop:=Ro W a Q g (lT r) r.2.2∧aH (Rm a Q g st) w W
theorem Js.drewn{a:eZ}{Q:Nat→Value}{g:Nat}{st:aQ}{w W:World}{r:Bool×SF}(h:Js a Q g st w r W)(q:Nat):Js a Q g st w r (W.drewN q):=⟨h.1.keep (fun _ _=>rfl),h.2.drewN2 q⟩
def Ar(s:SF)(k a:Nat):Prop:=(s.1.part k).mode=3∨(s.1.proc k a).stopped=true∨(s.1.proc k a).dl<0∨s.1.now<(s.1.proc k a).dl
theorem Ls(d:eZ)(Q:Nat→Value)(g:Nat)(st:aQ)(F:Fl)(w:World)(h:Ro w d Q g st F)(c0:dY st):
 Calls Tryz.prog 179 #[.pointer (some ⟨d.kb,0,none⟩)] w fun e w'=>e=.returned (.bool (eL (kV (st,F)) dW).1)∧Js d Q g st w (eL (kV (st,F)) dW) w':=by
 obtain⟨J,a6⟩:∃J,J=eL (kV (st,F)) dW:=⟨_,rfl⟩;rw[←a6];obtain⟨f,D⟩:∃f,f=st.parts.length:=⟨_,rfl⟩;obtain⟨x,c1⟩:∃x:Nat→Nat,x=fun k=>(st.cf.parts.getD k default).procs.length:=⟨_,rfl⟩
 obtain⟨S,U⟩:∃S:Nat→Bool×SF,S=fun k=>loopB dF k (st,F):=⟨_,rfl⟩
 obtain⟨T,V⟩:∃T:Nat→Nat→Bool×SF,T=fun k a=>loopB (dT k) a (S k).2:=⟨_,rfl⟩
 obtain⟨j,X⟩:∃j:Bool×SF→World→Prop,j=Js d Q g st w:=⟨_,rfl⟩;rw[←X];have L:∀k,Lk st (S k).2.1:=fun k=>by rw[U];exact Lk.loopB _ (fun k s=>Lk.lates k s) k (st,F)
 have G:∀k a,Lk st (T k a).2.1:=fun k a=>by rw[V];exact(L k).trans (Lk.loopB _ (fun a s=>Lk.late k a s) a (S k).2)
 have M:∀r W,r.1=true→j r W→Ro W d Q g r.2.1 r.2.2∧aH (Rm d Q g st) w W:=fun r W m l=>by
  rw[X]at l;have:=l.1;rw[qT r m]at this;exact⟨this,l.2⟩
 have a7:∀s:aQ,Lk st s→eA s→∀k,k<f→(s.part k).procs.length=x k:=fun s y e8 k u=>by
  have:=(e8.part k (by rw[y.len,←D];exact u)).2;rw[y.cf]at this;rw[c1];exact this
 have b5:Hid (∀r W q,j r W→j r (W.drewN q)):=fun r W q l=>by rw[X]at l ⊢;exact l.drewn q
 have e9:Hid ((S 0).1=true∧j (S 0) w):=by
  rw[U,X];exact⟨rfl,by show Ro w d Q g (lT (true,(st,F))) F;rw[iL];exact h,aH.refl _ _⟩
 have f0:Hid (∀k W,(S k).1=true→j (S k) W→(T k 0).1=true∧j (T k 0) W):=fun k W u l=>by
  have e:T k 0=S k:=by
   rw[V];show(true,(S k).2)=S k
   rw[←u]
  rw[e];exact⟨u,l⟩
 have f1:Hid (∀k W,k<f→(S k).1=true→(T k (x k)).1=true→(∃a8,j (S k) a8)→j (T k (x k)) W→(S (k+1)).1=true∧j (S (k+1)) W):=fun k W u i B ⟨a8,n⟩ l=>by
  have e:S (k+1)=T k (x k):=by
   have y:=a7 (S k).2.1 (L k) (M _ _ i n).1.ok k u;rw[V];rw[U]at i y ⊢;simp only at i y ⊢;rw[iZ _ _ _ i];show loopB (dT k) _ _=_
   rw[y]
  rw[e];exact⟨B,l⟩
 have c2:Hid (∀k a,(T k a).1=true→T k (a+1)=dT k a (T k a).2):=fun k a v=>by
  rw[V]at v ⊢;exact iZ _ _ _ v
 have f2:Hid (∀k a,k<f→a<x k→(S k).1=true→(∃a8,j (S k) a8)→(T k (a+1)).1=false→J=T k (a+1)):=fun k a u v i ⟨a8,n⟩ B=>by
  have y:=a7 (S k).2.1 (L k) (M _ _ i n).1.ok k u;have d8:T k (x k)=T k (a+1):=by rw[V]at B ⊢;exact iB _ _ _ _ (by omega) B
  have d9:S (k+1)=T k (x k):=by
   rw[V];rw[U]at i y ⊢;simp only at i y ⊢;rw[iZ _ _ _ i];show loopB (dT k) _ _=_
   rw[y]
  have f3:kV (st,F)=S (k+1):=by
   have e0:(S (k+1)).1=false:=by rw[d9,d8];exact B
   rw[U]at e0 ⊢;exact iB _ _ _ _ (by show k+1≤st.parts.length;omega) e0
  rw[a6,f3,d9,d8];exact jU _ _ B
 have f4:Hid (∀k a W,k<f→(T k a).1=true→j (T k a) W→W.cell? ⟨d.kb,6,none⟩=some (sl d.rp f d.rc)∧W.cell? ⟨d.kb,8,none⟩=some (.int .i64 (T k a).2.1.now)∧W.cell? ⟨d.rp,k*4,none⟩=some (.int .i64 ((T k a).2.1.part k).mode)∧W.cell? ⟨d.rp,k*4+2,none⟩=some (sl (d.pr k) (x k) (d.pc k))∧
  (a<x k→W.cell? ⟨d.pr k,a*5+3,none⟩=some (.int .i64 ((T k a).2.1.proc k a).dl)∧W.cell? ⟨d.pr k,a*5+4,none⟩=some (.bool ((T k a).2.1.proc k a).stopped)∧W.frozen? ⟨d.pr k,a*5+3,none⟩=false)):=fun k a W u i l=>by
  have m:=(M _ _ i l).1;have N:k<(T k a).2.1.parts.length:=by rw[(G k a).len,←D];exact u
  have y:=a7 _ (G k a) m.ok k u;have z:=m.ref.kAt 6;have H:=m.ref.kAt 8;simp only[cE,List.getElem?_toArray,List.getElem?_cons_succ,List.getElem?_cons_zero]at z H;rw[(G k a).len,←D]at z;have Y:=m.ref.rAt k 0 N (by omega);have b6:=m.ref.rAt k 2 N (by omega);simp only[kK,List.getElem?_cons_succ,List.getElem?_cons_zero,Nat.add_zero]at Y b6;rw[y]at b6;refine⟨z,H,Y,b6,fun v=>?_⟩;have p3:=m.ref.pAt k a 3 N (by rw[y];exact v) (by omega);have c3:=m.ref.pAt k a 4 N (by rw[y];exact v) (by omega);simp only[bM,List.getElem?_cons_succ,List.getElem?_cons_zero]at p3 c3;exact⟨p3,c3,dJ (m.ref.procs k N) _⟩
 have f5:Hid (∀k W,(S k).1=true→j (S k) W→W.cell? ⟨d.kb,6,none⟩=some (sl d.rp f d.rc)):=fun k W i l=>by
  have z:=(M _ _ i l).1.ref.kAt 6;simp only[cE,List.getElem?_toArray,List.getElem?_cons_succ,List.getElem?_cons_zero]at z;rw[(L k).len,←D]at z;exact z
 have f6:Hid (∀k a W,(T k a).1=true→Ar (T k a).2 k a→j (T k a) W→(T k (a+1)).1=true∧j (T k (a+1)) W):=fun k a W i O l=>by
  have e:T k (a+1)=T k a:=by
   rw[c2.out k a i];unfold dT;unfold Ar at O;rw[if_pos O];rw[←i]
  rw[e];exact⟨i,l⟩
 have f7:Hid (∀k a W,k<f→a<x k→(T k a).1=true→¬Ar (T k a).2 k a→j (T k a) W→Calls Tryz.prog 104 #[.pointer (some ⟨d.kb,0,none⟩),.int .i64 k,.int .i64 a,.int .i64 2] (W.setCell ⟨d.pr k,a*5+3,none⟩ (.int .i64 (-1))) fun e w'=>e=.returned (.bool (T k (a+1)).1)∧j (T k (a+1)) w'):=fun k a W u v i O l=>by
  have m:=M _ _ i l;have N:k<(T k a).2.1.parts.length:=by rw[(G k a).len,←D];exact u
  have y:=a7 _ (G k a) m.1.ok k u;have a4:=m.1.pset k a 3 (.int .i64 (-1)) { (T k a).2.1.proc k a with dl:=-1 } N (by rw[y];exact v) (by omega) rfl;have b7:=eK (T k a).2.1 k a { (T k a).2.1.proc k a with dl:=-1 };refine(pJ d Q g _ (T k a).2.2 k a 2 _ a4.1 (by rw[b7.2.1];exact N) (by rw[b7.2.2,y];exact v) (by omega)).mono ?_;rintro e w' ⟨rfl,B,n⟩;have e:T k (a+1)=cK k a 2 ((T k a).2.1.setProc k a { (T k a).2.1.proc k a with dl:=-1 },(T k a).2.2):=by
   rw[c2.out k a i];unfold dT;exact if_neg O
  rw[e];refine⟨rfl,?_⟩;rw[X];exact⟨B,m.2.andThen ((a4.2.to (fun b p=>(Rm.same (G k a).len (G k a).cf).1 p)).andThen (n.to (fun b p=>(Rm.same (b7.2.1.trans (G k a).len) (b7.1.trans (G k a).cf)).1 p)))⟩
 obtain⟨c,I⟩:∃c:Nat→Bool×SF,c=fun k=>loopB cF k (S f).2:=⟨_,rfl⟩
 have A:∀k,Lk st (c k).2.1:=fun k=>by rw[I];exact(L f).trans (Lk.loopB _ (fun k s=>Lk.watch k s) k (S f).2)
 have b8:kV (st,F)=S f:=by rw[U,D];rfl
 have e1:cS (S f).2:=by rw[←b8];exact oL (st,F) ⟨c0,h.ok⟩
 have e2:∀k,k≤f→cS (c k).2:=fun k=>by
  induction k with
  | zero=>intro _;rw[I];exact e1
  | succ k ih=>
   intro u;have e3:=ih (by omega)
   by_cases p:(c k).1=true
   ·have e:c (k+1)=cF k (c k).2:=by rw[I]at p ⊢;exact iZ _ _ _ p
    rw[e];exact e3.watch k (by rw[(A k).len,←D];omega)
   ·have e:c (k+1)=c k:=by rw[I]at p ⊢;exact jU _ _ (by simpa using p)
    rw[e];exact e3
 have f8:Hid (∀W,(S f).1=true→j (S f) W→(c 0).1=true∧j (c 0) W):=fun W u l=>by
  have e:c 0=S f:=by
   rw[I];show(true,(S f).2)=S f
   rw[←u]
  rw[e];exact⟨u,l⟩
 have c4:(S f).2.1.cf.watch=st.cf.watch:=by rw[(L f).cf]
 have c5:(S f).1=true→st.cf.watch≠0→J=c f:=fun i B=>by
  rw[a6,b8,oD _ _ i];unfold dW;rw[if_neg (by rw[c4];exact B),(L f).len,←D,I]
 have f9:=aI c5;have g0:Hid ((S f).1=true→st.cf.watch=0→J=S f):=fun i B=>by
  rw[a6,b8,oD _ _ i];unfold dW;rw[if_pos (by rw[c4];exact B)];rw[←i]
 have g1:Hid ((S f).1=true→st.cf.watch≠0→∀a,a<f→(c (a+1)).1=false→J=c (a+1)):=fun i B a v n=>by
  rw[c5 i B];rw[I]at n ⊢;exact iB _ _ _ _ (by omega) n
 have c6:Hid (∀a,(c a).1=true→c (a+1)=cF a (c a).2):=fun a v=>by
  rw[I]at v ⊢;exact iZ _ _ _ v
 have e4:Hid (∀a W,(c a).1=true→j (c a) W→W.cell? ⟨d.kb,6,none⟩=some (sl d.rp f d.rc)∧W.cell? ⟨d.kb,8,none⟩=some (.int .i64 st.now)∧W.cell? ⟨d.kb,1,none⟩=some (.int .i64 st.cf.watch)∧(a<f→W.cell? ⟨d.rp,a*4,none⟩=some (.int .i64 ((c a).2.1.part a).mode)∧W.cell? ⟨d.rp,a*4+3,none⟩=some (.int .i64 ((c a).2.1.part a).watch)∧W.frozen? ⟨d.rp,a*4+3,none⟩=false∧0≤((c a).2.1.part a).watch∧((c a).2.1.part a).watch≤st.now)):=fun a W i l=>by
  have m:=(M _ _ i l).1;have z:=m.ref.kAt 6;have H:=m.ref.kAt 8;have a9:=m.ref.kAt 1;simp only[cE,List.getElem?_toArray,List.getElem?_cons_succ,List.getElem?_cons_zero]at z H a9;rw[(A a).len,←D]at z;rw[(A a).now]at H;rw[(A a).cf]at a9;refine⟨z,H,a9,fun v=>?_⟩;have Z:a<(c a).2.1.parts.length:=by rw[(A a).len,←D];exact v
  have Y:=m.ref.rAt a 0 Z (by omega);have c7:=m.ref.rAt a 3 Z (by omega);simp only[kK,List.getElem?_cons_succ,List.getElem?_cons_zero,Nat.add_zero]at Y c7;have c8:=(e2 a (by omega)).1.watch a Z;rw[(A a).now]at c8;exact⟨Y,c7,dJ m.ref.parts _,c8.1,c8.2⟩
 have g2:Hid (∀a W,(c a).1=true→(((c a).2.1.part a).mode=3∨st.now-((c a).2.1.part a).watch<st.cf.watch)→j (c a) W→(c (a+1)).1=true∧j (c (a+1)) W):=fun a W i O l=>by
  have e:c (a+1)=c a:=by
   rw[c6.out a i];unfold cF;rw[if_pos (by rw[(A a).now,(A a).cf];exact O)];rw[←i]
  rw[e];exact⟨i,l⟩
 have g3:Hid (∀a W,a<f→(c a).1=true→¬ (((c a).2.1.part a).mode=3∨st.now-((c a).2.1.part a).watch<st.cf.watch)→j (c a) W→Calls Tryz.prog 104 #[.pointer (some ⟨d.kb,0,none⟩),.int .i64 a,.int .i64 0,.int .i64 5] (W.setCell ⟨d.rp,a*4+3,none⟩ (.int .i64 st.now)) fun e w'=>e=.returned (.bool (c (a+1)).1)∧j (c (a+1)) w'):=fun a W v i O l=>by
  have m:=M _ _ i l;have Z:a<(c a).2.1.parts.length:=by rw[(A a).len,←D];exact v
  have a4:=m.1.wtset a st.now Z;have h1:=a4.1.ok.procsLen a (by rw[aQ.setPart_len];exact Z);refine(pJ d Q g _ (c a).2.2 a 0 5 _ a4.1 (by rw[aQ.setPart_len];exact Z) (by omega) (by omega)).mono ?_;rintro e w' ⟨rfl,B,n⟩;have e:c (a+1)=cK a 0 5 ((c a).2.1.setPart a { (c a).2.1.part a with watch:=st.now },(c a).2.2):=by
   rw[c6.out a i];unfold cF;rw[if_neg (by rw[(A a).now,(A a).cf];exact O),(A a).now]
  rw[e];refine⟨rfl,?_⟩;rw[X];exact⟨B,m.2.andThen ((a4.2.to (fun b p=>(Rm.same (A a).len (A a).cf).1 p)).andThen (n.to (fun b p=>(Rm.same ((aQ.setPart_len _ _ _).trans (A a).len) (A a).cf).1 p)))⟩
 have g4:=h.capR;rw[←D]at g4;have e5:∀k,k<f→x k≤2:=fun k u=>by
  rw[c1];exact(h.ok.good.parts _ (dB (by rw[←h.ok.len,←D];exact u))).few.2
 have g5:=aI e5;have h2:=h.ok.good.watch;have h3:1≤f:=by have:=h.ok.good.few;have:=h.ok.len;omega
 have h4:=c0.now;clear c5 b8 e1 e2 A I L G M a7 X V U c1 e5 c4 a6 h c0 c2 c6 D;generalize st.now=now at *;generalize st.cf.watch=a5 at *
 go_enter Tryz.func179,Tryz.ntmps179
 go_wp2
 go_loopw [3] (fun t wr=>∃k:Nat,k≤f∧t=.int .i64 k∧Hid ((S k).1=true∧j (S k) wr)) (fun t _=>f-(intOf t).toNat)
 case atStart=>exact⟨0,by omega,rfl,e9⟩
 case round=>
  obtain⟨k,u,rfl,C⟩:=hrel;have z:=f5.out k wr C.out.1 C.out.2
  by_cases b0:k<f
  ·have g6:=aI (f0.out k wr C.out.1 C.out.2);have h5:=g5.out k b0;go_wp2
   generalize wr=c9 at *;clear z
   go_loopw [4] (fun t wr=>∃a:Nat,a≤x k∧t=.int .i64 a∧Hid ((T k a).1=true∧j (T k a) wr)) (fun t _=>x k-(intOf t).toNat)
   case atStart=>exact⟨0,by omega,rfl,g6⟩
   case round=>
    obtain⟨a,v,rfl,P⟩:=hrel;obtain⟨z,H,Y,b6,d0⟩:=f4.out k a wr b0 P.out.1 P.out.2
    by_cases a0:a<x k
    ·obtain⟨p3,c3,g7⟩:=d0 a0;clear d0
     by_cases o:Ar (T k a).2 k a
     ·have E:=aI (f6.out k a wr P.out.1 o P.out.2);have a1:Hid (∀q,Hid ((T k (a+1)).1=true∧j (T k (a+1)) (wr.drewN q))):=fun q=>⟨E.out.1,b5.out _ _ q E.out.2⟩
      unfold Ar at o;generalize ((T k a).2.1.part k).mode=md at *;generalize ((T k a).2.1.proc k a).stopped=b9 at *;generalize ((T k a).2.1.proc k a).dl=dl at *;generalize (T k a).2.1.now=nw at *
      by_cases n:md=3
      ·have b1:(md == 3)=true:=by simp[n]
       clear n o;go_wp2_with fail
       go_quiet (fail)
       go_wp2
       go_roundw
       case rel=>exact⟨a+1,by omega,by go_num,a1.out _⟩
       case measure=>simp[intOf];omega
      ·have b1:(md == 3)=false:=by simp[n]
       cases b9 with
       | true=>
        clear n o;go_wp2_with fail
        go_quiet (fail)
        go_wp2
        go_roundw
        case rel=>exact⟨a+1,by omega,by go_num,a1.out _⟩
        case measure=>simp[intOf];omega
       | false=>
        by_cases e6:dl<0
        ·have e7:decide (dl<0)=true:=by simp[e6]
         clear n o;go_wp2_with fail
         go_quiet (fail)
         go_wp2
         go_roundw
         case rel=>exact⟨a+1,by omega,by go_num,a1.out _⟩
         case measure=>simp[intOf];omega
        ·have e7:decide (dl<0)=false:=by simp;omega
         have hnd:decide (nw<dl)=true:=by
          rcases o with h| h| h| h
          ·exact absurd h n
          ·cases h
          ·exact absurd h e6
          ·simp[h]
         clear n o;go_wp2_with fail
         go_quiet (fail)
         go_wp2
         go_roundw
         case rel=>exact⟨a+1,by omega,by go_num,a1.out _⟩
         case measure=>simp[intOf];omega
     ·have b2:Hid (∀q,Calls Tryz.prog 104 #[.pointer (some ⟨d.kb,0,none⟩),.int .i64 k,.int .i64 a,.int .i64 2] ((wr.drewN q).setCell ⟨d.pr k,a*5+3,none⟩ (.int .i64 (-1))) fun e w'=>e=.returned (.bool (T k (a+1)).1)∧j (T k (a+1)) w'):=fun q=>f7.out k a (wr.drewN q) b0 a0 P.out.1 o (b5.out _ _ q P.out.2)
      have d1:Hid ((T k (a+1)).1=false→J=T k (a+1)):=fun d2=>f2.out k a b0 a0 C.out.1 ⟨_,C.out.2⟩ d2
      unfold Ar at o;generalize ((T k a).2.1.part k).mode=md at *;generalize ((T k a).2.1.proc k a).stopped=b9 at *;generalize ((T k a).2.1.proc k a).dl=dl at *;generalize (T k a).2.1.now=nw at *;have b1:(md == 3)=false:=by simp;exact fun h=>o (.inl h)
      have g8:b9=false:=by cases b9 with| false=>rfl| true=>exact absurd (.inr (.inl rfl)) o
      subst g8;have e7:decide (dl<0)=false:=by simp;exact Int.not_lt.1 (fun h=>o (.inr (.inr (.inl h))))
      have hnd:decide (nw<dl)=false:=by simp;exact Int.not_lt.1 (fun h=>o (.inr (.inr (.inr h))))
      clear o;go_wp2_with fail
      go_quiet (fail)
      go_wp2_with fail
      refine(b2.out _).mono ?_;rintro e d3 ⟨rfl,b3⟩;have b4:=aI b3;clear b3 b2;generalize p:(T k (a+1)).1=b at *;cases b with
      | true=>
       have E:Hid ((T k (a+1)).1=true∧j (T k (a+1)) d3):=⟨p,b4.out⟩;clear p;go_wp2
       go_roundw
       case rel=>exact⟨a+1,by omega,by go_num,E⟩
       case measure=>simp[intOf];omega
      | false=>
       have a2:=aI (d1.out rfl);have d4:=aI p;clear p;go_wp2
       go_ret
       rw[a2.out];exact⟨by rw[d4.out];rfl,b4.out⟩
    ·obtain rfl:a=x k:=by omega
     have E:=aI (f1.out k wr b0 C.out.1 P.out.1 ⟨_,C.out.2⟩ P.out.2);clear d0;go_wp2
     go_roundw
     case rel=>exact⟨k+1,by omega,by go_num,E⟩
     case measure=>simp[intOf];omega
  ·obtain rfl:k=f:=by omega
   have d5:=aI (f8.out wr C.out.1 C.out.2);go_wp2
   generalize wr=c9 at *;clear z
   by_cases d6:a5=0
   ·have a2:=aI (g0.out C.out.1 d6);obtain⟨z,H,a9,_⟩:=e4.out 0 c9 d5.out.1 d5.out.2;have g9:decide (0<a5)=false:=by simp;omega
    go_loopw [7] (fun t wr=>t=.int .i64 0∧wr=c9) (fun _ _=>0)
    case atStart=>exact⟨rfl,rfl⟩
    case round=>
     obtain⟨rfl,rfl⟩:=hrel;go_wp2
     go_ret
     rw[a2.out];exact⟨by rw[C.out.1];rfl,C.out.2⟩
   ·have g9:decide (0<a5)=true:=by simp;omega
    go_loopw [7] (fun t wr=>∃a:Nat,a≤k∧t=.int .i64 a∧Hid ((c a).1=true∧j (c a) wr)) (fun t _=>k-(intOf t).toNat)
    case atStart=>exact⟨0,by omega,rfl,d5⟩
    case round=>
     obtain⟨a,v,rfl,R⟩:=hrel;obtain⟨z,H,a9,d7⟩:=e4.out a wr R.out.1 R.out.2
     by_cases a0:a<k
     ·obtain⟨Y,c7,g7,h6,h7⟩:=d7 a0;clear d7
      by_cases o:((c a).2.1.part a).mode=3∨now-((c a).2.1.part a).watch<a5
      ·have E:=aI (g2.out a wr R.out.1 o R.out.2);have a1:Hid (∀q,Hid ((c (a+1)).1=true∧j (c (a+1)) (wr.drewN q))):=fun q=>⟨E.out.1,b5.out _ _ q E.out.2⟩
       generalize ((c a).2.1.part a).mode=md at *;generalize ((c a).2.1.part a).watch=a3 at *;have h0:wrap64 (now-a3)=now-a3:=by unfold wrap64;omega
       by_cases n:md=3
       ·have b1:(md == 3)=true:=by simp[n]
        clear n o;go_wp2_with fail
        go_quiet (fail)
        go_wp2
        go_roundw
        case rel=>exact⟨a+1,by omega,by go_num,a1.out _⟩
        case measure=>simp[intOf];omega
       ·have b1:(md == 3)=false:=by simp[n]
        have hnd:decide (now-a3<a5)=true:=by simp;exact o.resolve_left n
        clear n o;go_wp2_with fail
        go_quiet (fail)
        go_wp2
        go_roundw
        case rel=>exact⟨a+1,by omega,by go_num,a1.out _⟩
        case measure=>simp[intOf];omega
      ·have b2:Hid (∀q,Calls Tryz.prog 104 #[.pointer (some ⟨d.kb,0,none⟩),.int .i64 a,.int .i64 0,.int .i64 5] ((wr.drewN q).setCell ⟨d.rp,a*4+3,none⟩ (.int .i64 now)) fun e w'=>e=.returned (.bool (c (a+1)).1)∧j (c (a+1)) w'):=fun q=>g3.out a (wr.drewN q) a0 R.out.1 o (b5.out _ _ q R.out.2)
       have d1:Hid ((c (a+1)).1=false→J=c (a+1)):=fun d2=>g1.out C.out.1 d6 a a0 d2
       generalize ((c a).2.1.part a).mode=md at *;generalize ((c a).2.1.part a).watch=a3 at *;have h0:wrap64 (now-a3)=now-a3:=by unfold wrap64;omega
       have b1:(md == 3)=false:=by simp;exact fun h=>o (.inl h)
       have hnd:decide (now-a3<a5)=false:=by simp;exact Int.not_lt.1 (fun h=>o (.inr h))
       clear o;go_wp2_with fail
       go_quiet (fail)
       go_wp2_with fail
       refine(b2.out _).mono ?_;rintro e d3 ⟨rfl,b3⟩;have b4:=aI b3;clear b3 b2;generalize p:(c (a+1)).1=b at *;cases b with
       | true=>
        have E:Hid ((c (a+1)).1=true∧j (c (a+1)) d3):=⟨p,b4.out⟩;clear p;go_wp2
        go_roundw
        case rel=>exact⟨a+1,by omega,by go_num,E⟩
        case measure=>simp[intOf];omega
       | false=>
        have a2:=aI (d1.out rfl);have d4:=aI p;clear p;go_wp2
        go_ret
        rw[a2.out];exact⟨by rw[d4.out];rfl,b4.out⟩
     ·obtain rfl:a=k:=by omega
      have a2:=aI (f9.out C.out.1 d6);clear d7;go_wp2
      go_ret
      rw[a2.out];exact⟨by rw[R.out.1];rfl,R.out.2⟩
end
end Go.Proofs.YtnjlbgolnbdkaaaGreat
