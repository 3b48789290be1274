/- All, with short names -/
import Derived.Test.YtnjlbgolnbdkaaaGreatP25
set_option maxRecDepth 100000
set_option maxHeartbeats 16000000
namespace Go.Proofs.YtnjlbgolnbdkaaaGreat
open Go Go.RowKit
section
open Go.RowKit Go.Shelf
attribute [local go_sem] Oper.semAt_some
def lT(r:Bool×SF):aQ:={ r.2.1 with dead:=r.2.1.dead||!r.1 }
theorem iL(s:SF):lT (true,s)=s.1:=by
 unfold lT;simp
theorem Rj(s:SF):lT (false,s)={ s.1 with dead:=true }:=by
 unfold lT;simp
def oA(st:aQ):Nat→aQ
 | 0=>st
 | k+1=>gZ k (oA st k)
theorem Fz(st:aQ)(a k:Nat)(b:k≤a):oA st k=eQ st (upto a k):=by
 induction k with
 | zero=>rfl
 | succ k ih=>rw[eW a k (by omega),pF,←ih (by omega)];rfl
theorem Jk(st:aQ):oA st st.parts.length=st.reset:=by
 rw[Fz st st.parts.length _ (Nat.le_refl _),qO st st.parts.length rfl _ (Nat.le_refl _)];unfold aQ.reset;simp
theorem Fg(st:aQ)(k:Nat):(oA st k).cf=st.cf∧(oA st k).parts.length=st.parts.length∧(oA st k).now=st.now:=by
 induction k with
 | zero=>exact⟨rfl,rfl,rfl⟩
 | succ k ih=>
  have a:=qL k (oA st k);exact⟨a.1.trans ih.1,a.2.1.trans ih.2.1,a.2.2.trans ih.2.2⟩
theorem pS.actAt{w:World}{a:eZ}{cf:Cf}(h:pS w a cf)(i c:Nat)(b:i<cf.parts.length)(d:c<6):w.cell? ⟨a.cp,i*10+3+c,none⟩=some (.int .i64 ((cf.parts.getD i default).acts.getD c 0)):=by
 rw[Nat.add_assoc];rw[h.cAt i (3+c) b (by omega)];rcases(show c=0∨c=1∨c=2∨c=3∨c=4∨c=5 from by omega)with rfl| rfl| rfl| rfl| rfl| rfl<;>rfl
theorem pJ(c:eZ)(Q:Nat→Value)(g:Nat)(st:aQ)(F:Fl)(i n code:Nat)(w:World)(h:Ro w c Q g st F)(f:i<st.parts.length)(u:n<(st.part i).procs.length)(d1:code<6):
 Calls Tryz.prog 104 #[.pointer (some ⟨c.kb,0,none⟩),.int .i64 i,.int .i64 n,.int .i64 code] w fun e w'=>e=.returned (.bool (cK i n code (st,F)).1)∧Ro w' c Q g (lT (cK i n code (st,F))) (cK i n code (st,F)).2.2∧aH (Rm c Q g st) w w':=by
 have a1:i<st.cf.parts.length:=by rw[←h.ok.len];exact f
 have B:=h.ref.kAt 2;have C:=h.ref.kAt 5;simp only[cE,List.getElem?_toArray,List.getElem?_cons_succ,List.getElem?_cons_zero]at B C;have d2:=h.ref.conf.actAt i code a1 d1;have pl:=h.ref.conf.cAt i 2 a1 (by omega);simp only[vD,List.getElem?_cons_succ,List.getElem?_cons_zero]at pl;have d3:i<4:=by have:=h.capR;omega
 have O:=lt_of_block h.ref.kern;have c1:=fV h.ref.conf.parts;have a2:Hid (Calls Tryz.prog 140 #[.pointer (some ⟨g,0,none⟩),.int .i64 i] w.drew fun e w'=>e=.returned (.int .i64 (aX F.bs i))∧Below w.heap.size w w'):=(nQ g F.bs F.left F.res F.dead F.done i w.drew d3 (h.fl.keep rfl)).mono (fun e w' ⟨s,l⟩=>⟨s,⟨l.os,l.tape,l.output,l.size,l.block⟩⟩);have f6:=h.capR;have d4:=tO h.ref.conf.parts;have f7:=h.ok.procsLen i f;have d5:=aI h;obtain⟨a,a3⟩:∃a,a=eR st F.bs i code:=⟨_,rfl⟩;have m:Hid (cK i n code (st,F)=if(F.app i code a).1=true then(true,st.act i n a,(F.app i code a).2)else(false,st,(F.app i code a).2)):=by show _=_;rw[a3];rfl
 have c2:=aI (h.flok.app i code a);have D:a=if((st.cf.parts.getD i default).acts.getD code 0=4∨(st.cf.parts.getD i default).acts.getD code 0=5)∧(st.cf.parts.getD i default).limit≤aX F.bs i then 6 else(st.cf.parts.getD i default).acts.getD code 0:=a3
 clear a3 h;generalize cK i n code (st,F)=f8 at *;generalize (st.cf.parts.getD i default).acts.getD code 0=j at *;generalize (st.cf.parts.getD i default).limit=E at *;generalize aX F.bs i=rs at *;obtain⟨L,a4⟩:∃L,L=st.cf.parts.length:=⟨_,rfl⟩;rw[←a4]at a1 d4 B;have f9:=aI a4;clear a4
 go_enter Tryz.func104,Tryz.ntmps104
 go_upto_region 2 with fail
 go_cut [28]from 23 to 28 (fun v a5=>v=.bool (decide (j=4∨j=5))∧w=a5)
 case first=>
  by_cases y:j=4
  ·subst y;go_wp2_with fail
   go_meet
   exact⟨by simp,rfl⟩
  ·have d6:(j == 4)=false:=by simp[y]
   by_cases a6:j=5
   ·subst a6;go_wp2_with fail
    go_meet
    exact⟨by simp,rfl⟩
   ·have d7:(j == 5)=false:=by simp[a6]
    have d8:decide (j=4∨j=5)=false:=by simp[y,a6]
    go_wp2_with fail
    go_meet
    exact⟨by rw[d8],rfl⟩
 case rest=>
 obtain⟨rfl,rfl⟩:=hcut
 go_upto_if 28 with fail
 go_cut [9]from 23 to 44 (fun v a5=>v=.int .i64 a∧Below w.heap.size w a5)
 case first=>
  by_cases y:j=4∨j=5
  ·have a7:decide (j=4∨j=5)=true:=by simp[y]
   rw[a7]
   by_cases P:E≤rs
   ·rw[if_pos ⟨y,P⟩]at D;subst D;have d9:decide (E≤rs)=true:=by simp[P]
    go_wp2_with fail
    go_region_held (fun W:World=>W.cell? ⟨c.kb,2,none⟩=some (sl c.cp L c.cpc)∧W.cell? ⟨c.kb,5,none⟩=some (.pointer (some ⟨g,0,none⟩))∧W.cell? ⟨c.cp,i*10+2,none⟩=some (.int .i64 E))
     ((first| (with_reducible assumption)| exact⟨B,C,pl⟩))
     (first| (go_at_call 140;refine a2.out.mono ?_;rintro e G ⟨rfl,H⟩;have z:G.cell? ⟨c.kb,2,none⟩=some (sl c.cp L c.cpc)∧G.cell? ⟨c.kb,5,none⟩=some (.pointer (some ⟨g,0,none⟩))∧G.cell? ⟨c.cp,i*10+2,none⟩=some (.int .i64 E):=⟨(H.cell (p:=⟨c.kb,2,none⟩) O).trans B,(H.cell (p:=⟨c.kb,5,none⟩) O).trans C,(H.cell (p:=⟨c.cp,i*10+2,none⟩) c1).trans pl⟩))
    all_goals (go_wp2_with fail;go_meet;exact⟨by first| rfl| simp,by assumption⟩)
   ·rw[if_neg (fun h=>P h.2)]at D;have d9:decide (E≤rs)=false:=by simp;omega
    subst D;go_wp2_with fail
    go_region_held (fun W:World=>W.cell? ⟨c.kb,2,none⟩=some (sl c.cp L c.cpc)∧W.cell? ⟨c.kb,5,none⟩=some (.pointer (some ⟨g,0,none⟩))∧W.cell? ⟨c.cp,i*10+2,none⟩=some (.int .i64 E))
     ((first| (with_reducible assumption)| exact⟨B,C,pl⟩))
     (first| (go_at_call 140;refine a2.out.mono ?_;rintro e G ⟨rfl,H⟩;have z:G.cell? ⟨c.kb,2,none⟩=some (sl c.cp L c.cpc)∧G.cell? ⟨c.kb,5,none⟩=some (.pointer (some ⟨g,0,none⟩))∧G.cell? ⟨c.cp,i*10+2,none⟩=some (.int .i64 E):=⟨(H.cell (p:=⟨c.kb,2,none⟩) O).trans B,(H.cell (p:=⟨c.kb,5,none⟩) O).trans C,(H.cell (p:=⟨c.cp,i*10+2,none⟩) c1).trans pl⟩))
    all_goals (go_wp2_with fail;go_meet;exact⟨by first| rfl| simp,by assumption⟩)
  ·have a7:decide (j=4∨j=5)=false:=by simp[y]
   rw[if_neg (fun h=>y h.1)]at D;subst D;rw[a7];go_wp2_with fail
   go_meet
   exact⟨rfl,Below.refl _ _⟩
 case rest=>
  obtain⟨rfl,V⟩:=hcut;have X:=d5.out.mono V;have a8:=aI (Gi g F i code a wc X.fl X.flok);have e0:=(V.cell (p:=⟨c.kb,5,none⟩) O).trans C;have c3:=aI X;have c4:=aI V;clear X V B C d2 pl D a2;generalize F.app i code a=e1 at *;obtain⟨b,o⟩:=e1;simp only at a8 c2 m;go_wp2_with fail
  refine a8.out.mono ?_;rintro e R ⟨rfl,c5,a9⟩;have d:=c3.out.flash a9 c5 c2.out;have A:Hid (aH (Rm c Q g st) w R):=(aH.ofBelow c4.out).andThen (a9.to (fun x e=>.inr (.inr (.inr (.inr (.inr e))))));clear a8 c5 a9 c3 c4 e0;cases b with
  | false=>
   rw[if_neg (by decide)]at m;have e2:=d.ref.kAt 9;simp only[cE,List.getElem?_toArray,List.getElem?_cons_succ,List.getElem?_cons_zero]at e2;have g0:=aJ d.ref.kern 9;have q:=aI (d.lost true);clear d;go_wp2
   go_ret
   rw[m.out,Rj];exact⟨rfl,q.out.1,A.out.andThen q.out.2⟩
  | true=>
   rw[if_pos rfl]at m;have e3:=aI d;have M:=d.ref.kAt 6;simp only[cE,List.getElem?_toArray,List.getElem?_cons_succ,List.getElem?_cons_zero]at M
   by_cases b0:a=2
   ·subst b0;have b1:=d.ref.rAt i 2 f (by omega);simp only[kK,List.getElem?_cons_succ,List.getElem?_cons_zero]at b1;have b2:=d.ref.pAt i n 4 f u (by omega);simp only[bM,List.getElem?_cons_succ,List.getElem?_cons_zero]at b2;have f4:=dJ (d.ref.procs i f) (n*5+4);have q:=aI (d.pset i n 4 (.bool true) { st.proc i n with stopped:=true } f u (by omega) rfl);have g1:=tO (d.ref.procs i f);clear d;generalize (st.proc i n).stopped=g2 at *;go_wp2
    go_ret
    rw[m.out,iL];exact⟨rfl,q.out.1,A.out.andThen q.out.2⟩
   by_cases b3:a=3
   ·subst b3;have b1:=d.ref.rAt i 2 f (by omega);simp only[kK,List.getElem?_cons_succ,List.getElem?_cons_zero]at b1;have p0:=d.ref.pAt i n 0 f u (by omega);have p1:=d.ref.pAt i n 1 f u (by omega);have p2:=d.ref.pAt i n 2 f u (by omega);have p3:=d.ref.pAt i n 3 f u (by omega);have b2:=d.ref.pAt i n 4 f u (by omega);simp only[bM,List.getElem?_cons_succ,List.getElem?_cons_zero,Nat.add_zero]at p0 p1 p2 p3 b2;have e4:=dJ (d.ref.procs i f) (n*5);have g3:=dJ (d.ref.procs i f) (n*5+1);have g4:=dJ (d.ref.procs i f) (n*5+2);have g5:=dJ (d.ref.procs i f) (n*5+3);have f4:=dJ (d.ref.procs i f) (n*5+4);have q:=aI (d.begin i n f u);clear d;generalize st.proc i n=x at *;go_wp2
    go_ret
    rw[m.out,iL];exact⟨rfl,q.out.1,A.out.andThen q.out.2⟩
   by_cases b4:a=4
   ·subst b4;have b5:=aI (oW c Q g st o i 2 R d f);clear d M;go_wp2_with fail
    refine b5.out.mono ?_;rintro e c6 ⟨rfl,s,l⟩;have T:=aI (And.intro s (A.out.andThen l));clear s l;go_wp2
    go_ret
    rw[m.out,iL];exact⟨rfl,T.out.1,T.out.2⟩
   by_cases b6:a=5
   ·subst b6;have b5:=aI (oW c Q g st o i 1 R d f);clear d M;go_wp2_with fail
    refine b5.out.mono ?_;rintro e c6 ⟨rfl,s,l⟩;have T:=aI (And.intro s (A.out.andThen l));clear s l;go_wp2
    go_ret
    rw[m.out,iL];exact⟨rfl,T.out.1,T.out.2⟩
   by_cases b7:a=6
   ·subst b7;have U:=d.ref.rAt i 0 f (by omega);simp only[kK,List.getElem?_cons_zero,Nat.add_zero]at U;have e4:=dJ d.ref.parts (i*4);have q:=aI (d.mset i 3 f);clear d;go_wp2
    go_ret
    rw[m.out,iL];exact⟨rfl,q.out.1,A.out.andThen q.out.2⟩
   have g6:(a == 2)=false:=by simp[b0]
   have g7:(a == 3)=false:=by simp[b3]
   have d6:(a == 4)=false:=by simp[b4]
   have d7:(a == 5)=false:=by simp[b6]
   have g8:(a == 6)=false:=by simp[b7]
   by_cases Y:a=7
   ·have e5:(a == 7)=true:=by simp[Y]
    have b8:Hid (st.act i n a=st.reset):=by show _=_;rw[Y];rfl
    obtain⟨S,z⟩:∃S:Nat→aQ,S=oA st:=⟨_,rfl⟩;have I:=fun k=>Fg st k
    rw[←z]at I;have e6:Hid (S st.parts.length=st.reset):=by show _=_;rw[z];exact Jk st
    have e7:Hid (Ro R c Q g (S 0) o∧aH (Rm c Q g st) w R):=by show _∧_;rw[z];exact⟨d,A.out⟩
    have e8:Hid (∀k W,Ro W c Q g (S k) o→W.cell? ⟨c.kb,6,none⟩=some (sl c.rp st.parts.length c.rc)∧(k<st.parts.length→W.cell? ⟨c.rp,k*4,none⟩=some (.int .i64 ((S k).part k).mode))):=fun k W Z=>by
     have b9:=Z.ref.kAt 6;simp only[cE,List.getElem?_toArray,List.getElem?_cons_succ,List.getElem?_cons_zero]at b9;rw[(I k).2.1]at b9;refine⟨b9,fun J=>?_⟩;have c7:=Z.ref.rAt k 0 (by rw[(I k).2.1];exact J) (by omega);simp only[kK,List.getElem?_cons_zero,Nat.add_zero]at c7;exact c7
    have e9:Hid (∀k,((S k).part k).mode=3→S (k+1)=S k):=fun k J=>by
     rw[z]at J ⊢;show gZ k (oA st k)=_
     unfold gZ;rw[if_pos J]
    have f0:Hid (∀k W,k<st.parts.length→((S k).part k).mode≠3→Ro W c Q g (S k) o→aH (Rm c Q g st) w W→Calls Tryz.prog 144 #[.pointer (some ⟨c.kb,0,none⟩),.int .i64 (k:Nat),.int .i64 1] W fun e w'=>e=.returned (.tuple #[])∧Ro w' c Q g (S (k+1)) o∧aH (Rm c Q g st) w w'):=fun k W J r Z f1=>by
     refine(oW c Q g (S k) o k 1 W Z (by rw[(I k).2.1];exact J)).mono ?_;rintro e w' ⟨rfl,s,l⟩;have e:S (k+1)=(S k).restart k 1:=by
      rw[z]at r ⊢;show gZ k (oA st k)=_
      unfold gZ;rw[if_neg r]
     rw[e];exact⟨rfl,s,f1.andThen (l.to (fun b P=>(Rm.same (I k).2.1 (I k).1).1 P))⟩
    clear d z I M;generalize st.parts.length=a0 at *;go_wp2
    go_loopw [11] (fun t wr=>∃k:Nat,k≤a0∧t=.int .i64 k∧Hid (Ro wr c Q g (S k) o∧aH (Rm c Q g st) w wr)) (fun t _=>a0-(intOf t).toNat)
    case atStart=>exact⟨0,by omega,rfl,e7⟩
    case round=>
     obtain⟨k,J,rfl,N⟩:=hrel;obtain⟨M,U⟩:=e8.out k wr N.out.1
     by_cases c8:k<a0
     ·have U:=U c8
      by_cases r:((S k).part k).mode=3
      ·have f2:(((S k).part k).mode == 3)=true:=by simp[r]
       have f3:(((S k).part k).mode != 3)=false:=by simp[r]
       have c0:Hid (Ro wr c Q g (S (k+1)) o∧aH (Rm c Q g st) w wr):=by show _∧_;rw[e9.out k r];exact N.out
       clear r;generalize ((S k).part k).mode=md at *;go_wp2
       go_roundw
       case rel=>exact⟨k+1,by omega,by go_num,c0⟩
       case measure=>simp[intOf];omega
      ·have f2:(((S k).part k).mode == 3)=false:=by simp[r]
       have f3:(((S k).part k).mode != 3)=true:=by simp[r]
       have c0:=aI (f0.out k wr c8 r N.out.1 N.out.2);clear r;generalize ((S k).part k).mode=md at *;go_wp2_with fail
       refine c0.out.mono ?_;rintro e c6 ⟨rfl,c9,d0⟩;have f5:=aI (And.intro c9 d0);clear c9 d0;go_wp2
       go_roundw
       case rel=>exact⟨k+1,by omega,by go_num,f5⟩
       case measure=>simp[intOf];omega
     ·obtain rfl:k=a0:=by omega
      clear U;go_wp2
      go_ret
      rw[m.out,iL];show _∧Ro wr c Q g (st.act i n a) o∧_
      rw[b8.out,←e6.out];exact⟨rfl,N.out.1,N.out.2⟩
   ·have e5:(a == 7)=false:=by simp[Y]
    have b8:Hid (st.act i n a=st):=by
     show _=_
     unfold aQ.act;rw[if_neg b0,if_neg b3,if_neg b4,if_neg b6,if_neg b7,if_neg Y]
    clear d M;go_wp2
    go_ret
    rw[m.out,iL];show _∧Ro _ c Q g (st.act i n a) o∧_
    rw[b8.out];exact⟨rfl,e3.out,A.out⟩
end
end Go.Proofs.YtnjlbgolnbdkaaaGreat
