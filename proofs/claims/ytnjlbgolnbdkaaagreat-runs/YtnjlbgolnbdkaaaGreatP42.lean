/- All, with short names -/
import Derived.Test.YtnjlbgolnbdkaaaGreatP40
import Derived.Deep.RegionHeld
set_option maxRecDepth 100000
set_option maxHeartbeats 16000000
namespace Go.Proofs.YtnjlbgolnbdkaaaGreat
open Go Go.RowKit
theorem vJ(base:Nat)(p:Nat→Value)(a2:Nat→Nat)(d:Nat)(n:Int)(a3:Nat→Value)(y:Nat→List eI)(kx l m:Nat)(z:bN)(u:eZ)(Q:Nat→Value)(st:aQ)(F:Fl)(w:World)
 (h:We base p a2 d n a3 y kx l m z u Q st F w) (H:base≤w.heap.size) (c0:0≤n) (a4:n+20≤100000000000) (M:∀f,(y f).length+100≤100000000000):
 Calls Tryz.prog 32 #[.pointer (some ⟨d,0,none⟩)] w fun e w'=>e=.returned (.bool true)∧∃L' q r j,We base p L' d q r j kx l m z u Q st F w'∧(0≤q∧q≤n+20)∧(∀f,(j f).length≤(y f).length+100)∧aH (fun b=>base≤b) w w':=by
 obtain⟨v,D⟩:∃v:Nat→World→Prop,v=fun(k:Nat) (W:World)=>∃L' r j,We base p L' d (n+1+2*(k:Int)) r j kx l m z u Q st F W∧(∀f,(j f).length≤(y f).length+4+8*k)∧aH (fun b=>base≤b) w W:=⟨_,rfl⟩
 have c2:=h.kn.mo.ok.good.few;rw[←h.kn.mo.ok.len]at c2;have a5:Hid (Calls Tryz.prog 62 #[.pointer (some ⟨d,0,none⟩)] w fun e w'=>e=.returned (.bool true)∧v 0 w'):=(Dz p a2 d n a3 y kx l m z st F.bs F.left F.res F.dead F.done F.left F.res F.dead F.done w h.hnd c0 (by omega) (fun f=>by have:=M f;omega) h.p0 h.p3 h.kn.kern h.kn.mo.fl h.ro.fl).mono (by
  rintro e w' ⟨L',r,j,rfl,N,O,R,T⟩;refine⟨rfl,?_⟩;subst D;have:=h.next H (by simpa using N) R T;have U:n+1+2*((0:Nat):Int)=n+1:=by omega
  exact⟨L',r,j,by rw[U];exact this.1,fun f=>by have:=O f;omega,this.2⟩)
 have a6:Hid (∀k W,k<st.parts.length→v k W→Calls Tryz.prog 63 #[.pointer (some ⟨d,0,none⟩),.int .i64 (k:Nat)] W fun e w'=>e=.returned (.bool true)∧v (k+1) w'):=fun k W c3 E=>by
  subst D;obtain⟨V,X,Y,g,G,B⟩:=E;refine(xA p V d _ X Y kx l m z u Q st F (k:Nat) W g.hnd (by omega) (by omega) (fun f=>by have:=M f;have:=G f;omega) g.p0 g.p2 g.kn.kern g.ro g.kn.mo.fl).mono ?_;rintro e w' ⟨L',r,j,rfl,N,O,R,T⟩;have c4:base≤W.heap.size:=Nat.le_trans H B.size;have U:n+1+2*((k+1:Nat):Int)=n+1+2*(k:Int)+2:=by omega
  have:=g.next c4 N R T;refine⟨rfl,L',r,j,by rw[U];exact this.1,fun f=>?_,B.andThen this.2⟩;have:=O f;have:=G f;omega
 have a7:Hid (∀k W,v k W→W.cell? ⟨d,2,none⟩=some (.pointer (some ⟨u.kb,0,none⟩))∧∃a c,W.cell? ⟨u.kb,6,none⟩=some (.slice a st.parts.length c)):=fun k W E=>by
  subst D;obtain⟨V,X,Y,g,G,B⟩:=E;have a8:=g.ro.ref.kAt 6;simp only[cE,List.getElem?_toArray,List.getElem?_cons_succ,List.getElem?_cons_zero]at a8;exact⟨g.cells.2.1,_,_,a8⟩
 have a9:Hid (∀W,v st.parts.length W→(W.cell? ⟨d,1,none⟩=some (.pointer (some ⟨l,0,none⟩))∧W.cell? ⟨d,3,none⟩=some (.pointer (some ⟨m,0,none⟩))∧aS W l F.bs F.left F.res F.dead F.done∧aS W m F.bs F.left F.res F.dead F.done)∧∀I,Below W.heap.size W I→∃L' q r j,We base p L' d q r j kx l m z u Q st F I∧(0≤q∧q≤n+20)∧(∀f,(j f).length≤(y f).length+100)∧aH (fun b=>base≤b) w I):=fun W E=>by
  subst D;obtain⟨V,X,Y,g,G,B⟩:=E;refine⟨⟨g.cells.1,g.cells.2.2.1,g.kn.mo.fl,g.ro.fl⟩,fun I c5=>?_⟩;have:=g.below (Nat.le_trans H B.size) c5;exact⟨_,_,_,_,this.1,by omega,fun f=>by have:=G f;omega,B.andThen this.2⟩
 clear D h M H;generalize F.bs=bs at *;generalize F.left=left at *;generalize F.res=res at *;generalize F.dead=dead at *;generalize F.done=done at *;generalize st.parts.length=np at *
 go_enter Tryz.func32,Tryz.ntmps32
 go_wp2_with fail
 refine a5.out.mono ?_;rintro e d9 ⟨rfl,b0⟩;have b1:=aI b0;clear b0 a5;go_wp2
 go_loopw [3,4] (fun t i wr=>∃k:Nat,k≤np∧t=.bool true∧i=.int .i64 k∧Hid (v k wr)) (fun _ i _=>np-(intOf i).toNat)
 case atStart=>exact⟨0,by omega,rfl,rfl,b1⟩
 case round=>
  obtain⟨k,c3,rfl,rfl,J⟩:=hrel;obtain⟨e0,a,c,e1⟩:=a7.out k wr J.out
  by_cases c6:k<np
  ·have c7:=aI (a6.out k wr c6 J.out);go_wp2_with fail
   refine c7.out.mono ?_;rintro e e2 ⟨rfl,b2⟩;have c8:=aI b2;clear b2;go_wp2
   go_roundw
   case rel=>exact⟨k+1,by omega,rfl,by go_num,c8⟩
   case measure=>simp[intOf];omega
  ·obtain rfl:k=np:=by omega
   obtain⟨⟨c1,b3,L,Z⟩,b4⟩:=a9.out wr J.out;obtain⟨P,A⟩:∃P:World→Prop,P=fun W=>Below wr.heap.size wr W:=⟨_,rfl⟩
   obtain⟨C,a0⟩:∃C:Nat→Nat→World→Prop,C=fun x cap W=>W.ownsRow 0 5 1 (.slice (some ⟨x,0,none⟩) 256 cap) 256 (bZ bs):=⟨_,rfl⟩
   have b5:=aN c1;have e3:Hid (P wr):=by subst A;exact Below.refl _ _
   have b6:Hid (P wr.drew):=by subst A;exact(Below.refl _ _).drew
   have c9:Hid (∀W,P W→W.cell? ⟨d,1,none⟩=some (.pointer (some ⟨l,0,none⟩))∧W.cell? ⟨d,3,none⟩=some (.pointer (some ⟨m,0,none⟩))):=fun W h=>by
    subst A;exact⟨(h.cell (p:=⟨d,1,none⟩) b5).trans c1,(h.cell (p:=⟨d,3,none⟩) b5).trans b3⟩
   have b7:Hid (∀x cap W,C x cap W→(convert 22 9 (.slice (some ⟨x,0,none⟩) 256 cap)).run Tryz.prog W=.ok (.string (tI bs)) W):=fun x cap W h=>by
    subst a0;exact Ak L.len h
   have d0:Hid (∀o W,o=l∨o=m→P W→Calls Tryz.prog 35 #[.pointer (some ⟨o,0,none⟩)] W fun e w'=>∃x cap,e=.returned (.slice (some ⟨x,0,none⟩) 256 cap)∧P w'∧C x cap w'∧∀a c,C a c W→C a c w'):=fun o W a1 h=>by
    subst A;subst a0;have hF:aS W o bs left res dead done:=by rcases a1 with rfl| rfl;exact L.below h;exact Z.below h
    refine(oK o bs left res dead done W hF).mono ?_;rintro e w' ⟨x,cap,rfl,a4,b8⟩;exact⟨x,cap,rfl,h.trans (b8.mono h.size),bI a4 (Nat.zero_le _),fun a c b9=>aO b9 (fun b e=>b8.block b (World.ownsRow.lt b9 b e).2)⟩
   have d1:Hid (∀o W,o=l∨o=m→P W→Calls Tryz.prog 64 #[.pointer (some ⟨o,0,none⟩)] W fun e w'=>e=.returned (.int .i64 done)∧w'=W):=fun o W a1 h=>by
    subst A;have hF:aS W o bs left res dead done:=by rcases a1 with rfl| rfl;exact L.below h;exact Z.below h
    exact Py o bs left res dead done W hF
   have d2:Hid (∀W,P W→∃L' q r j,We base p L' d q r j kx l m z u Q st F W∧(0≤q∧q≤n+20)∧(∀f,(j f).length≤(y f).length+100)∧aH (fun b=>base≤b) w W):=fun W h=>by
    subst A;exact b4 W h
   have e4:(done == done)=true:=by simp
   generalize tI bs=S at *;clear A a0 L Z b4 J a9 a7 a6 b1;go_wp2_with fail
   go_cut [2]from 25 to 54 (fun s d3=>s=.bool true∧P d3)
   case first=>
    go_region_held (fun W:World=>W.cell? ⟨d,1,none⟩=some (.pointer (some ⟨l,0,none⟩))∧W.cell? ⟨d,3,none⟩=some (.pointer (some ⟨m,0,none⟩)))
     ((first| exact⟨c1,b3⟩| assumption))
     (first
     | (go_at_call 35;refine(d0.out _ _ (by first | exact .inl rfl | exact .inr rfl) (by first | assumption | exact b6.out)).mono ?_;rintro e w' ⟨x,cap,rfl,d4,d5,d6⟩;have e5:=c9.out _ d4;have e6:=b7.out _ _ _ d5;try (have e7:=b7.out _ _ _ (d6 _ _ (by assumption))))
     | (go_at_call 64;refine(d1.out _ _ (by first | exact .inl rfl | exact .inr rfl) (by first | assumption | exact b6.out)).mono ?_;rintro e w' ⟨rfl,d7⟩;obtain rfl:=d7.symm))
    all_goals (go_wp2_with fail;go_meet;exact⟨by first| rfl| simp,by assumption⟩)
   case rest=>
    obtain⟨rfl,d8⟩:=hcut;go_wp2
    go_ret
    exact⟨rfl,d2.out _ d8⟩
end Go.Proofs.YtnjlbgolnbdkaaaGreat
