/- All, with short names -/
import Derived.Test.YtnjlbgolnbdkaaaGreatP48
set_option maxRecDepth 100000
set_option maxHeartbeats 16000000
namespace Go.Proofs.YtnjlbgolnbdkaaaGreat
open Go Go.RowKit
section
open Go.RowKit
attribute [-go_sem] Instr.build
theorem Af(last:Int)(D:Option Addr)(n cap:Nat)(zs:List Int)(c6:Option Addr)(b6 c7:Nat)(a6:List Int)(d5:Option Addr)(A j5:Nat)(w:World)(d6:qF w d5 A)(f4:gV w D n cap zs)(f5:n≤140737488351232)(c8:gV w c6 b6 c7 a6)(f6:b6≤140737488351232):
 Calls Tryz.prog 14 #[.slice D n cap,.slice c6 b6 c7,.slice d5 A j5,.int .i64 last] w fun e w'=>e=.returned (.bool true)∧Below w.heap.size w w':=by
 have b7:=aI f4;have d7:=aI c8;have j6:=aI d6;have o3:=d6.len;clear f4 c8 d6;have f7:=aI (pA c6 b6 c7 a6 w d7.out f6)
 go_enter Tryz.func14,Tryz.ntmps14
 go_wp2_with fail
 refine f7.out.mono ?_;rintro e j7 ⟨g,rfl,f8,hF,d8⟩;have f9:=aI (pA c6 b6 c7 a6 j7 (d7.out.touch (aH.ofBelow (S:=fun _=>False) d8) (fun _ _ _ h=>h)) f6);have a7:=aI hF;have c9:=aI d8;have g0:=aI f8;clear hF d8 f8 f7;go_wp2_with fail
 refine f9.out.mono ?_;rintro e m ⟨i,rfl,j8,d0,U⟩;have g1:=Sm g i D n cap;obtain⟨p,a8⟩:∃p,p=p0 g i (.slice D n cap):=⟨_,rfl⟩;rw[←a8]at g1;obtain⟨d9,e0⟩:∃d9,d9=bU p (.slice none 0 0) (.slice none 0 0) 0 (fun _=>.slice none 0 0):=⟨_,rfl⟩;rw[←e0]at g1;obtain⟨B,d1⟩:∃B,B=m.alloc (.cells d9 94):=⟨_,rfl⟩;have E:Below m.heap.size m B:=aE d1;have e1:B.heap[m.heap.size]?=some (.cells (bU p (.slice none 0 0) (.slice none 0 0) 0 (fun _=>.slice none 0 0)) 94 (0,0)):=by rw[d1,e0];exact heap_alloc_new m _
 have j9:=d0.lt;have k0:=(a7.out.below U).lt;have g2:gV B D n cap zs:=((b7.out.touch (aH.ofBelow (S:=fun _=>False) c9.out) (fun _ _ _ h=>h)).touch (aH.ofBelow (S:=fun _=>False) U) (fun _ _ _ h=>h)).touch (aH.ofBelow (S:=fun _=>False) E) (fun _ _ _ h=>h);have g3:=c9.out.size;have k1:=U.size;have k2:=aI (xL p m.heap.size 0 (fun _=>.slice none 0 0) D n cap zs g i (oU a6) (-1) 0 false 0 (-1) 0 false 0 B e1 (by rw[a8];rfl) (by rw[a8];rfl) (by rw[a8];rfl) g2 f5 (by omega) (by omega) (fun ad e k3=>by have:=b7.out.lt ad e k3;omega) ((a7.out.below U).below E) (d0.below E));have V:Hid (Below w.heap.size w B∧w.heap.size≤m.heap.size):=⟨(c9.out.trans (U.mono g3)).trans (E.mono (by omega)),by omega⟩;have g4:=aI ((a7.out.below U).below E);have g5:=aI (d0.below E);have g6:=g0.out;have a9:Hid (g≠m.heap.size∧i≠m.heap.size∧m.heap.size<B.heap.size):=⟨by omega,by omega,aR e1⟩;have b0:Hid (w.heap.size≤g∧w.heap.size≤i∧g≠i∧g<B.heap.size∧i<B.heap.size∧cT (oU a6)):=⟨g6,by omega,by have:=a7.out.lt;omega,by have:=E.size;omega,by have:=E.size;omega,a7.out.bytes⟩;have k4:=aI d1;have g7:=aI a8;clear a8 e0 d1 E e1 g2 g3 k1 j9 k0 f9 a7 c9 g0 g6 j8 d0 U d7;go_wp2_with fail
 rw[←k4.out];refine k2.out.mono ?_;rintro e X ⟨rfl,Y,⟨_,b8⟩| ⟨_,kx,b9,g8,k5,b8,g9,⟨h0,h1⟩,h2⟩⟩
 ·have h3:X.cell? ⟨m.heap.size,0,none⟩=some (.pointer none):=by rw[cell_of_row _ _ _ _ _ _ b8,g7.out];rfl
  have k6:Hid (Below w.heap.size w X):=V.out.1.trans (Y.below (Nat.le_trans V.out.2 (Nat.le_of_lt a9.out.2.2)) (fun k b1=>by have:=V.out.2;omega));clear b8 Y;go_wp2
  go_ret
  exact⟨rfl,k6.out⟩
 ·obtain⟨Z,a0⟩:∃Z:Fl,Z=⟨oU a6,-1,0,false,0⟩:=⟨_,rfl⟩;have h4:gU Z:=by rw[a0];exact⟨by simp[oU],b0.out.2.2.2.2.2,⟨by show(-1:Int)≤-1;decide,by show(-1:Int)≤1000000;decide⟩,⟨by show(0:Int)≤0;decide,by show(0:Int)≤255;decide⟩⟩
  obtain⟨d2,h5,b2⟩:=Tb w.heap.size g i (m.heap.size) kx g8 k5 b9 (.slice D n cap) _ Z B X (by rw[←g7.out];exact b8) (by rw[a0];exact g9) h0 (by rw[a0];exact h1) (by rw[a0];exact h2) a9.out.2.2 (by rw[a0];exact g4.out.keep (Y.block g g4.out.lt a9.out.1)) (by rw[a0];exact g5.out.keep (Y.block i g5.out.lt a9.out.2.1)) h4 a9.out.1 a9.out.2.1 b0.out.2.2.1 b0.out.2.2.2.1 b0.out.2.2.2.2.1 V.out.2 b0.out.1 b0.out.2.1;have h3:=b2.cells.2.2.2;have h6:w.heap.size≤X.heap.size:=Nat.le_trans V.out.1.size Y.size;have k7:Hid (aH (fun b=>w.heap.size≤b) w X):=(aH.ofBelow V.out.1).trans Y (fun b d=>.inl (by have e:b=m.heap.size:=d;rw[e];exact V.out.2));obtain⟨c0,e2⟩:∃c0,c0=cJ (bQ zs).1 Z.bs:=⟨_,rfl⟩;rw[←e2]at b2;have h7:c0.now=0:=by rw[e2];rfl
  obtain⟨d3,a1⟩:∃d3,d3=pset (p0 g i (.slice D n cap)) kx g8:=⟨_,rfl⟩;rw[←a1]at b2;obtain⟨d,e3⟩:∃d,d=m.heap.size:=⟨_,rfl⟩;rw[←e3]at b2;obtain⟨r,a2⟩:∃r:Nat→World→Prop,r=fun(k:Nat) (W:World)=>∃p k8 u k9 h8 kx b9 d2 Q st F,We w.heap.size p k8 d u k9 h8 kx g i b9 d2 Q st F W∧p 4=.slice D n cap∧(0≤u∧u≤20+2*(k:Int))∧(∀f,(h8 f).length≤100+8*k)∧st.now≤1000*(k:Int)∧aH (fun b=>w.heap.size≤b) w W:=⟨_,rfl⟩
  have h9:Hid (Calls Tryz.prog 32 #[.pointer (some ⟨d,0,none⟩)] X fun e w'=>e=.returned (.bool true)∧r 0 w'):=by
   refine(vJ w.heap.size d3 _ d 0 _ _ kx g i b9 d2 h5 c0 Z X b2 h6 (by omega) (by omega) (fun f=>by simp)).mono ?_;rintro e w' ⟨rfl,L',i0,i1,i2,j,C,z,a3⟩;rw[a2];exact⟨rfl,d3,L',i0,i1,i2,kx,b9,d2,h5,c0,Z,j,by rw[a1];rfl,⟨C.1,by have:=C.2;omega⟩,fun f=>by have:=z f;simp at this;omega,by rw[h7];omega,k7.out.andThen a3⟩
  have l0:Hid (∀k W M a b c,k<A→r k W→(-9223372036854775808≤a∧a≤9223372036854775807)→Calls Tryz.prog 33 #[.pointer (some ⟨d,0,none⟩),.agg #[.int .i64 M,.int .i64 a,.int .i64 b,.int .i64 c]] W fun e w'=>e=.returned (.bool true)∧r (k+1) w'):=fun k W M a b c b1 s l1=>by
   rw[a2]at s ⊢;obtain⟨p1,a4,u,G,H,N,O,R,T,I,v,j,a5,C,z,a3,y⟩:=s;refine(Jr w.heap.size p1 a4 d u G H N g i O R T I v D n cap zs M a b c W j y.size C.1 (by omega) (fun f=>by have:=z f;omega) (by omega) l1 a5 (b7.out.touch y (fun ad e c2 o4=>by have:=b7.out.lt ad e c2;omega)) f5 (fun ad e c2=>b7.out.lt ad e c2)).mono ?_;rintro e w' ⟨rfl,p2,l2,l3,l4,l5,l6,l7,l8,l9,i3,m0,m1,m2,i4,m3,i5,m4⟩;exact⟨rfl,p2,l2,l3,l4,l5,l6,l7,l8,l9,i3,m0,m1,m2,⟨i4.1,by have:=i4.2;omega⟩,fun f=>by have:=m3 f;have:=z f;omega,by omega,y.andThen m4⟩
  have m5:Hid (∀k W,r k W→r (k+1) W):=fun k W s=>by
   rw[a2]at s ⊢;obtain⟨p1,a4,u,G,H,N,O,R,T,I,v,j,a5,C,z,a3,y⟩:=s;exact⟨p1,a4,u,G,H,N,O,R,T,I,v,j,a5,⟨C.1,by omega⟩,fun f=>by have:=z f;omega,by omega,y⟩
  have m6:Hid (∀k W J,r k W→Below W.heap.size W J→r k J):=fun k W J s e4=>by
   rw[a2]at s ⊢;obtain⟨p1,a4,u,G,H,N,O,R,T,I,v,j,a5,C,z,a3,y⟩:=s;have:=j.below y.size e4;exact⟨p1,_,u,G,H,N,O,R,T,I,v,this.1,a5,C,z,a3,y.andThen this.2⟩
  have i6:Hid (∀k W,k≤A→r k W→W.cell? ⟨d,1,none⟩=some (.pointer (some ⟨g,0,none⟩))∧W.cell? ⟨d,3,none⟩=some (.pointer (some ⟨i,0,none⟩))∧qF W d5 A∧d<W.heap.size∧(∃bs left res dead done,bs.length=256∧aS W g bs left res dead done∧aS W i bs left res dead done)∧∀J,Below W.heap.size W J→Calls Tryz.prog 34 #[.pointer (some ⟨d,5,none⟩)] J fun e w'=>e=.returned (.bool true)∧∃q,w'=J.drewN q):=fun k W b1 s=>by
   rw[a2]at s;obtain⟨p1,a4,u,G,H,N,O,R,T,I,v,j,a5,C,z,a3,y⟩:=s;refine⟨j.cells.1,j.cells.2.2.1,j6.out.keep y,lt_of_block j.hnd.blk,⟨v.bs,v.left,v.res,v.dead,v.done,j.kn.mo.flok.len,j.kn.mo.fl,j.ro.fl⟩,fun J e4=>?_⟩;exact Lt p1 _ d u G H J (j.hnd.fresh e4) (fun f=>by have:=z f;omega)
  have m7:Hid (∀W,r A W→Calls Tryz.prog 32 #[.pointer (some ⟨d,0,none⟩)] W fun e w'=>e=.returned (.bool true)∧Below w.heap.size w w'):=fun W s=>by
   rw[a2]at s;obtain⟨p1,a4,u,G,H,N,O,R,T,I,v,j,a5,C,z,a3,y⟩:=s;refine(vJ w.heap.size p1 a4 d u G H N g i O R T I v W j y.size C.1 (by omega) (fun f=>by have:=z f;omega)).mono ?_;rintro e w' ⟨rfl,L',i0,i1,i2,_,_,_,i5⟩;exact⟨rfl,(y.andThen i5).below (Nat.le_refl _) (fun b d=>d)⟩
  have i7:Hid (∀k l,k≤A→r k l→∃ (P:World→Prop) (b3:Nat→Nat→World→Prop) (S:ByteArray),l.cell? ⟨d,1,none⟩=some (.pointer (some ⟨g,0,none⟩))∧l.cell? ⟨d,3,none⟩=some (.pointer (some ⟨i,0,none⟩))∧Hid (P l.drew)∧Hid (∀W,P W→W.cell? ⟨d,1,none⟩=some (.pointer (some ⟨g,0,none⟩))∧W.cell? ⟨d,3,none⟩=some (.pointer (some ⟨i,0,none⟩)))
   ∧Hid (∀x cap W,b3 x cap W→(convert 22 9 (.slice (some ⟨x,0,none⟩) 256 cap)).run Tryz.prog W=.ok (.string S) W)
   ∧Hid (∀b4 W,b4=g∨b4=i→P W→Calls Tryz.prog 35 #[.pointer (some ⟨b4,0,none⟩)] W fun e w'=>∃x cap,e=.returned (.slice (some ⟨x,0,none⟩) 256 cap)∧P w'∧b3 x cap w'∧∀a c,b3 a c W→b3 a c w')
   ∧Hid (∀W,P W→Calls Tryz.prog 34 #[.pointer (some ⟨d,5,none⟩)] W fun e w'=>e=.returned (.bool true)∧P w')
   ∧Hid (∀W,P W→Hid (r k W))):=fun k l b1 L=>by
   obtain⟨c1,b5,_,i8,⟨bs,left,res,dead,done,o5,i9,m8⟩,m9⟩:=i6.out k l b1 L;refine⟨fun W=>Below l.heap.size l W,fun x cap W=>W.ownsRow 0 5 1 (.slice (some ⟨x,0,none⟩) 256 cap) 256 (bZ bs),tI bs,c1,b5,(Below.refl _ _).drew,fun W h=>⟨(h.cell (p:=⟨d,1,none⟩) i8).trans c1,(h.cell (p:=⟨d,3,none⟩) i8).trans b5⟩,fun x cap W h=>Ak i9.len h,fun b4 W c8 h=>?_,fun W h=>?_,fun W h=>m6.out k l W L h⟩
   ·have hF:aS W b4 bs left res dead done:=by rcases c8 with rfl| rfl;exact i9.below h;exact m8.below h
    refine(oK b4 bs left res dead done W hF).mono ?_;rintro e w' ⟨x,cap,rfl,c2,j0⟩;exact⟨x,cap,rfl,h.trans (j0.mono h.size),bI c2 (Nat.zero_le _),fun a c j1=>aO j1 (fun b e=>j0.block b (World.ownsRow.lt j1 b e).2)⟩
   ·refine(m9 W h).mono ?_;rintro e w' ⟨rfl,q,rfl⟩;exact⟨rfl,below_drewN h q⟩
  have n0:=aI e3;clear b2 b8 g9 h0 h1 h2 Y a2 a0 h4 e2 h7 a1 e3 h6;go_wp2_with fail
  rw[←n0.out];refine h9.out.mono ?_;rintro e o6 ⟨rfl,j2⟩;have n1:=aI j2;clear j2 h9 h3;go_wp2
  go_loopw [10,11] (fun o t wr=>∃k:Nat,k≤A∧o=.bool true∧t=.int .i64 k∧Hid (r k wr)) (fun _ t _=>A-(intOf t).toNat)
  case atStart=>exact⟨0,by omega,rfl,rfl,n1⟩
  case round=>
   obtain⟨k,b1,rfl,rfl,d4⟩:=hrel
   by_cases j3:k<A
   ·obtain⟨o7,o8,M,a,b,c,n2,o9,n3,I,i3,p3,n4⟩:=((i6.out k wr b1 d4.out).2.2.1).cell k j3;subst n2
    by_cases e5:M≤last
    ·have n5:decide (M≤last)=true:=by simp[e5]
     have n6:=aI (l0.out k wr M a b c j3 d4.out n4);clear e5;go_wp2_with fail
     refine n6.out.mono ?_;rintro e l ⟨rfl,L⟩;obtain⟨P,b3,S,c1,b5,c3,c4,c5,e6,e7,e8⟩:=i7.out (k+1) l (by omega) L;clear L;go_wp2_with fail
     go_region_held (fun W:World=>W.cell? ⟨d,1,none⟩=some (.pointer (some ⟨g,0,none⟩))∧W.cell? ⟨d,3,none⟩=some (.pointer (some ⟨i,0,none⟩)))
      ((first| exact⟨c1,b5⟩| assumption))
      (first
      | (go_at_call 34;refine(e7.out _ (by first | assumption | exact c3.out)).mono ?_;rintro e n7 ⟨rfl,e9⟩;have f0:=c4.out _ e9)
      | (go_at_call 35;refine(e6.out _ _ (by first | exact .inl rfl | exact .inr rfl) (by first | assumption | exact c3.out)).mono ?_;rintro e w' ⟨x,cap,rfl,a1,f1,f2⟩;have f0:=c4.out _ a1;have n8:=c5.out _ _ _ f1;try (have n9:=c5.out _ _ _ (f2 _ _ (by assumption)))))
     all_goals (
      go_wp2
      go_roundw
      case rel=>exact⟨k+1,by omega,by first| rfl| simp,by go_num,e8.out _ (by assumption)⟩
      case measure=>simp[intOf];omega)
    ·have n5:decide (M≤last)=false:=by simp;omega
     have L:=m5.out k wr d4.out;clear e5;obtain⟨l,f3⟩:∃l,l=wr:=⟨_,rfl⟩;rw[←f3]at L n3;have o0:=aI f3;clear f3;rw[←o0.out];obtain⟨P,b3,S,c1,b5,c3,c4,c5,e6,e7,e8⟩:=i7.out (k+1) l (by omega) L;clear L;go_wp2_with fail
     go_region_held (fun W:World=>W.cell? ⟨d,1,none⟩=some (.pointer (some ⟨g,0,none⟩))∧W.cell? ⟨d,3,none⟩=some (.pointer (some ⟨i,0,none⟩)))
      ((first| exact⟨c1,b5⟩| assumption))
      (first
      | (go_at_call 34;refine(e7.out _ (by first | assumption | exact c3.out)).mono ?_;rintro e n7 ⟨rfl,e9⟩;have f0:=c4.out _ e9)
      | (go_at_call 35;refine(e6.out _ _ (by first | exact .inl rfl | exact .inr rfl) (by first | assumption | exact c3.out)).mono ?_;rintro e w' ⟨x,cap,rfl,a1,f1,f2⟩;have f0:=c4.out _ a1;have n8:=c5.out _ _ _ f1;try (have n9:=c5.out _ _ _ (f2 _ _ (by assumption)))))
     all_goals (
      go_wp2
      go_roundw
      case rel=>exact⟨k+1,by omega,by first| rfl| simp,by go_num,e8.out _ (by assumption)⟩
      case measure=>simp[intOf];omega)
   ·obtain rfl:k=A:=by omega
    have o1:=aI (m7.out wr d4.out);go_wp2_with fail
    refine o1.out.mono ?_;rintro e l ⟨rfl,j4⟩;have o2:=aI j4;clear j4;go_wp2
    go_ret
    exact⟨rfl,o2.out⟩
end
end Go.Proofs.YtnjlbgolnbdkaaaGreat
