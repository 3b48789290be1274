/- All, with short names -/
import Derived.Test.YtnjlbgolnbdkaaaGreatP38
import Derived.Test.YtnjlbgolnbdkaaaGreatP39
set_option maxRecDepth 100000
set_option maxHeartbeats 16000000
namespace Go.Proofs.YtnjlbgolnbdkaaaGreat
open Go Go.RowKit
theorem lZ.keep{base kb g:Nat}{st:aQ}{w w':World}(h:lZ base kb g st w)(a:∀b,base≤b→b<w.heap.size→w'.heap[b]?=w.heap[b]?):lZ base kb g st w':=by
 obtain⟨d,i,vW,vC,j,k,f,l,m,qb,n,o,c⟩:=h;exact⟨d,i,vW,vC,j,k,(a kb d (lt_of_block f)).trans f,l.keep a,m.keep a,qb,n,o,aO c (fun b e=>a b (World.ownsRow.lt c b e).1 (World.ownsRow.lt c b e).2)⟩
theorem xL(p:Nat→Value)(c:Nat)(F:Int)(G:Nat→Value)(d:Option Addr)(n cap:Nat)(zs:List Int)(f g:Nat)(bs:List Int)(left res:Int)(dead:Bool)(done:Int)(a2 a3:Int)(a4:Bool)(a5:Int)(w:World)
 (l:w.heap[c]?=some (.cells (bU p (.slice none 0 0) (.slice none 0 0) F G) 94 (0,0))) (p1:p 1=.pointer (some ⟨f,0,none⟩)) (p3:p 3=.pointer (some ⟨g,0,none⟩)) (d4:p 4=.slice d n cap) (s:gV w d n cap zs) (Q:n≤140737488351232) (f4:f≠c) (c5:g≠c) (f5:∀ad,d=some ad→0<n→ad.block≠c) (f6:aS w f bs left res dead done) (f7:aS w g bs a2 a3 a4 a5):
 Calls Tryz.prog 31 #[.pointer (some ⟨c,0,none⟩)] w fun e w'=>e=.returned (.bool true)∧aH (·=c) w w'∧(((bQ zs).2.2≠0∧w'.heap[c]?=some (.cells (bU p (.slice none 0 0) (.slice none 0 0) F G) 94 (0,0)))∨((bQ zs).2.2=0∧∃kx R m d5,w'.heap[c]?=some (.cells (bU (pset p kx m) (.slice none 0 0) (.slice none 0 0) F G) 94 (0,0))∧eP w' kx R f (cJ (bQ zs).1 bs)∧(w.heap.size≤d5∧∀b,mH kx R (cJ (bQ zs).1 bs) b→w.heap.size≤b∧b<d5)∧lZ d5 m g (cJ (bQ zs).1 bs) w')):=by
 have c1:w.cell? ⟨c,1,none⟩=some (.pointer (some ⟨f,0,none⟩)):=by rw[cell_of_row _ _ _ _ _ _ l,←p1];rfl
 have c6:w.cell? ⟨c,4,none⟩=some (.slice d n cap):=by rw[cell_of_row _ _ _ _ _ _ l,←d4];rfl
 have U:Hid (∀ (W:World) f8 vW,W.heap[c]?=some (.cells (bU p f8 vW F G) 94 (0,0))→W.cell? ⟨c,1,none⟩=some (.pointer (some ⟨f,0,none⟩))∧W.cell? ⟨c,3,none⟩=some (.pointer (some ⟨g,0,none⟩))∧W.cell? ⟨c,4,none⟩=some (.slice d n cap)):=fun W f8 vW a=>⟨by rw[cell_of_row _ _ _ _ _ _ a,←p1];rfl,by rw[cell_of_row _ _ _ _ _ _ a,←p3];rfl,by rw[cell_of_row _ _ _ _ _ _ a,←d4];rfl⟩
 have h9:=aR l;have c7:Hid (Calls Tryz.prog 58 #[.pointer (some ⟨c,5,none⟩),.slice d n cap] w.drew fun e w'=>∃x,e=.returned (.slice (some ⟨x,0,none⟩) n (n+2))∧(w'.cell? ⟨c,1,none⟩=some (.pointer (some ⟨f,0,none⟩))∧w'.cell? ⟨c,4,none⟩=some (.slice d n cap))∧gV w' (some ⟨x,0,none⟩) n (n+2) zs∧∃u c1 v c2,(w.heap.size≤x∧w.heap.size≤u∧w.heap.size≤v)∧w'.heap[x]?=some (.cells (bZ (zs++[165,165])).toArray 5 (0,0))∧w'.cell? ⟨u,0,none⟩=some (.slice (some ⟨x,0,none⟩) (n+2) (n+2))∧w'.cell? ⟨v,0,none⟩=some (.slice d n cap)∧w'.heap[c]?=some (.cells (bU p (.slice (some ⟨u,0,none⟩) 1 c1) (.slice (some ⟨v,0,none⟩) 1 c2) F G) 94 (0,0))∧aH (·=c) w w'):=by
  refine(Qn p c F G d n cap zs w.drew l ⟨s.len,s.cap1,s.cap2,s.bytes,s.none,s.cells,s.lt⟩ Q).mono ?_;rintro e w' ⟨x,u,a6,v,a7,rfl,g9,h0,h1,y,A,B,z,o⟩;exact⟨x,rfl,⟨(U.out w' _ _ z).1,(U.out w' _ _ z).2.2⟩,Ln y s.len s.bytes Q,u,a6,v,a7,⟨g9,h0,h1⟩,y,A,B,z,⟨o.os,o.tape,o.output,o.size,o.block⟩⟩
 have c8:Hid (∀ (W:World) x,aS W f bs left res dead done→gV W (some ⟨x,0,none⟩) n (n+2) zs→Calls Tryz.prog 11 #[.slice (some ⟨x,0,none⟩) n (n+2),.pointer (some ⟨f,0,none⟩)] W fun e w'=>(((bQ zs).2.2≠0∧e=.returned (.tuple #[.pointer none,.int .i64 (bQ zs).2.2]))∨((bQ zs).2.2=0∧∃kb J,e=.returned (.tuple #[.pointer (some ⟨kb,0,none⟩),.int .i64 0])∧eP w' kb J f (cJ (bQ zs).1 bs)∧∀b,mH kb J (cJ (bQ zs).1 bs) b→W.heap.size≤b))∧Below W.heap.size W w'):=fun W x r q=>Ba _ n _ zs f bs left res dead done W q Q r
 have c9:Hid (∀ (W:World),aS W g bs a2 a3 a4 a5→gV W d n cap zs→Calls Tryz.prog 60 #[.slice d n cap,.pointer (some ⟨g,0,none⟩)] W fun e w'=>(((bQ zs).2.2≠0∧e=.returned (.tuple #[.pointer none,.int .i64 (bQ zs).2.2]))∨((bQ zs).2.2=0∧∃kb,e=.returned (.tuple #[.pointer (some ⟨kb,0,none⟩),.int .i64 0])∧lZ W.heap.size kb g (cJ (bQ zs).1 bs) w'))∧Below W.heap.size W w'):=fun W r q=>Iz d n cap zs g bs a2 a3 a4 a5 W q Q r
 have d0:=aI f6;have H:=aI f7;have V:=aI s;have X:=aI f5;clear f6 f7 s f5 l p1 p3 d4;generalize cJ (bQ zs).1 bs=st at *;generalize (bQ zs).2.2=a8 at *
 by_cases d1:a8=0
 ·subst d1;have a9:Hid (∀ (W:World) x,c<W.heap.size→aS W f bs left res dead done→gV W (some ⟨x,0,none⟩) n (n+2) zs→W.cell? ⟨c,1,none⟩=some (.pointer (some ⟨f,0,none⟩))→W.cell? ⟨c,4,none⟩=some (.slice d n cap)→Calls Tryz.prog 11 #[.slice (some ⟨x,0,none⟩) n (n+2),.pointer (some ⟨f,0,none⟩)] W fun e w'=>∃kb,e=.returned (.tuple #[.pointer (some ⟨kb,0,none⟩),.int .i64 0])∧(w'.cell? ⟨c,1,none⟩=some (.pointer (some ⟨f,0,none⟩))∧w'.cell? ⟨c,4,none⟩=some (.slice d n cap))∧(∃J,eP w' kb J f st∧∀b,mH kb J st b→W.heap.size≤b)∧Below W.heap.size W w'):=fun W x b0 r q d6 d7=>(c8.out W x r q).mono (by
   rintro e w' ⟨⟨h,-⟩| ⟨-,kb,J,rfl,Y,h2⟩,j⟩
   ·exact absurd rfl h
   ·exact⟨kb,rfl,⟨(j.cell (p:=⟨c,1,none⟩) b0).trans d6,(j.cell (p:=⟨c,4,none⟩) b0).trans d7⟩,⟨J,Y,h2⟩,j⟩)
  have L:Hid (∀ (W:World),aS W g bs a2 a3 a4 a5→gV W d n cap zs→Calls Tryz.prog 60 #[.slice d n cap,.pointer (some ⟨g,0,none⟩)] W fun e w'=>∃kb,e=.returned (.tuple #[.pointer (some ⟨kb,0,none⟩),.int .i64 0])∧lZ W.heap.size kb g st w'∧Below W.heap.size W w'):=fun W r q=>(c9.out W r q).mono (by
   rintro e w' ⟨⟨h,-⟩| ⟨-,kb,rfl,Y⟩,j⟩
   ·exact absurd rfl h
   ·exact⟨kb,rfl,Y,j⟩)
  clear c8 c9
  go_enter Tryz.func31,Tryz.ntmps31
  go_wp2_with fail
  go_region_held3 (fun w'=>w'.cell? ⟨c,1,none⟩=some (.pointer (some ⟨f,0,none⟩))∧w'.cell? ⟨c,4,none⟩=some (.slice d n cap))
   ((first| exact⟨c1,c6⟩| assumption))
   (first
    | (go_at_call 58;refine c7.out.mono ?_;rintro e b1 ⟨x,rfl,M,b2,b3⟩;have N:=aI b3;clear b3;obtain⟨C,O⟩:=M;have M:=And.intro C O)
    | (go_at_call 11;refine(a9.out _ x (aN C) (d0.out.keep (N.out.choose_spec.choose_spec.choose_spec.choose_spec.2.2.2.2.2.block f d0.out.lt f4)) b2 C O).mono ?_;rintro e b4 ⟨kb,rfl,d8,b5,k⟩;have f9:=aI b5;have b6:=aI k;clear b5 k;have d9:=aI (show b1=b1 from rfl)))
  obtain⟨u,a6,v,a7,⟨b7,e0,e1⟩,y,A,B,z,o⟩:=N.out;obtain⟨R,b5,g0⟩:=f9.out;have k:=b6.out;have e2:x≠c:=by omega
  have b8:=aI (Ei p c x u a6 v a7 F G d n cap zs b4 ((k.block c (aR z)).trans z) ((V.out.touch o X.out).touch (aH.ofBelow (S:=fun _=>False) k) (fun _ _ _ h=>h)) ((k.block x (aR y)).trans y) ((k.cell (p:=⟨u,0,none⟩) (aN A)).trans A) ((k.cell (p:=⟨v,0,none⟩) (aN B)).trans B) e2 Q);have d2:Hid (∀b,mH kb R st b→b≠c∧b≠x∧w.heap.size≤b):=fun b l=>by
   have r:=g0 b l;have q:=aR y;have Y:=o.size;refine⟨?_,?_,?_⟩<;>omega
  have b9:Hid (aH (·=c) w b4):=o.trans (aH.ofBelow (S:=fun _=>False) k) (fun _ h=>h.elim);have c0:=aI b7;have e3:=aI b5;clear N f9 b6 b5 g0 k y A B z o b7 e0 e1 d8 M C O b2 c7 a9 d9 c1 c6;go_wp2_with fail
  refine b8.out.mono ?_;rintro e wb ⟨rfl,D,Z⟩;have E:aH (·=c) w wb:=b9.out.trans Z (fun i e4=>by rcases e4 with rfl| rfl;exact .inl rfl;exact .inr c0.out);have e5:Hid (eP wb kb R f st):=e3.out.keep2 (fun b l=>Z.block b (e3.out.lt b l) (by rintro(rfl| rfl);exact(d2.out _ l).1 rfl;exact(d2.out _ l).2.1 rfl));have e6:=aI (L.out wb (H.out.keep (E.block g H.out.lt c5)) (V.out.touch E X.out));have e7:=(U.out wb _ _ D).2.1;have e8:=(U.out wb _ _ D).2.2;have c3:=aI D;have I:=aI E;clear D E Z b8 b9 e3 c0;have c4:Hid (Calls Tryz.prog 60 #[.slice d n cap,.pointer (some ⟨g,0,none⟩)] wb.drew fun e w'=>∃kb,e=.returned (.tuple #[.pointer (some ⟨kb,0,none⟩),.int .i64 0])∧lZ wb.heap.size kb g st w'∧Below wb.heap.size wb w'):=(L.out wb.drew (H.out.keep (I.out.block g H.out.lt c5)) (have h:=V.out.touch I.out X.out;⟨h.len,h.cap1,h.cap2,h.bytes,h.none,h.cells,h.lt⟩)).mono (by
   rintro e w' ⟨kb,rfl,Y,j⟩;exact⟨kb,rfl,Y,j.os,j.tape,j.output,j.size,j.block⟩)
  clear e6;go_wp2_with fail
  go_cut [6,7]from 28 to 40 (fun e9 f0 a0=>∃m,e9=.pointer (some ⟨m,0,none⟩)∧f0=.int .i64 0∧lZ wb.heap.size m g st a0∧Below wb.heap.size wb a0)
  case first=>
   go_region_with (go_at_call 60;refine c4.out.mono ?_;rintro e a0 ⟨m,rfl,h3,f1⟩)
   all_goals (go_wp2_with fail;go_meet;exact⟨m,rfl,rfl,h3,f1⟩)
  case rest=>
   obtain⟨m,rfl,rfl,g1,P⟩:=hcut;have f2:c<wb.heap.size:=aR c3.out;have a1:=(P.block c f2).trans c3.out;have i0:wc.cell? ⟨c,0,none⟩=some (p 0):=aD a1;have i1:wc.cell? ⟨c,2,none⟩=some (p 2):=aD a1;have i2:=aJ a1 0;have i3:=aJ a1 2;have g2:=aK (aK a1 0 (.pointer (some ⟨kb,0,none⟩))) 2 (.pointer (some ⟨m,0,none⟩));have g3:aH (·=c) wb ((wc.setCell ⟨c,0,none⟩ (.pointer (some ⟨kb,0,none⟩))).setCell ⟨c,2,none⟩ (.pointer (some ⟨m,0,none⟩))):=((aH.ofBelow (S:=(·=c)) P).trans (T:=(·=c)) (aH.ofSet wc c 0 _ rfl) (fun _ h=>.inl h)).trans (T:=(·=c)) (aH.ofSet _ c 2 _ rfl) (fun _ h=>.inl h);have g4:lZ wb.heap.size m g st ((wc.setCell ⟨c,0,none⟩ (.pointer (some ⟨kb,0,none⟩))).setCell ⟨c,2,none⟩ (.pointer (some ⟨m,0,none⟩))):=g1.keep (fun b r q=>by
    have h4:=(aH.ofSet (S:=(·=c)) wc c 0 (.pointer (some ⟨kb,0,none⟩)) rfl);have h5:=h4.trans (T:=(·=c)) (aH.ofSet (S:=(·=c)) (wc.setCell ⟨c,0,none⟩ (.pointer (some ⟨kb,0,none⟩))) c 2 (.pointer (some ⟨m,0,none⟩)) rfl) (fun _ h=>.inl h);exact h5.block b q (by omega))
   have g5:=aI g2;have f3:=aI g3;have g6:=aI g4;clear g2 g3 g4 a1 g1 P e7 e8 c4 L;go_wp2_with fail
   refine(qY _ _).mono ?_;rintro e h6 ⟨rfl,d3⟩;obtain⟨g7,g8⟩:∃g7,g7=((wc.setCell ⟨c,0,none⟩ (.pointer (some ⟨kb,0,none⟩))).setCell ⟨c,2,none⟩ (.pointer (some ⟨m,0,none⟩))):=⟨_,rfl⟩;rw[←g8]at d3 g5 f3 g6;subst d3;clear g8;go_wp2
   go_ret
   exact⟨rfl,I.out.trans f3.out (fun _ h=>.inl h),.inr ⟨trivial,kb,R,m,wb.heap.size,g5.out,e5.out.keep2 (fun b l=>f3.out.block b (e5.out.lt b l) (d2.out b l).1),⟨I.out.size,fun b l=>⟨(d2.out b l).2.2,e5.out.lt b l⟩⟩,g6.out⟩⟩
 ·have a9:Hid (∀ (W:World) x,c<W.heap.size→aS W f bs left res dead done→gV W (some ⟨x,0,none⟩) n (n+2) zs→W.cell? ⟨c,1,none⟩=some (.pointer (some ⟨f,0,none⟩))→W.cell? ⟨c,4,none⟩=some (.slice d n cap)→Calls Tryz.prog 11 #[.slice (some ⟨x,0,none⟩) n (n+2),.pointer (some ⟨f,0,none⟩)] W fun e w'=>e=.returned (.tuple #[.pointer none,.int .i64 a8])∧(w'.cell? ⟨c,1,none⟩=some (.pointer (some ⟨f,0,none⟩))∧w'.cell? ⟨c,4,none⟩=some (.slice d n cap))∧Below W.heap.size W w'):=fun W x b0 r q d6 d7=>(c8.out W x r q).mono (by
   rintro e w' ⟨⟨-,rfl⟩| ⟨h,-⟩,j⟩
   rotate_left
   ·exact absurd h d1
   ·exact⟨rfl,⟨(j.cell (p:=⟨c,1,none⟩) b0).trans d6,(j.cell (p:=⟨c,4,none⟩) b0).trans d7⟩,j⟩)
  have L:Hid (∀ (W:World),aS W g bs a2 a3 a4 a5→gV W d n cap zs→Calls Tryz.prog 60 #[.slice d n cap,.pointer (some ⟨g,0,none⟩)] W fun e w'=>e=.returned (.tuple #[.pointer none,.int .i64 a8])∧Below W.heap.size W w'):=fun W r q=>(c9.out W r q).mono (by
   rintro e w' ⟨⟨-,rfl⟩| ⟨h,-⟩,j⟩
   rotate_left
   ·exact absurd h d1
   ·exact⟨rfl,j⟩)
  clear c8 c9
  go_enter Tryz.func31,Tryz.ntmps31
  go_wp2_with fail
  go_region_held3 (fun w'=>w'.cell? ⟨c,1,none⟩=some (.pointer (some ⟨f,0,none⟩))∧w'.cell? ⟨c,4,none⟩=some (.slice d n cap))
   ((first| exact⟨c1,c6⟩| assumption))
   (first
    | (go_at_call 58;refine c7.out.mono ?_;rintro e b1 ⟨x,rfl,M,b2,b3⟩;have N:=aI b3;clear b3;obtain⟨C,O⟩:=M;have M:=And.intro C O)
    | (go_at_call 11;refine(a9.out _ x (aN C) (d0.out.keep (N.out.choose_spec.choose_spec.choose_spec.choose_spec.2.2.2.2.2.block f d0.out.lt f4)) b2 C O).mono ?_;rintro e b4 ⟨rfl,d8,k⟩;have b6:=aI k;clear k;have d9:=aI (show b1=b1 from rfl)))
  obtain⟨u,a6,v,a7,⟨b7,e0,e1⟩,y,A,B,z,o⟩:=N.out;have k:=b6.out;have e2:x≠c:=by omega
  have b8:=aI (Ei p c x u a6 v a7 F G d n cap zs b4 ((k.block c (aR z)).trans z) ((V.out.touch o X.out).touch (aH.ofBelow (S:=fun _=>False) k) (fun _ _ _ h=>h)) ((k.block x (aR y)).trans y) ((k.cell (p:=⟨u,0,none⟩) (aN A)).trans A) ((k.cell (p:=⟨v,0,none⟩) (aN B)).trans B) e2 Q);have b9:Hid (aH (·=c) w b4):=o.trans (aH.ofBelow (S:=fun _=>False) k) (fun _ h=>h.elim);have c0:=aI b7;clear N b6 k y A B z o b7 e0 e1 d8 M C O b2 c7 a9 d9 c1 c6;go_wp2_with fail
  refine b8.out.mono ?_;rintro e wb ⟨rfl,D,Z⟩;have E:aH (·=c) w wb:=b9.out.trans Z (fun i e4=>by rcases e4 with rfl| rfl;exact .inl rfl;exact .inr c0.out);have e6:=aI (L.out wb (H.out.keep (E.block g H.out.lt c5)) (V.out.touch E X.out));have e7:=(U.out wb _ _ D).2.1;have e8:=(U.out wb _ _ D).2.2;have c3:=aI D;have I:=aI E;clear D E Z b8 b9 c0;have c4:Hid (Calls Tryz.prog 60 #[.slice d n cap,.pointer (some ⟨g,0,none⟩)] wb.drew fun e w'=>e=.returned (.tuple #[.pointer none,.int .i64 a8])∧Below wb.heap.size wb w'):=(L.out wb.drew (H.out.keep (I.out.block g H.out.lt c5)) (have h:=V.out.touch I.out X.out;⟨h.len,h.cap1,h.cap2,h.bytes,h.none,h.cells,h.lt⟩)).mono (by
   rintro e w' ⟨rfl,j⟩;exact⟨rfl,j.os,j.tape,j.output,j.size,j.block⟩)
  clear e6;go_wp2_with fail
  go_cut [6,7]from 28 to 40 (fun e9 f0 a0=>e9=.pointer none∧f0=.int .i64 a8∧Below wb.heap.size wb a0)
  case first=>
   go_region_with (go_at_call 60;refine c4.out.mono ?_;rintro e a0 ⟨rfl,f1⟩)
   all_goals (go_wp2_with fail;go_meet;exact⟨rfl,rfl,f1⟩)
  case rest=>
   obtain⟨rfl,rfl,P⟩:=hcut;have f2:c<wb.heap.size:=aR c3.out;have h7:=aI ((P.block c f2).trans c3.out);have h8:=aI P;clear P e7 e8 c4 L;go_wp2_with fail
   refine(qY _ _).mono ?_;rintro e h6 ⟨rfl,d3⟩;subst d3;go_wp2
   go_ret
   exact⟨rfl,I.out.trans (aH.ofBelow (S:=fun _=>False) h8.out) (fun _ h=>h.elim),.inl ⟨d1,h7.out⟩⟩
end Go.Proofs.YtnjlbgolnbdkaaaGreat
