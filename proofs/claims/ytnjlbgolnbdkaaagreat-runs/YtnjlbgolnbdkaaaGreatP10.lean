/- All, with short names -/
import Derived.Test.YtnjlbgolnbdkaaaGreatP09
import Derived.Test.YtnjlbgolnbdkaaaGreatP08
set_option maxRecDepth 100000
set_option maxHeartbeats 16000000
namespace Go.Proofs.YtnjlbgolnbdkaaaGreat
open Go Go.RowKit
theorem cA.keep{x:Nat}{bs:List Int}{s:Nat}{w w':World}(h:cA x bs s w)(a:w'.heap[x]?=w.heap[x]?):cA x bs s w':=aO h (fun b e=>by
 obtain rfl:x=b:=by simpa[Value.ownBlock]using e
 exact a)
theorem cA.alloc{x:Nat}{bs:List Int}{s:Nat}{w:World}(h:cA x bs s w)(o:Obj):cA x bs s (w.alloc o):=h.keep (Below.heap_alloc _ _ _ h.lt)
theorem cA.set{x:Nat}{bs:List Int}{s:Nat}{w:World}{b o:Nat}(v:Value)(h:cA x bs s w)(a:x≠b):cA x bs s (w.setCell ⟨b,o,none⟩ v):=h.keep ((aH.ofSet (S:=(·=b)) w b o v rfl).block x h.lt a)
theorem cA.drew{x:Nat}{bs:List Int}{s:Nat}{w:World}(h:cA x bs s w):cA x bs s w.drew:=h.keep rfl
theorem cA.ne{x:Nat}{bs:List Int}{s:Nat}{w:World}{b:Nat}{c:Array Value}{t:TypeId}{d:Nat×Nat}(h:cA x bs s w)(f:w.heap[b]?=some (.cells c t d))(g:t≠259):x≠b:=by
 rintro rfl;obtain⟨cur,a⟩:=cV h rfl;rw[f]at a;simp at a;exact g a.2.1
theorem qE(g:Nat)(bs:List Int)(left res:Int)(dead:Bool)(done:Int)(w:World)(h:aS w g bs left res dead done):
 Calls Tryz.prog 89 #[.agg #[.pointer (some ⟨g,0,none⟩)]] w fun e w'=>∃x N,e=.returned (.tuple #[.agg #[.int .i64 ((bE bs).1:Nat),.slice (some ⟨x,0,none⟩) 8 8],.agg #[.int .i64 ((bE bs).2:Nat),.slice (some ⟨N,0,none⟩) 8 8]])∧cA x bs (bE bs).1 w'∧cA N bs (bE bs).2 w'∧Below w.heap.size w w':=by
 obtain⟨n,G⟩:∃n,n=((w.alloc (.cells #[.pointer (some ⟨g,0,none⟩)] 107)).alloc (.cells #[.int .i64 0,.slice none 0 0] 183)).alloc (.cells #[.int .i64 0,.slice none 0 0] 183):=⟨_,rfl⟩;have b5:n.heap.size=w.heap.size+3:=by rw[G];simp
 have b6:Below w.heap.size w n:=by rw[G];exact((aG _ _).alloc (by simp) _).alloc (by simp;omega) _
 have c7:n.heap[w.heap.size]?=some (.cells #[.pointer (some ⟨g,0,none⟩)] 107 (0,0)):=by rw[G,Below.heap_alloc _ _ _ (by simp;omega),Below.heap_alloc _ _ _ (by simp)];exact heap_alloc_new w _
 have c8:n.heap[w.heap.size+1]?=some (.cells #[.int .i64 0,.slice none 0 0] 183 (0,0)):=by rw[G,Below.heap_alloc _ _ _ (by simp)];exact cG (by simp)
 have c9:n.heap[w.heap.size+2]?=some (.cells #[.int .i64 0,.slice none 0 0] 183 (0,0)):=by rw[G];exact cG (by simp)
 have d7:=aI c8;have d8:=aI c9;clear c8 c9;obtain⟨P,H⟩:∃P:World→Prop,P=fun W=>Below n.heap.size n W:=⟨_,rfl⟩
 have b7:Hid (P n):=by show P n;rw[H];exact Below.refl _ _
 have b8:Hid (∀W,P W→Below n.heap.size n W):=fun W h=>by rw[H]at h;exact h
 have d9:Hid (∀W b9,P W→Below W.heap.size W b9→P b9):=fun W b9 h A=>by rw[H]at h ⊢;exact h.trans (A.mono h.size)
 have c0:Hid (∀W,P W→P W.drew):=fun W h=>by rw[H]at h ⊢;exact h.drew
 have c1:Hid (∀W o,P W→P (W.alloc o)):=fun W o h=>by rw[H]at h ⊢;exact h.alloc h.size _
 have d0:Hid (∀W b o v,n.heap.size≤b→P W→P (W.setCell ⟨b,o,none⟩ v)):=fun W b o v A h=>by rw[H]at h ⊢;exact h.setCell (p:=⟨b,o,none⟩) A v
 have d1:Hid (∀W,P W→W.cell? ⟨w.heap.size,0,none⟩=some (.pointer (some ⟨g,0,none⟩))∧P W):=fun W h=>by
  have a:=((b8.out W h).block _ (by omega)).trans c7;exact⟨aD a,h⟩
 have e0:Hid (∀ (z:Int) W,z=0∨z=1→P W→Calls Tryz.prog 124 #[.agg #[.pointer (some ⟨g,0,none⟩)],.int .i64 z] W fun e w'=>∃x,e=.returned (.agg #[.int .i64 z,.slice (some ⟨x,0,none⟩) 8 8])∧((z=0→cA x bs 0 w')∧(z=1→cA x bs 1 w'))∧W.heap.size≤x∧Below W.heap.size W w'∧P w'):=fun z W c2 O=>by
  obtain⟨s,e1,rfl⟩:∃s:Nat,s<2∧z=(s:Int):=by
   rcases c2 with rfl| rfl
   ·exact⟨0,by omega,rfl⟩
   ·exact⟨1,by omega,rfl⟩
  refine(Ny g bs left res dead done s W e1 ((h.below b6).below ((b8.out W O).mono (by omega)))).mono ?_;rintro e w' ⟨x,e2,c3,A⟩;refine⟨x,e2,⟨fun c2=>?_,fun c2=>?_⟩,(World.ownsRow.lt c3 x rfl).1,A,d9.out _ _ O A⟩
  ·obtain rfl:s=0:=by omega
   exact bI c3 (by omega)
  ·obtain rfl:s=1:=by omega
   exact bI c3 (by omega)
 have e3:=aI G;have e4:=aI b6;have e5:=aI b5;clear h G b6 b5 c7 H;obtain⟨f0,_⟩:=d1.out _ b7.out
 go_enter Tryz.func89,Tryz.ntmps89
 go_wp2_with fail
 rw[←e3.out]
 go_cut [4,5]from 6 to 9 (fun e6 e7 I=>∃q r j k,e6=.pointer (some ⟨q,0,none⟩)∧e7=.pointer (some ⟨r,0,none⟩)∧I.cell? ⟨q,0,none⟩=some (.int .i64 0)∧I.cell? ⟨q,1,none⟩=some (.slice (some ⟨j,0,none⟩) 8 8)∧I.cell? ⟨r,0,none⟩=some (.int .i64 1)∧I.cell? ⟨r,1,none⟩=some (.slice (some ⟨k,0,none⟩) 8 8)∧cA j bs 0 I∧cA k bs 1 I∧P I∧n.heap.size≤q∧n.heap.size≤r)
 case first=>
  go_region_held3 (fun w'=>w'.cell? ⟨w.heap.size,0,none⟩=some (.pointer (some ⟨g,0,none⟩))∧P w')
   ((refine d1.out _ ?_;repeat (first| exact b7.out| assumption| refine c0.out _ ?_| refine c1.out _ _ ?_| refine d0.out _ _ _ _ (by first| omega| (simp;omega)) ?_)))
   ((go_at_call 124;refine(e0.out _ _ (by first| exact .inl rfl| exact .inr rfl) (by repeat (first| exact b7.out| assumption| refine c0.out _ ?_| refine c1.out _ _ ?_))).mono ?_;rintro e D ⟨x,rfl,a2,a3,A,O⟩;have f1:=fun p h=>A.cell (p:=p) h;have f2:=fun p h=>A.frozen (p:=p) h;have f3:∀b,b<_→b<D.heap.size:=fun b h=>Nat.lt_of_lt_of_le h A.size;have f4:∀b,b<_→b<D.heap.size+1:=fun b h=>Nat.lt_succ_of_lt (Nat.lt_of_lt_of_le h A.size);have f5:∀b,b<_→¬b=D.heap.size:=fun b h=>Nat.ne_of_lt (Nat.lt_of_lt_of_le h A.size);have f6:∀b,b<_→¬b=D.heap.size+1:=fun b h=>Nat.ne_of_lt (Nat.lt_succ_of_lt (Nat.lt_of_lt_of_le h A.size));have a4:=A.size;(try rw[World.size_drew]at a4 a3);(try rw[World.size_alloc]at a4 a3);(try rw[World.size_alloc]at a4 a3);(try rw[World.size_drew]at a4 a3);(try have f7:n.heap.size<D.heap.size:=(by omega));(try have f8:n.heap.size+1<D.heap.size:=(by omega));have f9:n.heap.size<D.heap.size+1:=(by omega);have g0:n.heap.size<D.heap.size+1+1:=(by omega);(try have g1:n.heap.size+1<D.heap.size+1:=(by omega));(first| (have J:=a2.1 rfl;clear a2;obtain⟨j,c4⟩:∃N,N=x:=⟨x,rfl⟩;subst c4)| (have L:=a2.2 rfl;clear a2;have e8:=A;obtain⟨k,c4⟩:∃N,N=x:=⟨x,rfl⟩;subst c4))))
  all_goals
   have g2:=J.lt;have R:=L.lt;go_wp2_with fail
   go_meet
   refine⟨_,_,j,k,rfl,rfl,?_,?_,?_,?_,?_,?_,?_,?_,?_⟩
   ·first| (go_simp;done)| (go_simp;refine World.cell?_setCell_same' _ _ _ ?_;go_simp)
   ·first| (go_simp;done)| (go_simp;refine World.cell?_setCell_same' _ _ _ ?_;go_simp)
   ·first| (go_simp;done)| (go_simp;refine World.cell?_setCell_same' _ _ _ ?_;go_simp)
   ·first| (go_simp;done)| (go_simp;refine World.cell?_setCell_same' _ _ _ ?_;go_simp)
   ·repeat (first| (with_reducible refine cA.alloc ?_ _)| (with_reducible refine cA.set _ ?_ (by first| omega| (simp;omega)))| (with_reducible exact J)| (with_reducible refine cA.below ?_ e8))
   ·repeat (first| (with_reducible refine cA.alloc ?_ _)| (with_reducible refine cA.set _ ?_ (by first| omega| (simp;omega)))| (with_reducible exact L))
   ·repeat (first| (with_reducible refine c1.out _ _ ?_)| (with_reducible refine c0.out _ ?_)| (with_reducible refine d0.out _ _ _ _ (by first| omega| (simp;omega)) ?_)| (with_reducible assumption))
   ·first| omega| (simp;omega)
   ·first| omega| (simp;omega)
 case rest=>
  obtain⟨q,r,j,k,rfl,rfl,c5,d2,c6,d3,J,L,O,g3,g4⟩:=hcut;have S:=b8.out _ O;have e9:=S.size;have b5:=e5.out;obtain⟨ι,g5,f,u,Q⟩:=lA wc;have d4:q<wc.heap.size:=aN c5;have d5:r<wc.heap.size:=aN c6;have g6:∀i,(f i).cell? ⟨q,0,none⟩=some (.int .i64 0):=fun i=>((u i).cell (p:=⟨q,0,none⟩) d4).trans c5
  have g7:∀i,(f i).cell? ⟨q,1,none⟩=some (.slice (some ⟨j,0,none⟩) 8 8):=fun i=>((u i).cell (p:=⟨q,1,none⟩) d4).trans d2
  have g8:∀i,(f i).cell? ⟨r,0,none⟩=some (.int .i64 1):=fun i=>((u i).cell (p:=⟨r,0,none⟩) d5).trans c6
  have g9:∀i,(f i).cell? ⟨r,1,none⟩=some (.slice (some ⟨k,0,none⟩) 8 8):=fun i=>((u i).cell (p:=⟨r,1,none⟩) d5).trans d3
  have B:Hid (∀i,Calls Tryz.prog 125 #[.agg #[.int .i64 0,.slice (some ⟨j,0,none⟩) 8 8]] (f i) fun e w'=>e=.returned (.bool (cH bs 0))∧∃M,w'=f M):=fun i=>Calls.inClass u Q i (kZ j bs 0 _ (J.below (u i)))
  have C:Hid (∀i,Calls Tryz.prog 125 #[.agg #[.int .i64 1,.slice (some ⟨k,0,none⟩) 8 8]] (f i) fun e w'=>e=.returned (.bool (cH bs 1))∧∃M,w'=f M):=fun i=>Calls.inClass u Q i (kZ k bs 1 _ (L.below (u i)))
  have T:Hid (∀i,Calls Tryz.prog 126 #[.agg #[.int .i64 0,.slice (some ⟨j,0,none⟩) 8 8]] (f i) fun e w'=>e=.returned (.int .i64 (eC bs 0))∧∃M,w'=f M):=fun i=>Calls.inClass u Q i (kH j bs 0 _ (J.below (u i)))
  have U:Hid (∀i,Calls Tryz.prog 126 #[.agg #[.int .i64 1,.slice (some ⟨k,0,none⟩) 8 8]] (f i) fun e w'=>e=.returned (.int .i64 (eC bs 1))∧∃M,w'=f M):=fun i=>Calls.inClass u Q i (kH k bs 1 _ (L.below (u i)))
  have V:Hid (∃i,wc.drew=f i):=Q _ (Below.refl _ _).drew;have X:Hid (∀i,(f i).heap[w.heap.size+1]?=some (.cells #[.int .i64 0,.slice none 0 0] 183 (0,0))∧(f i).heap[w.heap.size+2]?=some (.cells #[.int .i64 0,.slice none 0 0] 183 (0,0))):=fun i=>⟨((u i).block _ (by omega)).trans ((S.block _ (by omega)).trans d7.out),((u i).block _ (by omega)).trans ((S.block _ (by omega)).trans d8.out)⟩
  have Y:Hid (∀i,Below w.heap.size w (f i)):=fun i=>e4.out.trans ((S.mono (by omega)).trans ((u i).mono (by omega)))
  have Z:Hid (∀i,cA j bs 0 (f i)∧cA k bs 1 (f i)):=fun i=>⟨J.below (u i),L.below (u i)⟩
  have a0:Hid (∀i,n.heap.size≤(f i).heap.size):=fun i=>Nat.le_trans e9 (u i).size
  have a1:Hid (bE bs=if cH bs 0&&(!cH bs 1||decide (eC bs 1≤eC bs 0))then(0,1)else(1,0)):=rfl;clear c5 d2 c6 d3 J L O S u Q;rcases hX:cH bs 0 with _| _<;>rcases hY:cH bs 1 with _| _
  case false.false=>
   have y:Hid (bE bs=(1,0)):=by show _=_;rw[a1.out,hX,hY];rfl
   rw[hX]at B;rw[hY]at C;clear hX hY;go_wp2_with fail
   refine bV f (by kernel_rfl) (by kernel_rfl) V.out ?_
   repeat (go_big_quiet_step (first| (go_at_call 125;first| (with_reducible exact B.out _)| (with_reducible exact C.out _))| (go_at_call 126;first| (with_reducible exact T.out _)| (with_reducible exact U.out _))))
   refine wpQuiet_nil ?_;rintro _ ⟨i,rfl⟩;obtain⟨c,d⟩:=X.out i;obtain⟨k0,l⟩:=Z.out i;have m:Hid ((j≠w.heap.size+1∧j≠w.heap.size+1+1)∧(k≠w.heap.size+1∧k≠w.heap.size+1+1)):=⟨⟨k0.ne c (by decide),k0.ne d (by decide)⟩,⟨l.ne c (by decide),l.ne d (by decide)⟩⟩;have E:=aI k0;have F:=aI l;have z0:(f i).cell? ⟨w.heap.size+1,0,none⟩=some (.int .i64 0):=aD c;have z1:(f i).cell? ⟨w.heap.size+1,1,none⟩=some (.slice none 0 0):=aD c;have z2:(f i).cell? ⟨w.heap.size+1+1,0,none⟩=some (.int .i64 0):=aD d;have z3:(f i).cell? ⟨w.heap.size+1+1,1,none⟩=some (.slice none 0 0):=aD d;have a5:=aJ c 0;have a6:=aJ c 1;have a7:=aJ d 0;have a8:=aJ d 1;have a9:=a0.out i;have b0:¬q=w.heap.size+1:=by omega
   have b1:¬q=w.heap.size+1+1:=by omega
   have b2:¬r=w.heap.size+1:=by omega
   have b3:¬r=w.heap.size+1+1:=by omega
   have R:w.heap.size+1<(f i).heap.size:=by omega
   have b4:w.heap.size+1+1<(f i).heap.size:=by omega
   clear c d k0 l;go_wp2_with fail
   go_region
   all_goals
    go_wp2
    refine bodyPost_ret (v:=.tuple #[.agg #[.int .i64 1,.slice (some ⟨k,0,none⟩) 8 8],.agg #[.int .i64 0,.slice (some ⟨j,0,none⟩) 8 8]]) (by simp[results,Tryz.results89,go_sem,z0,z1,z2,z3]) rfl ?_;refine⟨k,j,by rw[y.out];rfl,?_,?_,?_⟩
    ·rw[y.out]
     repeat (first| (with_reducible exact F.out)| (with_reducible refine cA.set _ ?_ (by first| exact m.out.2.1| exact m.out.2.2))| (with_reducible refine cA.drew ?_))
    ·rw[y.out]
     repeat (first| (with_reducible exact E.out)| (with_reducible refine cA.set _ ?_ (by first| exact m.out.1.1| exact m.out.1.2))| (with_reducible refine cA.drew ?_))
    ·repeat (first| (with_reducible exact Y.out i)| (with_reducible refine Below.thenSet ?_ (by omega) _ _)| (with_reducible refine Below.drew ?_))
  case false.true=>
   have y:Hid (bE bs=(1,0)):=by show _=_;rw[a1.out,hX,hY];rfl
   rw[hX]at B;rw[hY]at C;clear hX hY;go_wp2_with fail
   refine bV f (by kernel_rfl) (by kernel_rfl) V.out ?_
   repeat (go_big_quiet_step (first| (go_at_call 125;first| (with_reducible exact B.out _)| (with_reducible exact C.out _))| (go_at_call 126;first| (with_reducible exact T.out _)| (with_reducible exact U.out _))))
   refine wpQuiet_nil ?_;rintro _ ⟨i,rfl⟩;obtain⟨c,d⟩:=X.out i;obtain⟨k0,l⟩:=Z.out i;have m:Hid ((j≠w.heap.size+1∧j≠w.heap.size+1+1)∧(k≠w.heap.size+1∧k≠w.heap.size+1+1)):=⟨⟨k0.ne c (by decide),k0.ne d (by decide)⟩,⟨l.ne c (by decide),l.ne d (by decide)⟩⟩;have E:=aI k0;have F:=aI l;have z0:(f i).cell? ⟨w.heap.size+1,0,none⟩=some (.int .i64 0):=aD c;have z1:(f i).cell? ⟨w.heap.size+1,1,none⟩=some (.slice none 0 0):=aD c;have z2:(f i).cell? ⟨w.heap.size+1+1,0,none⟩=some (.int .i64 0):=aD d;have z3:(f i).cell? ⟨w.heap.size+1+1,1,none⟩=some (.slice none 0 0):=aD d;have a5:=aJ c 0;have a6:=aJ c 1;have a7:=aJ d 0;have a8:=aJ d 1;have a9:=a0.out i;have b0:¬q=w.heap.size+1:=by omega
   have b1:¬q=w.heap.size+1+1:=by omega
   have b2:¬r=w.heap.size+1:=by omega
   have b3:¬r=w.heap.size+1+1:=by omega
   have R:w.heap.size+1<(f i).heap.size:=by omega
   have b4:w.heap.size+1+1<(f i).heap.size:=by omega
   clear c d k0 l;go_wp2_with fail
   go_region
   all_goals
    go_wp2
    refine bodyPost_ret (v:=.tuple #[.agg #[.int .i64 1,.slice (some ⟨k,0,none⟩) 8 8],.agg #[.int .i64 0,.slice (some ⟨j,0,none⟩) 8 8]]) (by simp[results,Tryz.results89,go_sem,z0,z1,z2,z3]) rfl ?_;refine⟨k,j,by rw[y.out];rfl,?_,?_,?_⟩
    ·rw[y.out]
     repeat (first| (with_reducible exact F.out)| (with_reducible refine cA.set _ ?_ (by first| exact m.out.2.1| exact m.out.2.2))| (with_reducible refine cA.drew ?_))
    ·rw[y.out]
     repeat (first| (with_reducible exact E.out)| (with_reducible refine cA.set _ ?_ (by first| exact m.out.1.1| exact m.out.1.2))| (with_reducible refine cA.drew ?_))
    ·repeat (first| (with_reducible exact Y.out i)| (with_reducible refine Below.thenSet ?_ (by omega) _ _)| (with_reducible refine Below.drew ?_))
  case true.false=>
   have y:Hid (bE bs=(0,1)):=by show _=_;rw[a1.out,hX,hY];rfl
   rw[hX]at B;rw[hY]at C;clear hX hY;go_wp2_with fail
   refine bV f (by kernel_rfl) (by kernel_rfl) V.out ?_
   repeat (go_big_quiet_step (first| (go_at_call 125;first| (with_reducible exact B.out _)| (with_reducible exact C.out _))| (go_at_call 126;first| (with_reducible exact T.out _)| (with_reducible exact U.out _))))
   refine wpQuiet_nil ?_;rintro _ ⟨i,rfl⟩;obtain⟨c,d⟩:=X.out i;obtain⟨k0,l⟩:=Z.out i;have m:Hid ((j≠w.heap.size+1∧j≠w.heap.size+1+1)∧(k≠w.heap.size+1∧k≠w.heap.size+1+1)):=⟨⟨k0.ne c (by decide),k0.ne d (by decide)⟩,⟨l.ne c (by decide),l.ne d (by decide)⟩⟩;have E:=aI k0;have F:=aI l;have z0:(f i).cell? ⟨w.heap.size+1,0,none⟩=some (.int .i64 0):=aD c;have z1:(f i).cell? ⟨w.heap.size+1,1,none⟩=some (.slice none 0 0):=aD c;have z2:(f i).cell? ⟨w.heap.size+1+1,0,none⟩=some (.int .i64 0):=aD d;have z3:(f i).cell? ⟨w.heap.size+1+1,1,none⟩=some (.slice none 0 0):=aD d;have a5:=aJ c 0;have a6:=aJ c 1;have a7:=aJ d 0;have a8:=aJ d 1;have a9:=a0.out i;have b0:¬q=w.heap.size+1:=by omega
   have b1:¬q=w.heap.size+1+1:=by omega
   have b2:¬r=w.heap.size+1:=by omega
   have b3:¬r=w.heap.size+1+1:=by omega
   have R:w.heap.size+1<(f i).heap.size:=by omega
   have b4:w.heap.size+1+1<(f i).heap.size:=by omega
   clear c d k0 l;go_wp2_with fail
   go_region
   all_goals
    go_wp2
    refine bodyPost_ret (v:=.tuple #[.agg #[.int .i64 0,.slice (some ⟨j,0,none⟩) 8 8],.agg #[.int .i64 1,.slice (some ⟨k,0,none⟩) 8 8]]) (by simp[results,Tryz.results89,go_sem,z0,z1,z2,z3]) rfl ?_;refine⟨j,k,by rw[y.out];rfl,?_,?_,?_⟩
    ·rw[y.out]
     repeat (first| (with_reducible exact E.out)| (with_reducible refine cA.set _ ?_ (by first| exact m.out.1.1| exact m.out.1.2))| (with_reducible refine cA.drew ?_))
    ·rw[y.out]
     repeat (first| (with_reducible exact F.out)| (with_reducible refine cA.set _ ?_ (by first| exact m.out.2.1| exact m.out.2.2))| (with_reducible refine cA.drew ?_))
    ·repeat (first| (with_reducible exact Y.out i)| (with_reducible refine Below.thenSet ?_ (by omega) _ _)| (with_reducible refine Below.drew ?_))
  case true.true=>
   by_cases d6:eC bs 1≤eC bs 0
   ·have y:Hid (bE bs=(0,1)):=by show _=_;rw[a1.out,hX,hY,decide_eq_true d6];rfl
    rw[hX]at B;rw[hY]at C;clear hX hY;go_wp2_with fail
    refine bV f (by kernel_rfl) (by kernel_rfl) V.out ?_
    repeat (go_big_quiet_step (first| (go_at_call 125;first| (with_reducible exact B.out _)| (with_reducible exact C.out _))| (go_at_call 126;first| (with_reducible exact T.out _)| (with_reducible exact U.out _))))
    refine wpQuiet_nil ?_;rintro _ ⟨i,rfl⟩;obtain⟨c,d⟩:=X.out i;obtain⟨k0,l⟩:=Z.out i;have m:Hid ((j≠w.heap.size+1∧j≠w.heap.size+1+1)∧(k≠w.heap.size+1∧k≠w.heap.size+1+1)):=⟨⟨k0.ne c (by decide),k0.ne d (by decide)⟩,⟨l.ne c (by decide),l.ne d (by decide)⟩⟩;have E:=aI k0;have F:=aI l;have z0:(f i).cell? ⟨w.heap.size+1,0,none⟩=some (.int .i64 0):=aD c;have z1:(f i).cell? ⟨w.heap.size+1,1,none⟩=some (.slice none 0 0):=aD c;have z2:(f i).cell? ⟨w.heap.size+1+1,0,none⟩=some (.int .i64 0):=aD d;have z3:(f i).cell? ⟨w.heap.size+1+1,1,none⟩=some (.slice none 0 0):=aD d;have a5:=aJ c 0;have a6:=aJ c 1;have a7:=aJ d 0;have a8:=aJ d 1;have a9:=a0.out i;have b0:¬q=w.heap.size+1:=by omega
    have b1:¬q=w.heap.size+1+1:=by omega
    have b2:¬r=w.heap.size+1:=by omega
    have b3:¬r=w.heap.size+1+1:=by omega
    have R:w.heap.size+1<(f i).heap.size:=by omega
    have b4:w.heap.size+1+1<(f i).heap.size:=by omega
    clear c d k0 l;go_wp2_with fail
    go_region
    all_goals
     go_wp2
     refine bodyPost_ret (v:=.tuple #[.agg #[.int .i64 0,.slice (some ⟨j,0,none⟩) 8 8],.agg #[.int .i64 1,.slice (some ⟨k,0,none⟩) 8 8]]) (by simp[results,Tryz.results89,go_sem,z0,z1,z2,z3]) rfl ?_;refine⟨j,k,by rw[y.out];rfl,?_,?_,?_⟩
     ·rw[y.out]
      repeat (first| (with_reducible exact E.out)| (with_reducible refine cA.set _ ?_ (by first| exact m.out.1.1| exact m.out.1.2))| (with_reducible refine cA.drew ?_))
     ·rw[y.out]
      repeat (first| (with_reducible exact F.out)| (with_reducible refine cA.set _ ?_ (by first| exact m.out.2.1| exact m.out.2.2))| (with_reducible refine cA.drew ?_))
     ·repeat (first| (with_reducible exact Y.out i)| (with_reducible refine Below.thenSet ?_ (by omega) _ _)| (with_reducible refine Below.drew ?_))
   ·have y:Hid (bE bs=(1,0)):=by show _=_;rw[a1.out,hX,hY,decide_eq_false d6];rfl
    rw[hX]at B;rw[hY]at C;clear hX hY;go_wp2_with fail
    refine bV f (by kernel_rfl) (by kernel_rfl) V.out ?_
    repeat (go_big_quiet_step (first| (go_at_call 125;first| (with_reducible exact B.out _)| (with_reducible exact C.out _))| (go_at_call 126;first| (with_reducible exact T.out _)| (with_reducible exact U.out _))))
    refine wpQuiet_nil ?_;rintro _ ⟨i,rfl⟩;obtain⟨c,d⟩:=X.out i;obtain⟨k0,l⟩:=Z.out i;have m:Hid ((j≠w.heap.size+1∧j≠w.heap.size+1+1)∧(k≠w.heap.size+1∧k≠w.heap.size+1+1)):=⟨⟨k0.ne c (by decide),k0.ne d (by decide)⟩,⟨l.ne c (by decide),l.ne d (by decide)⟩⟩;have E:=aI k0;have F:=aI l;have z0:(f i).cell? ⟨w.heap.size+1,0,none⟩=some (.int .i64 0):=aD c;have z1:(f i).cell? ⟨w.heap.size+1,1,none⟩=some (.slice none 0 0):=aD c;have z2:(f i).cell? ⟨w.heap.size+1+1,0,none⟩=some (.int .i64 0):=aD d;have z3:(f i).cell? ⟨w.heap.size+1+1,1,none⟩=some (.slice none 0 0):=aD d;have a5:=aJ c 0;have a6:=aJ c 1;have a7:=aJ d 0;have a8:=aJ d 1;have a9:=a0.out i;have b0:¬q=w.heap.size+1:=by omega
    have b1:¬q=w.heap.size+1+1:=by omega
    have b2:¬r=w.heap.size+1:=by omega
    have b3:¬r=w.heap.size+1+1:=by omega
    have R:w.heap.size+1<(f i).heap.size:=by omega
    have b4:w.heap.size+1+1<(f i).heap.size:=by omega
    clear c d k0 l;go_wp2_with fail
    go_region
    all_goals
     go_wp2
     refine bodyPost_ret (v:=.tuple #[.agg #[.int .i64 1,.slice (some ⟨k,0,none⟩) 8 8],.agg #[.int .i64 0,.slice (some ⟨j,0,none⟩) 8 8]]) (by simp[results,Tryz.results89,go_sem,z0,z1,z2,z3]) rfl ?_;refine⟨k,j,by rw[y.out];rfl,?_,?_,?_⟩
     ·rw[y.out]
      repeat (first| (with_reducible exact F.out)| (with_reducible refine cA.set _ ?_ (by first| exact m.out.2.1| exact m.out.2.2))| (with_reducible refine cA.drew ?_))
     ·rw[y.out]
      repeat (first| (with_reducible exact E.out)| (with_reducible refine cA.set _ ?_ (by first| exact m.out.1.1| exact m.out.1.2))| (with_reducible refine cA.drew ?_))
     ·repeat (first| (with_reducible exact Y.out i)| (with_reducible refine Below.thenSet ?_ (by omega) _ _)| (with_reducible refine Below.drew ?_))
def lL(part:Int)(n:Int)(r:Nat→Int):Int:=if(r 1 == part&&(r 4 == 4||r 4 == 5)&&decide (n<255))=true then n+1 else n
def aX(bs:List Int)(part:Nat):Int:=
 if(bD bs).1<0 then 0 else(dQ bs (bD bs).1).foldl (lL part) ((oQ (tZ bs (bD bs).1.toNat % 4294967296).toNat).getD part 0)
theorem Nv(part n:Int)(r:Nat→Int)(h:0≤n∧n≤255):0≤lL part n r∧lL part n r≤255:=by
 unfold lL;split
 ·rename_i a
  simp at a;omega
 ·exact h
theorem Ap(part:Int)(l:List (Nat→Int)):∀n,0≤n∧n≤255→0≤l.foldl (lL part) n∧l.foldl (lL part) n≤255:=by
 induction l with
 | nil=>intro n h;exact h
 | cons a l ih=>intro n h;exact ih _ (Nv part n a h)
theorem oO{base:Nat}{v:Value}{l:List (Nat→Int)}{w:World}(h:dM base v l w):∃ad c,v=.slice ad l.length c∧∀i r,l[i]?=some r→∃g,ad=some ⟨g,0,none⟩∧w.cell? ⟨g,i*5,none⟩=some (.int .i64 (r 0))∧w.cell? ⟨g,i*5+1,none⟩=some (.int .i64 (r 1))∧w.cell? ⟨g,i*5+2,none⟩=some (.int .i64 (r 2))∧w.cell? ⟨g,i*5+3,none⟩=some (.int .i64 (r 3))∧w.cell? ⟨g,i*5+4,none⟩=some (.int .i64 (r 4)):=by
 obtain⟨_,ad,c,b,d⟩:=iI fZ (fun _=>rfl) l rfl h;refine⟨ad,c,b,fun i r f=>?_⟩;obtain⟨g,j,a⟩:=d i r f;exact⟨g,j,by simpa[fZ]using a 0 (by omega),by simpa[fZ]using a 1 (by omega),by simpa[fZ]using a 2 (by omega),by simpa[fZ]using a 3 (by omega),by simpa[fZ]using a 4 (by omega)⟩
theorem nQ(g:Nat)(bs:List Int)(left res:Int)(dead:Bool)(done:Int)(part:Nat)(w:World)(b2:part<4)(h:aS w g bs left res dead done):
 Calls Tryz.prog 140 #[.pointer (some ⟨g,0,none⟩),.int .i64 part] w fun e w'=>e=.returned (.int .i64 (aX bs part))∧Below w.heap.size w w':=by
 have X:=aI (oK g bs left res dead done w h);have b3:=h.bytes;have J:=nS bs;have C:Hid (aX bs part=if(bD bs).1<0 then 0 else(dQ bs (bD bs).1).foldl (lL part) ((oQ (tZ bs (bD bs).1.toNat % 4294967296).toNat).getD part 0)):=rfl;have Y:=jA bs (bD bs).1;clear h
 go_enter Tryz.func140,Tryz.ntmps140
 go_wp2_with fail
 refine X.out.mono ?_;rintro e f ⟨x,cap,rfl,Z,L⟩;have D:=yT Z b3;have a0:=L.size;have a1:=aI L;have E:=aI (oX x cap bs f D);have a2:Hid (∀W s,Below f.heap.size f W→(-1≤s∧s<2)→Calls Tryz.prog 138 #[.slice (some ⟨x,0,none⟩) 256 cap,.int .i64 s] W fun e w'=>∃v,e=.returned v∧(dM W.heap.size v (dQ bs s) w'∧(dQ bs s=[]→v=.slice none 0 0))∧Below W.heap.size W w'):=fun W s M N=>uS x cap bs s W N (D.below M)
 have a3:Hid (∀W (s:Nat),Below f.heap.size f W→s<2→Calls Tryz.prog 176 #[.slice (some ⟨x,0,none⟩) 256 cap,.int .i64 s] W fun e w'=>e=.returned (.tuple #[.bool (cH bs s),.int .i64 (jD bs s),.int .i64 (tZ bs s)])∧Below W.heap.size W w'):=fun W s M N=>nN x cap bs s W N (D.below M)
 clear Z L D X;generalize (bD bs).1=a at E C J Y;generalize (bD bs).2=o at E J;go_wp2_with fail
 refine E.out.mono ?_;rintro e a4 ⟨rfl,O⟩;have b4:=O.size;have P:=aI O;clear O E
 by_cases a5:a<0
 ·have Q:Hid (Below w.heap.size w a4):=a1.out.trans (P.out.mono a0);go_wp2
  go_ret
  exact⟨by rw[C.out,if_pos a5];rfl,Q.out⟩
 ·obtain⟨t,rfl⟩:∃t:Nat,a=(t:Int):=⟨a.toNat,by omega⟩;have F:Hid (aX bs part=(dQ bs (t:Int)).foldl (lL part) ((oQ (tZ bs t % 4294967296).toNat).getD part 0)):=by show _=_;rw[C.out,if_neg a5];rfl
  have y:=aI (a3.out a4 t P.out (by omega));clear C a3;generalize cH bs t=d0 at y;generalize jD bs t=d1 at y;generalize tZ bs t=m at y F;go_wp2_with fail
  refine y.out.mono ?_;rintro e u ⟨rfl,R⟩;have d2:=R.size;have a6:Hid (Below f.heap.size f u):=P.out.trans (R.mono b4);clear R y;go_wp2_with fail
  refine(Dy m u).mono ?_;rintro e d3 ⟨rfl,rfl⟩;have b5:(oQ (m % 4294967296).toNat).length=4:=rfl;have b6:=(lD (m % 4294967296).toNat).getD part;have S:(u.alloc (.cells (bZ (oQ (m % 4294967296).toNat)).toArray 5)).cell? ⟨u.heap.size,part,none⟩=some (.int .u8 ((oQ (m % 4294967296).toNat).getD part 0)):=by
   rw[cell_of_row _ _ _ _ _ _ (heap_alloc_new u _)];simp[bZ,List.getD_eq_getElem?_getD,b5,b2]
  have G:Hid (Below f.heap.size f (u.alloc (.cells (bZ (oQ (m % 4294967296).toNat)).toArray 5))):=a6.out.alloc (by omega) _;have H:=aI (a2.out _ (t:Int) G.out J.1);clear a2 a6;generalize bZ (oQ (m % 4294967296).toNat)=d4 at S G H ⊢;generalize (oQ (m % 4294967296).toNat).getD part 0=z at S F b6;generalize dQ bs (t:Int)=l at H F Y;go_wp2_with fail
  refine H.out.mono ?_;rintro e b7 ⟨d5,rfl,⟨a7,_⟩,a8⟩;have Q:Hid (Below w.heap.size w b7):=a1.out.trans ((G.out.trans (a8.mono (by simp;omega))).mono a0);obtain⟨ad,c,rfl,a9⟩:=oO a7;have b8:=aI a9;generalize b0:l.length=I at *;have b1:=aI b0;clear a7 a8 H G S a9 b0;go_wp2
  go_loop [11,13] (fun n i=>∃ (k:Nat),k≤I∧i=.int .i64 k∧n=.int .i64 ((l.take k).foldl (lL part) z)) (fun _ i=>I-(intOf i).toNat)
  case atStart=>exact⟨0,by omega,rfl,rfl⟩
  case round=>
   obtain⟨k,d6,rfl,rfl⟩:=hrel
   by_cases b9:k<I
   ·obtain⟨r,T⟩:∃r,l[k]?=some r:=⟨l[k]'(by rw[b1.out];exact b9),List.getElem?_eq_getElem _⟩;obtain⟨d7,c0,c1,c2,c3,c4,c5⟩:=b8.out k r T;subst c0;have j:Hid ((l.take (k+1)).foldl (lL part) z=lL part ((l.take k).foldl (lL part) z) r):=by
     show _=_
     rw[List.take_add_one,T,List.foldl_append];rfl
    have c6:=Ap part (l.take k) z (by omega);have p:Hid (∀n,lL part n r=if(r 1 == (part:Int)&&(r 4 == 4||r 4 == 5)&&decide (n<255))=true then n+1 else n):=fun n=>rfl
    clear T c1 c3 c4;generalize (l.take k).foldl (lL part) z=q at j c6 ⊢;generalize r 1=p1 at c2 p;generalize r 4=b at c5 p
    by_cases A:(p1 == (part:Int))=true
    ·by_cases U:(b == 4)=true
     ·by_cases B:q<255
      ·have d:Hid ((p1 == (part:Int)&&(b == 4||b == 5)&&decide (q<255))=true):=by show _=true;rw[A,U];simp[B]
       go_wp2
       go_roundw
       case rel=>exact⟨k+1,by omega,by go_num,by rw[j.out,p.out,if_pos d.out]⟩
       case measure=>simp[intOf];omega
      ·have d:Hid (¬ (p1 == (part:Int)&&(b == 4||b == 5)&&decide (q<255))=true):=by show ¬_;rw[A,U];simp[B]
       go_wp2
       go_roundw
       case rel=>exact⟨k+1,by omega,by go_num,by rw[j.out,p.out,if_neg d.out]⟩
       case measure=>simp[intOf];omega
     ·have c7:(b == 4)=false:=by simpa using U
      by_cases V:(b == 5)=true
      ·by_cases B:q<255
       ·have d:Hid ((p1 == (part:Int)&&(b == 4||b == 5)&&decide (q<255))=true):=by show _=true;rw[A,V];simp[B]
        go_wp2
        go_roundw
        case rel=>exact⟨k+1,by omega,by go_num,by rw[j.out,p.out,if_pos d.out]⟩
        case measure=>simp[intOf];omega
       ·have d:Hid (¬ (p1 == (part:Int)&&(b == 4||b == 5)&&decide (q<255))=true):=by show ¬_;rw[A,V];simp[B]
        go_wp2
        go_roundw
        case rel=>exact⟨k+1,by omega,by go_num,by rw[j.out,p.out,if_neg d.out]⟩
        case measure=>simp[intOf];omega
      ·have c8:(b == 5)=false:=by simpa using V
       have d:Hid (¬ (p1 == (part:Int)&&(b == 4||b == 5)&&decide (q<255))=true):=by show ¬_;rw[c7,c8];simp
       go_wp2
       go_roundw
       case rel=>exact⟨k+1,by omega,by go_num,by rw[j.out,p.out,if_neg d.out]⟩
       case measure=>simp[intOf];omega
    ·have c9:(p1 == (part:Int))=false:=by simpa using A
     have d:Hid (¬ (p1 == (part:Int)&&(b == 4||b == 5)&&decide (q<255))=true):=by show ¬_;rw[c9];simp
     go_wp2
     go_roundw
     case rel=>exact⟨k+1,by omega,by go_num,by rw[j.out,p.out,if_neg d.out]⟩
     case measure=>simp[intOf];omega
   ·obtain rfl:k=I:=by omega
    have j:Hid (l.take k=l):=by show _=_;rw[←b1.out];exact List.take_length
    go_wp2
    go_ret
    exact⟨by rw[F.out];exact congrArg _ (congrArg _ (congrArg _ j.out)),Q.out⟩
theorem Gu(n:Nat)(w:World)(d:n<4294967296):
 Calls Tryz.prog 152 #[.slice none 0 0,.int .u32 n] w fun e w'=>∃x cap,e=.returned (.slice (some ⟨x,0,none⟩) 4 cap)∧w'.ownsRow w.heap.size 5 1 (.slice (some ⟨x,0,none⟩) 4 cap) 4 (bZ (oQ n))∧Below w.heap.size w w':=by
 obtain⟨f,g,h,i,j⟩:=info_parts Tryz.info5
 go_enter Tryz.func152,Tryz.ntmps152
 go_wp2_with (at_builtin;go_must (refine wpList_append_lies _ rfl (.tmp 5) (.tmp 17) 22 rfl w.heap.size 5 f (.int .u8 0) 1 1 Tryz.underlying22 g h i j rfl (by decide) (.slice none 0 0) 0 [] rfl (World.ownsRow_nil _ _ _ _) ⟨w.heap.size,0,none⟩ 4 4 (bZ (oQ n)) (by rfl) rfl (by rw[Dt n d];exact dA w _ 5) (jM _) (by omega) (by decide) (by omega) (by simp) _ rfl ?_))
 intro x cap a b c _ _;have k:Hid (a.ownsRow w.heap.size 5 1 (.slice (some ⟨x,0,none⟩) 4 cap) 4 (bZ (oQ n))):=(by simpa using b:a.ownsRow w.heap.size 5 1 (.slice (some ⟨x,0,none⟩) 4 cap) 4 (bZ (oQ n)));have l:Hid (Below w.heap.size w a):=(Below.refl _ _).grown (aZ c) (Nat.le_refl _) (by simp[Value.ownBlock]);clear b c;go_wp2
 go_ret
 exact⟨x,cap,by simp,k.out,l.out⟩
def kM(part:Int)(n:Int)(r:Nat→Int):Int:=if(r 1 == part&&(r 4 == 4||r 4 == 5))=true then n+1 else n
def pK(bs:List Int)(s:Nat)(part:Nat):Int:=min ((fJ bs s).foldl (kM part) ((oQ (fG bs s 4).toNat).getD part 0)) 255
theorem Mz(part n:Int)(r:Nat→Int):n≤kM part n r∧kM part n r≤n+1:=by unfold kM;split<;>omega
theorem Lh(part:Int)(l:List (Nat→Int)):∀n,n≤l.foldl (kM part) n∧l.foldl (kM part) n≤n+l.length:=by
 induction l with
 | nil=>intro n;simp
 | cons a l ih=>intro n;have:=ih (kM part n a);have:=Mz part n a;simp only[List.foldl_cons,List.length_cons];omega
theorem Ob(bs:List Int)(a:cT bs)(s:Nat):0≤fG bs s 4∧fG bs s 4<4294967296:=by
 unfold fG;split
 ·exact rG bs s 0 4 a
 ·omega
theorem rJ(x:Nat)(bs:List Int)(s part:Nat)(w:World)(b2:cT bs)(b3:part<4)(h:cA x bs s w):
 Calls Tryz.prog 113 #[.agg #[.int .i64 s,.slice (some ⟨x,0,none⟩) 8 8],.int .i64 part] w fun e w'=>e=.returned (.int .i64 (pK bs s part))∧Below w.heap.size w w':=by
 obtain⟨a,z⟩:∃a,a=w.alloc (.cells #[.int .i64 s,.slice (some ⟨x,0,none⟩) 8 8] 183):=⟨_,rfl⟩;have E:Below w.heap.size w a:=aE z;have F:a.heap[w.heap.size]?=some (.cells #[.int .i64 s,.slice (some ⟨x,0,none⟩) 8 8] 183 (0,0)):=aF z;have S:=aI (yM x bs s a (h.below E));have b4:=Ob bs b2 s;have T:Hid (pK bs s part=min ((fJ bs s).foldl (kM part) ((oQ (fG bs s 4).toNat).getD part 0)) 255):=rfl;have b5:Hid (∀W,Below a.heap.size a W→cA x bs s W):=fun W b6=>(h.below E).below b6
 have b7:=aI E;have b8:=aI F;have b9:=aI z;have f3:a.heap.size=w.heap.size+1:=by rw[z];simp
 have c0:=Cx bs s;clear h E z;have c1:a.cell? ⟨w.heap.size,0,none⟩=some (.int .i64 s):=aD F;have c2:a.cell? ⟨w.heap.size,1,none⟩=some (.slice (some ⟨x,0,none⟩) 8 8):=aD F;clear F;generalize fG bs s 0=c3 at *;generalize fG bs s 1=r1 at *;generalize fG bs s 2=c4 at *;generalize fG bs s 3=c5 at *;generalize fG bs s 4=U at *;have f4:∀W:World,(Instr.field 52 (.agg #[.int .i64 c3,.int .i64 r1,.int .i64 c4,.int .i64 c5,.int .i64 U]) 4).run Tryz.prog W=.ok (.int .i64 U) W:=fun W=>by kernel_rfl
 go_enter Tryz.func113,Tryz.ntmps113
 go_wp2_with fail
 rw[←b9.out];go_wp2_with fail
 refine S.out.mono ?_;rintro e c6 ⟨rfl,M⟩;have c7:=M.size;have c8:=aI M;obtain⟨A,rfl⟩:=Int.eq_ofNat_of_zero_le b4.1;clear M S;go_wp2_with fail
 refine(Gu A c6 (by omega)).mono ?_;rintro e f ⟨c9,cap,rfl,N,O⟩;have f5:=O.size;have B:Hid (Below a.heap.size a f):=c8.out.trans (O.mono c7);have d0:=(lD A).getD part;have V:f.cell? ⟨c9,part,none⟩=some (.int .u8 ((oQ A).getD part 0)):=by
  have:=iS N part (by show part<4;exact b3)
  simpa using this
 have f6:4≤cap∧cap≤9223372036854775807:=by
  rcases N.2 with⟨G,_⟩| ⟨g,f7,cur,X,_,_,d1,d2,_⟩
  ·cases G
  ·simp at X;obtain⟨rfl,rfl⟩:=X;exact⟨d1,by unfold maxLen at d2;omega⟩
 have P:=(B.out.block _ (by omega)).trans b8.out;have d3:f.cell? ⟨w.heap.size,0,none⟩=some (.int .i64 s):=aD P;have d4:f.cell? ⟨w.heap.size,1,none⟩=some (.slice (some ⟨x,0,none⟩) 8 8):=aD P;have H:=aI (yX x bs s f (b5.out f B.out));have I:Hid (pK bs s part=min ((fJ bs s).foldl (kM part) ((oQ A).getD part 0)) 255):=by show _=_;rw[T.out];rfl
 clear O N P T c1 c2;generalize (oQ A).getD part 0=u at V I d0
 change Hid (Calls Tryz.prog 127 #[.agg #[.int .i64 s,.slice (some ⟨x,0,none⟩) 8 8]] f fun e w'=>∃v,e=.returned v∧(dM f.heap.size v (fJ bs s) w'∧(v=.slice none 0 0↔fJ bs s=[]))∧Below f.heap.size f w')at H
 generalize fJ bs s=l at H I c0;go_wp2_with fail
 refine H.out.mono ?_;rintro e b ⟨f8,rfl,⟨Y,_⟩,Z⟩;have a0:Hid (Below w.heap.size w b):=b7.out.trans ((B.out.trans (Z.mono B.out.size)).mono (by omega));obtain⟨ad,c,rfl,a1⟩:=oO Y;have a2:∀i r,l[i]?=some r→∃g,ad=some ⟨g,0,none⟩∧g<b.heap.size∧b.cell? ⟨g,i*5,none⟩=some (.int .i64 (r 0))∧b.cell? ⟨g,i*5+1,none⟩=some (.int .i64 (r 1))∧b.cell? ⟨g,i*5+2,none⟩=some (.int .i64 (r 2))∧b.cell? ⟨g,i*5+3,none⟩=some (.int .i64 (r 3))∧b.cell? ⟨g,i*5+4,none⟩=some (.int .i64 (r 4)):=fun i r d5=>by
  obtain⟨g,d6,G,d7⟩:=a1 i r d5;exact⟨g,d6,aN G,G,d7⟩
 have d8:=aI a2;generalize a3:l.length=J at *;have a4:=aI a3;clear Y Z H B V a1 a3 d3 d4 a2;have d9:w.heap.size≤b.heap.size:=a0.out.size;go_wp2
 go_loopw [6,22] (fun n i wr=>∃ (k:Nat),k≤J∧i=.int .i64 k∧n=.int .i64 ((l.take k).foldl (kM part) u)∧Below b.heap.size b wr) (fun _ i _=>J-(intOf i).toNat)
 case atStart=>exact⟨0,by omega,rfl,rfl,Below.refl _ _⟩
 case round=>
  obtain⟨k,f9,rfl,rfl,j⟩:=hrel
  by_cases e0:k<J
  ·obtain⟨r,Q⟩:∃r,l[k]?=some r:=⟨l[k]'(by rw[a4.out];exact e0),List.getElem?_eq_getElem _⟩;obtain⟨C,e1,D,a5,a6,a7,a8,a9⟩:=d8.out k r Q;subst e1;have e2:=(j.cell (p:=⟨C,k*5,none⟩) D).trans a5;have e3:=(j.cell (p:=⟨C,k*5+1,none⟩) D).trans a6;have e4:=(j.cell (p:=⟨C,k*5+2,none⟩) D).trans a7;have e5:=(j.cell (p:=⟨C,k*5+3,none⟩) D).trans a8;have e6:=(j.cell (p:=⟨C,k*5+4,none⟩) D).trans a9;have m:Hid ((l.take (k+1)).foldl (kM part) u=kM part ((l.take k).foldl (kM part) u) r):=by
    show _=_
    rw[List.take_add_one,Q,List.foldl_append];rfl
   have e7:=Lh part (l.take k) u;have g0:(l.take k).length≤k:=List.length_take_le _ _;have y:Hid (∀n,kM part n r=if(r 1 == (part:Int)&&(r 4 == 4||r 4 == 5))=true then n+1 else n):=fun n=>rfl
   have L:Hid (∀o,Below b.heap.size b (wr.alloc o)):=fun o=>j.alloc j.size o
   clear Q a5 a6 a7 a8 a9 j;generalize (l.take k).foldl (kM part) u=e8 at m e7 ⊢;generalize r 0=p0 at e2;generalize r 1=p1 at e3 y;generalize r 2=p2 at e4;generalize r 3=p3 at e5;generalize r 4=d at e6 y
   by_cases R:(p1 == (part:Int))=true
   ·by_cases b0:(d == 4)=true
    ·have q:Hid ((p1 == (part:Int)&&(d == 4||d == 5))=true):=by show _=true;rw[R,b0];simp
     go_wp2
     go_roundw
     case rel=>exact⟨k+1,by omega,by go_num,by rw[m.out,y.out,if_pos q.out],L.out _⟩
     case measure=>simp[intOf];omega
    ·have e9:(d == 4)=false:=by simpa using b0
     by_cases b1:(d == 5)=true
     ·have q:Hid ((p1 == (part:Int)&&(d == 4||d == 5))=true):=by show _=true;rw[R,b1];simp
      go_wp2
      go_roundw
      case rel=>exact⟨k+1,by omega,by go_num,by rw[m.out,y.out,if_pos q.out],L.out _⟩
      case measure=>simp[intOf];omega
     ·have f0:(d == 5)=false:=by simpa using b1
      have q:Hid (¬ (p1 == (part:Int)&&(d == 4||d == 5))=true):=by show ¬_;rw[e9,f0];simp
      go_wp2
      go_roundw
      case rel=>exact⟨k+1,by omega,by go_num,by rw[m.out,y.out,if_neg q.out],L.out _⟩
      case measure=>simp[intOf];omega
   ·have f1:(p1 == (part:Int))=false:=by simpa using R
    have q:Hid (¬ (p1 == (part:Int)&&(d == 4||d == 5))=true):=by show ¬_;rw[f1];simp
    go_wp2
    go_roundw
    case rel=>exact⟨k+1,by omega,by go_num,by rw[m.out,y.out,if_neg q.out],L.out _⟩
    case measure=>simp[intOf];omega
  ·obtain rfl:k=J:=by omega
   have m:Hid (l.take k=l):=by show _=_;rw[←a4.out];exact List.take_length
   have f2:Hid (Below w.heap.size w wr):=a0.out.trans (j.mono d9);clear j;rw[m.out];generalize l.foldl (kM part) u=e8 at I;go_wp2
   all_goals
    go_ret
    exact⟨rC (by rw[I.out];omega),f2.out⟩
theorem Pu(bs:List Int):(cH bs (bE bs).1=true∧(bD bs).1=((bE bs).1:Int))∨(cH bs (bE bs).1=false∧(bD bs).1=-1):=by
 unfold bD;rcases hX:cH bs 0 with _| _<;>rcases hY:cH bs 1 with _| _
 ·have a:bE bs=(1,0):=by unfold bE;rw[hX];rfl
  rw[a];exact .inr ⟨hY,rfl⟩
 ·have a:bE bs=(1,0):=by unfold bE;rw[hX];rfl
  rw[a];exact .inl ⟨hY,rfl⟩
 ·have a:bE bs=(0,1):=by unfold bE;rw[hX,hY];rfl
  rw[a];exact .inl ⟨hX,rfl⟩
 ·have d:=iC bs 0 hX;have f:=iC bs 1 hY
  by_cases c:eC bs 1≤eC bs 0
  ·have a:bE bs=(0,1):=by unfold bE;rw[hX,hY,decide_eq_true c];rfl
   rw[a];refine .inl ⟨hX,?_⟩
   by_cases b:jD bs 0=jD bs 1+1
   ·rw[Dg _ _ b];rfl
   ·rw[Ct _ _ b (by omega) (by omega)];rfl
  ·have a:bE bs=(1,0):=by unfold bE;rw[hX,hY,decide_eq_false c];rfl
   rw[a];refine .inl ⟨hY,?_⟩
   by_cases b:jD bs 1=jD bs 0+1
   ·rw[Dq _ _ (by omega) b];rfl
   ·rw[Dd _ _ (by omega) b (by omega)];rfl
theorem Qb(part n a:Int)(r:Nat→Int)(h:a=min n 255):lL part a r=min (kM part n r) 255:=by
 subst h;unfold lL kM;rcases hc:(r 1 == part&&(r 4 == 4||r 4 == 5))with _| _
 ·simp
 ·by_cases b:n<255
  ·rw[if_pos (by simp;omega),if_pos rfl];omega
  ·rw[if_neg (by simp;omega),if_pos rfl];omega
theorem Rg(part:Int)(l:List (Nat→Int)):∀n b,b=min n 255→l.foldl (lL part) b=min (l.foldl (kM part) n) 255:=by
 induction l with
 | nil=>intro n b h;exact h
 | cons a l ih=>intro n b h;exact ih _ _ (Qb part n b a h)
theorem yO(bs:List Int)(d:cT bs)(part:Nat):pK bs (bE bs).1 part=aX bs part:=by
 unfold pK aX;rcases Pu bs with⟨a,b⟩| ⟨a,b⟩
 ·rw[b,if_neg (by omega),gJ bs _ a];have h:=rG bs (bE bs).1 0 4 d;have c:fG bs (bE bs).1 4=cY bs (bE bs).1 0 4:=by unfold fG;rw[if_pos a]
  have f:tZ bs ((bE bs).1:Int).toNat % 4294967296=cY bs (bE bs).1 0 4:=by show cY bs (bE bs).1 0 4 % _=_;omega
  rw[c,f];have i:=(lD (cY bs (bE bs).1 0 4).toNat).getD part;exact(Rg _ _ _ _ (by omega)).symm
 ·have g:(oQ 0).getD part 0=0:=by
   rcases part with _| _| _| _| p<;>rfl
  have c:fG bs (bE bs).1 4=0:=by unfold fG;rw[if_neg (by simp[a])]
  rw[b,if_pos (by omega),Ey bs _ a,c];show min ((oQ 0).getD part 0) 255=0
  rw[g];rfl
theorem Tn(g:Nat)(w:World):Calls Tryz.prog 47 #[.pointer (some ⟨g,0,none⟩)] w fun e w'=>e=.returned (.agg #[.pointer (some ⟨g,0,none⟩)])∧Below w.heap.size w w':=by
 go_enter Tryz.func47,Tryz.ntmps47
 go_wp2
 exact bodyPost_ret (v:=.agg #[.pointer (some ⟨g,0,none⟩)]) (by simp[results,Tryz.results47,go_sem]) rfl ⟨rfl,aG _ _⟩
theorem wW(g:Nat)(bs:List Int)(left res:Int)(dead:Bool)(done:Int)(w:World)(h:aS w g bs left res dead done):
 Calls Tryz.prog 48 #[.agg #[.pointer (some ⟨g,0,none⟩)]] w fun e w'=>∃v,e=.returned v∧(dM w.heap.size v (bT bs) w'∧(bT bs=[]→v=.slice none 0 0))∧Below w.heap.size w w':=by
 have a:Below w.heap.size w (w.alloc (.cells #[.pointer (some ⟨g,0,none⟩)] 107)):=aG _ _;have d:=aI (qE g bs left res dead done _ (h.below a));have n:=aI (oF bs h.bytes);have o:=aI (Bg bs h.bytes);have p:=aI a;clear h a;generalize (bE bs).1=q at *;generalize (bE bs).2=r at *
 go_enter Tryz.func48,Tryz.ntmps48
 go_wp2_with fail
 refine d.out.mono ?_;rintro e s ⟨x,u,rfl,f,i,j⟩;have k:Hid (Below w.heap.size w s):=p.out.trans (j.mono (by simp));have y:=aI f;have z:=aI i;clear f i j d;have A:=k.out.size;go_wp2_with fail
 refine(Gd x u bs q r _ n.out ((y.out.alloc _).alloc _) ((z.out.alloc _).alloc _)).mono ?_;rintro e l ⟨v,rfl,⟨b,c⟩,m⟩;have B:Hid ((dM w.heap.size v (bT bs) l∧(bT bs=[]→v=.slice none 0 0))∧Below w.heap.size w l):=by
  rw[o.out]at b c;exact⟨⟨bI b (by simp;omega),c⟩,(((k.out.alloc A _).alloc (by simp;omega) _)).trans (m.mono (by simp;omega))⟩
 clear b c m;go_wp2
 go_ret
 exact⟨v,rfl,B.out⟩
theorem Al(g:Nat)(bs:List Int)(left res:Int)(dead:Bool)(done:Int)(part:Nat)(w:World)(j:part<4)(h:aS w g bs left res dead done):
 Calls Tryz.prog 75 #[.agg #[.pointer (some ⟨g,0,none⟩)],.int .i64 part] w fun e w'=>e=.returned (.int .i64 (aX bs part))∧Below w.heap.size w w':=by
 have a:Below w.heap.size w (w.alloc (.cells #[.pointer (some ⟨g,0,none⟩)] 107)):=aG _ _;have b:=aI (qE g bs left res dead done _ (h.below a));have k:=aI (yO bs h.bytes part);have l:=aI h.bytes;have m:=aI a;clear h a;generalize (bE bs).1=n at *;generalize (bE bs).2=v at *
 go_enter Tryz.func75,Tryz.ntmps75
 go_wp2_with fail
 refine b.out.mono ?_;rintro e o ⟨x,y,rfl,c,p,d⟩;have f:Hid (Below w.heap.size w o):=m.out.trans (d.mono (by simp));have q:=aI c;clear c p d b;have r:=f.out.size;go_wp2_with fail
 refine(rJ x bs n part _ l.out j ((q.out.alloc _).alloc _)).mono ?_;rintro e s ⟨rfl,i⟩;have u:Hid (Below w.heap.size w s):=(((f.out.alloc r _).alloc (by simp;omega) _)).trans (i.mono (by simp;omega));clear i;go_wp2
 go_ret
 exact⟨by rw[k.out];rfl,u.out⟩
end Go.Proofs.YtnjlbgolnbdkaaaGreat
