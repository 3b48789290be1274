/- All, with short names -/
import Derived.Test.YtnjlbgolnbdkaaaGreatP04
import Derived.Test.YtnjlbgolnbdkaaaGreatP34
import Derived.Test.YtnjlbgolnbdkaaaGreatP32
set_option maxRecDepth 100000
set_option maxHeartbeats 16000000
namespace Go.Proofs.YtnjlbgolnbdkaaaGreat
open Go Go.RowKit
theorem yG(p:Nat→Value)(d:Nat)(n:Int)(Y:Nat→Value)(q:Nat→Nat)(m:Nat→List eI)(v:Value)(o:Nat)(b2:List Value)(w:World)
 (h:jJ p q d n Y m m w) (Z:w.ownsRow 0 47 3 v o b2) (b3:∀b,v.ownBlock=some b→100≤q b) (h5:o≤1000) (e0:0≤n) (h6:n≤100000000000) (b4:∀f,(m f).length≤100000000000):
 Calls Tryz.prog 101 #[.pointer (some ⟨d,5,none⟩),v] w fun e w'=>∃L' z r,e=.returned (.tuple #[])∧jJ p L' d (n+1) z r r w'∧(∀f,(r f).length≤(m f).length+4)∧(∀k,k<w.heap.size→L' k=uF q 3 v k)∧aH (fun k=>q k≤27∨v.ownBlock=some k) w w':=by
 obtain⟨e1,a0,e2,e3,e4⟩:=info_parts Tryz.info47;obtain⟨e5,e6,e7,e8,e9⟩:=info_parts Tryz.info41;obtain⟨k0,A,f0,f1,f2⟩:=info_parts Tryz.info3;obtain⟨ad,c,rfl⟩:=bL Z;have a1:=aI h;have a2:=aI Z;have b5:=aI b3;have f3:=aI b4;have M:=h.lab;clear h Z b3 b4
 go_enter Tryz.func101,Tryz.ntmps101
 go_wp2_with fail
 refine(wZ p d _ _ n Y w a1.out.blk e0 (by omega)).mono ?_;rintro e u ⟨rfl,D,N⟩;have b6:=aI N;have b7:Hid (jJ p q d (n+1) Y m m u):=⟨D,M,a1.out.fam.touch N (fun k _ A=>.inl (by rw[A];exact M))⟩;have b8:Hid (u.ownsRow 0 47 3 (.slice ad o c) o b2):=aO a2.out (fun b e=>N.block b (World.ownsRow.lt a2.out b e).2 (fun f4=>by have:=b5.out b e;rw[f4,M]at this;omega));clear D N;go_wp2
 generalize (-77000000-(n+1))=j
 go_loopw [5] (fun i wr=>∃ (k:Nat),k≤o∧i=.int .i64 k∧rI 3 u (.slice ad o c) o j k wr) (fun i _=>o-(intOf i).toNat)
 case atStart=>exact⟨0,by omega,rfl,rI.start b8.out⟩
 case round=>
  obtain⟨k,h7,rfl,hF⟩:=hrel
  by_cases a3:k<o
  ·obtain⟨g,a4,rfl,O,P⟩:=hF.at a3;have h8:wr.cell? ⟨g,k*3,none⟩=some (a4 0):=O 0 (by decide);have h9:wr.cell? ⟨g,k*3+1,none⟩=some (a4 1):=O 1 (by decide);have i0:wr.cell? ⟨g,k*3+2,none⟩=some (a4 2):=O 2 (by decide);have i1:=P (k*3);have i2:=P (k*3+1);have i3:=P (k*3+2);have E:=aI hF;clear hF O P;go_wp2
   go_roundw
   case rel=>exact⟨k+1,by omega,by go_num,E.out.step a3⟩
   case measure=>simp[intOf];omega
  ·obtain rfl:k=o:=by omega
   have a5:Hid (∃L' z r,gX p 3 w q m (.slice ad k c) d (n+1) k j 0 L' z r (.slice ad k c) wr):=by
    obtain⟨f5,f6⟩:=jJ.begin (f:=3) (by omega) b7.out b5.out hF;exact⟨_,_,_,f5,f6,fun i=>by simp,fun _ _=>rfl,aH.trans (b6.out.mono (fun k A=>.inl (by rw[A,M];omega))) hF.t (fun i a0=>.inl (.inr a0))⟩
   clear hF b8 b7 b6 a2 a1;go_wp2
   go_loopw [1,6] (fun v i f7=>∃ (a:Nat) (L':Nat→Nat) (z:Nat→Value) (r:Nat→List eI),a≤4∧i=.int .i64 a∧gX p 3 w q m (.slice ad k c) d (n+1) k j a L' z r v f7) (fun _ i _=>4-(intOf i).toNat)
   case atStart=>
    obtain⟨L',z,r,A⟩:=a5.out;exact⟨0,L',z,r,by omega,rfl,A⟩
   case round=>
    obtain⟨a,Q,G,l,i4,rfl,B⟩:=hrel;obtain⟨C,c1,f8⟩:=bL B.c.own;subst f8;have i5:(l 3).length≤100000000010:=by have:=B.len 3;have:=f3.out 3;simp at *;omega
    by_cases a3:a<4
    ·have f9:=(show wr.cell? ⟨d,14,none⟩=some (G 9)from B.h.cell 9 (by omega) (by omega));have R:=aI B;clear B a5;go_wp2_with (at_builtin;go_must (refine wpList_append_lies _ rfl (.tmp 28) (.tmp 30) 85 rfl 0 41 e5 (.slice none 0 0) 1 24 Tryz.underlying85 e6 e7 e8 e9 rfl (by decide) (G 9) (l 3).length ((l 3).map eI.v) rfl ((R.out.h.fam 3 (by omega)).own.alloc _) ⟨wr.heap.size,0,none⟩ 1 1 [.slice C (k+a) c1] (by rfl) rfl (dA wr #[.slice C (k+a) c1] 41) (oJ _ _ _ _ rfl) (by omega) (by unfold maxLen;omega) (by omega) (by omega) _ rfl ?_))
     intro g0 g1 u b9 c0 c2 _;obtain⟨D,a6,S,s,H,I,F,J⟩:=R.out.h.row (f:=3) (by omega) R.out.c (by omega) b9 c0 c2;have g2:=aJ D 14;have g3:u.cell? ⟨d,14,none⟩=some (G 9):=aD D;obtain⟨x,L⟩:∃x,x=u.setCell ⟨d,14,none⟩ (.slice (some ⟨g0,0,none⟩) ((l 3).length+1) g1):=⟨_,rfl⟩;have c3:x.heap.size=u.heap.size:=by rw[L];simp
     have T:Hid (jJ p a6 d (n+1) S s l x∧xP 3 a6 s x (.slice C (k+a) c1) (k+a) j∧s=zQ l 3 (l 3++[⟨.slice C (k+a) c1,j⟩])∧rX 3 Q a6 wr x):=by show _∧_;rw[L];exact⟨H,I,F,J⟩
     have c4:x.cell? ⟨d,15,none⟩=some (S 10):=T.out.1.cell 10 (by omega) (by omega);rw[L]at c4;have U:=aI L;clear D H I F J L b9 c0 c2 f9;go_wp2_with (at_builtin;go_must (refine wpList_append_lies _ rfl (.tmp 38) (.tmp 40) 40 rfl 0 3 k0 (.int .i64 0) 1 8 Tryz.underlying40 A f0 f1 f2 rfl (by decide) (S 10) (l 3).length ((l 3).map fun k=>Value.int .i64 k.mark) rfl (by rw[←U.out];exact(T.out.1.fam 3 (by omega)).ownM.alloc _) ⟨u.heap.size,0,none⟩ 1 1 [.int .i64 j] (by rfl) rfl (by rw[←U.out,←c3];exact dA x #[.int .i64 j] 3) (oM _ (by simp)) (by omega) (by unfold maxLen;omega) (by omega) (by omega) _ rfl ?_))
     rw[←U.out];intro g4 g5 V c5 c6 c7 _;obtain⟨H,I,F,J⟩:=T.out;obtain⟨a7,a8,a9,g6,b0,c8,c9,d0⟩:=H.mark (f:=3) (by omega) I c5 c6 (by rw[c3];exact c7);have g7:=aJ a7 15;have g8:V.cell? ⟨d,15,none⟩=some (S 10):=aD a7;obtain⟨y,W⟩:∃y,y=V.setCell ⟨d,15,none⟩ (.slice (some ⟨g4,0,none⟩) ((l 3).length+1) g5):=⟨_,rfl⟩;have g9:y.heap.size=V.heap.size:=by rw[W];simp
     have b1:Hid (jJ p a8 d (n+1) a9 s s y∧xP 3 a8 s y (.slice C (k+a) c1) (k+a) j∧rX 3 Q a8 wr y):=by
      show _∧_
      rw[W];exact⟨by rw[show s=g6 from F.trans c9.symm]at b0 ⊢;exact b0,c8,J.trans d0⟩
     have h0:=aI F;have X:=aI W;clear a7 H I F J b0 c8 c9 d0 W c5 c6 c7 c4 T U g3 g2;go_wp2_with (at_builtin;go_must (refine jV rfl (.tmp 44) (.tmp 47) 41 rfl 47 e1 (.agg #[.int .i64 0,.int .i64 0,.bool false]) 3 24 Tryz.underlying41 a0 e2 e3 e4 rfl (by decide) (.slice C (k+a) c1) (k+a) (nT (k+a) (nG 3 j)) rfl (by rw[←X.out];exact b1.out.2.1.own.alloc _) ⟨V.heap.size,0,none⟩ 1 1 (nG 3 j) (by rfl) rfl (by rw[←X.out,←g9];exact dA y #[.int .i64 0,.int .i64 j,.bool false] 47) (Bw 3 j) (by omega) (by unfold maxLen;omega) (by omega) ?_))
     rw[←X.out];intro h1 h2 h3 d1 d2;obtain⟨d3,d4,d5⟩:=b1.out;obtain⟨d6,d7,d8,d9⟩:=d3.list (f:=3) (by omega) d4 (aH.alloc y _) d1 d2;have h4:Hid (gX p 3 w q m (.slice ad k c) d (n+1) k j (a+1) d6 a9 s (.slice (some ⟨h1,0,none⟩) (k+a+1) h2) h3):=R.out.next (by omega) h0.out (d5.trans d9) d7 d8;clear d3 d4 d5 d7 d8 d9 d1 d2 b1 X g8 g7;go_wp2
     go_roundw
     case rel=>exact⟨a+1,d6,a9,s,by omega,by go_num,h4.out⟩
     case measure=>simp[intOf];omega
    ·have E:Hid (gX p 3 w q m (.slice ad k c) d (n+1) k j a Q G l (.slice C (k+a) c1) wr):=B;clear B a5;go_wp2
     go_end0
     exact⟨Q,G,l,rfl,E.out.h,fun f=>by have:=E.out.len f;split at this<;>omega,E.out.lab,E.out.t⟩
theorem Ps(l:List Int):(l.flatMap fun z=>[Value.int .i64 z])=l.map (Value.int .i64):=by
 induction l with
 | nil=>rfl
 | cons a l ih=>rw[List.flatMap_cons,ih];rfl
theorem Bh{base:Nat}{v:Value}{n:Nat}{l:List Int}{w:World}(a:l.length=n)(h:w.ownsRow base 3 1 v n (l.map (Value.int .i64))):∃ad c,v=.slice ad n c∧∀k z,l[k]?=some z→∃g,ad=some ⟨g,0,none⟩∧g<w.heap.size∧w.cell? ⟨g,k,none⟩=some (.int .i64 z):=by
 have b:w.ownsRow base 3 1 v n (l.flatMap fun z=>[Value.int .i64 z]):=by rw[Ps];exact h
 obtain⟨_,ad,c,d,f⟩:=iI (fun z:Int=>[Value.int .i64 z]) (fun _=>rfl) l a b;refine⟨ad,c,d,fun k z i=>?_⟩;obtain⟨g,j,m⟩:=f k z i;have:=m 0 (Nat.lt_succ_self 0);simp at this;exact⟨g,j,aN this,this⟩
theorem qJ{base:Nat}{v:Value}{n:Nat}{l:List cQ}{w:World}(d:l.length=n)(h:w.ownsRow base 47 3 v n (l.flatMap cU)):∃ad c,v=.slice ad n c∧∀k p,l[k]?=some p→∃g,ad=some ⟨g,0,none⟩∧g<w.heap.size∧w.cell? ⟨g,k*3,none⟩=some (.int .i64 p.next)∧w.cell? ⟨g,k*3+1,none⟩=some (.int .i64 p.acc)∧w.cell? ⟨g,k*3+2,none⟩=some (.bool p.stopped):=by
 obtain⟨_,ad,c,f,i⟩:=iI cU (fun _=>rfl) l d h;refine⟨ad,c,f,fun k p j=>?_⟩;obtain⟨g,m,a⟩:=i k p j;have b:w.cell? ⟨g,k*3,none⟩=some (.int .i64 p.next):=by simpa[cU]using a 0 (by omega)
 exact⟨g,m,aN b,b,by simpa[cU]using a 1 (by omega),by simpa[cU]using a 2 (by omega)⟩
theorem Fa(p:Nat→Value)(v:Nat→Nat)(m:Nat)(n:Int)(L:Nat→Value)(o:Nat→List eI)(r g:Value)(C x:Nat)(M D:List Value)(w j:World)
 (h:jJ p v m n L o o w) (T:0≤n) (b3:n+1≤100000000000) (N:∀f,(o f).length+4≤100000000000) (E:Below w.heap.size w j) (y:j.ownsRow w.heap.size 3 1 r C M) (s:j.ownsRow w.heap.size 47 3 g x D) (U:C≤1000) (V:x≤1000):
 Calls Tryz.prog 100 #[.pointer (some ⟨m,5,none⟩),r] j fun e l=>e=.returned (.tuple #[])∧(∀b c t,w.heap.size≤b→j.heap[b]?=some (.cells c t (0,0))→t≠3→l.heap[b]?=j.heap[b]?)∧(∀q,Calls Tryz.prog 101 #[.pointer (some ⟨m,5,none⟩),g] (l.drewN q) fun e F=>∃L' W G,e=.returned (.tuple #[])∧jJ p L' m (n+2) W G G F∧(∀f,(G f).length≤(o f).length+8)∧(∀k,k<w.heap.size→L' k=v k)∧aH (fun k=>v k≤27) w F):=by
 have z:∀b,r.ownBlock=some b→w.heap.size≤b:=fun b e=>(World.ownsRow.lt y b e).1
 have A:∀b,g.ownBlock=some b→w.heap.size≤b:=fun b e=>(World.ownsRow.lt s b e).1
 have O:∀b,g.ownBlock=some b→r.ownBlock≠some b:=fun b X Y=>by
  obtain⟨c1,u⟩:=cV y Y;obtain⟨c2,P⟩:=cV s X;rw[u]at P;simp at P
 refine(Bv p m n L _ o r C M j (h.fresh E) (bI y (Nat.zero_le _)) (fun b e=>by have:=z b e;rw[if_neg (by omega)];omega) U T (by omega) (fun f=>by have:=N f;omega)).mono ?_;rintro e l ⟨H,Z,a0,rfl,a1,Q,I,B⟩;refine⟨rfl,fun b c t b4 R a2=>B.block b (aR R) (fun d=>?_),fun q=>?_⟩
 ·rcases d with d| d
  ·rw[if_neg (by omega)]at d;omega
  ·obtain⟨c1,u⟩:=cV y d;rw[R]at u;simp at u;exact a2 u.2
 ·have a3:(l.drewN q).ownsRow w.heap.size 47 3 g x D:=aO s (fun b e=>B.block b (World.ownsRow.lt s b e).2 (fun d=>by
   rcases d with d| d
   ·rw[if_neg (by have:=A b e;omega)]at d;omega
   ·exact O b e d))
  have a4:∀b,g.ownBlock=some b→100≤H b:=fun b e=>by
   rw[I b (World.ownsRow.lt s b e).2];unfold uF;rw[if_neg (O b e)];show 100≤(if b<w.heap.size then v b else 100)
   rw[if_neg (by have:=A b e;omega)];omega
  refine(yG p m (n+1) Z H a0 g x D (l.drewN q) (a1.touch (S:=fun _=>False) (aH.ofDrewN _ _) (fun _ _ d=>d.elim)) (bI a3 (Nat.zero_le _)) a4 V (by omega) (by omega) (fun f=>by have:=N f;have:=Q f;omega)).mono ?_;rintro e F ⟨a5,a6,a7,rfl,a8,a9,b0,b1⟩;have b5:=E.size;have b6:=B.size;refine⟨a5,a6,a7,rfl,by rw[show n+2=n+1+1 from by omega];exact a8,fun f=>by have:=Q f;have:=a9 f;omega,fun k b2=>?_,?_⟩
  ·rw[b0 k (by show k<l.heap.size;omega)];unfold uF;rw[if_neg (fun e=>by have:=A k e;omega),I k (by omega)];unfold uF;rw[if_neg (fun e=>by have:=z k e;omega)];simp[b2]
  ·refine aH.trans (aH.trans (aH.ofBelow E) B (fun i a=>?_)) (aH.trans (S:=fun k=>H k≤27∨g.ownBlock=some k) (aH.ofDrewN l q) b1 (fun i a=>.inl a)) (fun i a=>?_)
   ·rcases a with a| a
    ·by_cases J:i<w.heap.size
     ·rw[if_pos J]at a;exact .inl a
     ·exact .inr (by omega)
    ·exact .inr (z i a)
   ·by_cases J:i<w.heap.size
    ·rcases a with a| a
     ·rw[I i (by omega)]at a;unfold uF at a;rw[if_neg (fun e=>by have:=z i e;omega)]at a;simp[J]at a;exact .inl a
     ·exact .inr (A i a)
    ·exact .inr (by omega)
end Go.Proofs.YtnjlbgolnbdkaaaGreat
