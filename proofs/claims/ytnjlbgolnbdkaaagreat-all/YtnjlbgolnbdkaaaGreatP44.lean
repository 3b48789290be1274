/- All, with short names -/
import Derived.Test.YtnjlbgolnbdkaaaGreatP40
set_option maxRecDepth 100000
set_option maxHeartbeats 16000000
namespace Go.Proofs.YtnjlbgolnbdkaaaGreat
open Go Go.RowKit
structure FRead(f:Nat)(vB vM:Value)(N:Nat)(w:World):Prop where
 ex:∃aB cB aM cM,vB=.slice aB N cB∧vM=.slice aM N cM∧∀i,i<N→∃gB gM ad nn cc m,aB=some ⟨gB,0,none⟩∧aM=some ⟨gM,0,none⟩∧nn≤1000000∧w.cell? ⟨gB,i,none⟩=some (.slice ad nn cc)∧w.cell? ⟨gM,i,none⟩=some (mvK f m)∧∀j,j<nn→∃g,ad=some ⟨g,0,none⟩∧∀o,o<mF f→w.cell? ⟨g,j*mF f+o,none⟩=(nG f m)[o]?
theorem Kj{w:World}{e:TypeId}{v:Value}{d:Nat}{f:List Value}(h:w.ownsRow 0 e 1 v d f):∃ad c,v=.slice ad d c∧∀i a,f[i]?=some a→∃g,ad=some ⟨g,0,none⟩∧w.cell? ⟨g,i,none⟩=some a:=by
 rcases h.2 with⟨m,j⟩| ⟨g,cap,cur,k,_⟩
 ·refine⟨none,0,by rw[m,j],fun i a b=>?_⟩;have l:=h.1;rw[j,Nat.zero_mul]at l;rw[List.length_eq_zero_iff.1 l]at b;simp at b
 ·refine⟨_,_,k,fun i a b=>⟨g,rfl,?_⟩⟩;subst k;have e:(⟨g,0,none⟩:Addr).add i=⟨g,i,none⟩:=by unfold Addr.add;split<;>simp_all
  rw[←e];exact h.cells (g:=g) rfl i a b
theorem jJ.read{p:Nat→Value}{g:Nat→Nat}{j:Nat}{n:Int}{b:Nat→Value}{a:Nat→List eI}{w:World}(h:jJ p g j n b a a w)(f:Nat)(k:f<9):FRead f (b (3+2*f)) (b (4+2*f)) (a f).length w:=by
 have hF:=h.fam f k;obtain⟨l,m,o,q⟩:=Kj hF.own;obtain⟨r,s,u,v⟩:=Kj hF.ownM;refine⟨l,m,r,s,o,u,fun i c=>?_⟩;obtain⟨x,y,z⟩:=q i (a f)[i].v (by rw[List.getElem?_map,List.getElem?_eq_getElem c];rfl);obtain⟨A,B,C⟩:=v i (mvK f (a f)[i].mark) (by rw[List.getElem?_map,List.getElem?_eq_getElem c];rfl);obtain⟨d,D,E⟩:=(hF.kept _ (List.getElem_mem c)).2;obtain⟨_,ad,F,G,H⟩:=iI (fun _:Unit=>nG f (a f)[i].mark) (fun _=>gY f _) (List.replicate d ()) (by simp) E;refine⟨x,A,ad,d,F,(a f)[i].mark,y,B,D,by rw[z,G],C,fun I J=>?_⟩;exact H I () (by simp[J])
theorem Gs(p:Nat→Value)(b1:Nat→Nat)(o:Nat)(n:Int)(b2:Nat→Value)(d:Nat→List eI)(w:World)(h:jJ p b1 o n b2 d d w)(C:∀f,(d f).length≤100000000000):
 Calls Tryz.prog 68 #[.pointer (some ⟨o,5,none⟩)] w fun e w'=>e=.returned (.bool true)∧∃q,w'=w.drewN q:=by
 obtain⟨b3,b4,b5,b6,R,S,T⟩:=(h.read 6 (by omega)).ex;have b7:w.cell? ⟨o,20,none⟩=some (.slice b3 (d 6).length b4):=by rw[←R];exact h.cell 15 (by omega) (by omega)
 have b8:w.cell? ⟨o,21,none⟩=some (.slice b5 (d 6).length b6):=by rw[←S];exact h.cell 16 (by omega) (by omega)
 have U:=aI T;have e4:=C 6;clear R S T;generalize (d 6).length=L at *;obtain⟨b9,c0,c1,c2,V,W,X⟩:=(h.read 5 (by omega)).ex;have c3:w.cell? ⟨o,18,none⟩=some (.slice b9 (d 5).length c0):=by rw[←V];exact h.cell 13 (by omega) (by omega)
 have c4:w.cell? ⟨o,19,none⟩=some (.slice c1 (d 5).length c2):=by rw[←W];exact h.cell 14 (by omega) (by omega)
 have Y:=aI X;have e5:=C 5;clear V W X;generalize (d 5).length=M at *;obtain⟨c5,c6,c7,c8,Z,a0,a1⟩:=(h.read 4 (by omega)).ex;have c9:w.cell? ⟨o,16,none⟩=some (.slice c5 (d 4).length c6):=by rw[←Z];exact h.cell 11 (by omega) (by omega)
 have d0:w.cell? ⟨o,17,none⟩=some (.slice c7 (d 4).length c8):=by rw[←a0];exact h.cell 12 (by omega) (by omega)
 have a2:=aI a1;have e6:=C 4;clear Z a0 a1;generalize (d 4).length=N at *;obtain⟨d1,d2,d3,d4,a3,a4,a5⟩:=(h.read 7 (by omega)).ex;have d5:w.cell? ⟨o,22,none⟩=some (.slice d1 (d 7).length d2):=by rw[←a3];exact h.cell 17 (by omega) (by omega)
 have d6:w.cell? ⟨o,23,none⟩=some (.slice d3 (d 7).length d4):=by rw[←a4];exact h.cell 18 (by omega) (by omega)
 have a6:=aI a5;have e7:=C 7;clear a3 a4 a5;generalize (d 7).length=O at *;obtain⟨d7,d8,d9,e0,a7,a8,a9⟩:=(h.read 8 (by omega)).ex;have e1:w.cell? ⟨o,24,none⟩=some (.slice d7 (d 8).length d8):=by rw[←a7];exact h.cell 19 (by omega) (by omega)
 have e2:w.cell? ⟨o,25,none⟩=some (.slice d9 (d 8).length e0):=by rw[←a8];exact h.cell 20 (by omega) (by omega)
 have b0:=aI a9;have e8:=C 8;clear a7 a8 a9;generalize (d 8).length=P at *;clear h C
 go_enter Tryz.func68,Tryz.ntmps68
 go_wp2
 go_loopw [3,4] (fun t i wr=>∃k q:Nat,k≤L∧t=.bool true∧i=.int .i64 k∧wr=w.drewN q) (fun _ i _=>L-(intOf i).toNat)
 case atStart=>exact⟨0,0,by omega,rfl,rfl,rfl⟩
 case round=>
  obtain⟨k,q,D,rfl,rfl,rfl⟩:=hrel
  by_cases r:k<L
  ·obtain⟨E,s,ad,c,F,j,u,v,G,x,l,m⟩:=U.out k r;have y:=aI m;simp only[u]at b7;simp only[v]at b8;have H:w.cell? ⟨s,k,none⟩=some (.int .i64 j):=l;clear m l;go_wp2
   go_loopw [3,5] (fun t i wr=>∃a q:Nat,a≤c∧t=.bool true∧i=.int .i64 a∧wr=w.drewN q) (fun _ i _=>c-(intOf i).toNat)
   case atStart=>exact⟨0,q,by omega,rfl,rfl,rfl⟩
   case round=>
    obtain⟨a,z,I,rfl,rfl,rfl⟩:=hrel
    by_cases A:a<c
    ·obtain⟨g,B,b⟩:=y.out a A;simp only[B]at x;have Q:w.cell? ⟨g,a*2,none⟩=some (.int .i64 j):=by have:=b 0 (by decide);simpa[nG,mF]using this
     have J:w.cell? ⟨g,a*2+1,none⟩=some (.int .i64 0):=by have:=b 1 (by decide);simpa[nG,mF]using this
     clear b;go_wp2
     go_quiet (fail)
     go_wp2
     go_roundw
     case rel=>exact⟨a+1,_,by omega,rfl,by go_num,rfl⟩
     case measure=>simp[intOf];omega
    ·go_wp2
     go_roundw
     case rel=>exact⟨k+1,z,by omega,rfl,by go_num,rfl⟩
     case measure=>simp[intOf];omega
  ·clear U;go_wp2
   go_loopw [3,6] (fun t i wr=>∃k q:Nat,k≤M∧t=.bool true∧i=.int .i64 k∧wr=w.drewN q) (fun _ i _=>M-(intOf i).toNat)
   case atStart=>exact⟨0,q,by omega,rfl,rfl,rfl⟩
   case round=>
    obtain⟨k,q,D,rfl,rfl,rfl⟩:=hrel
    by_cases r:k<M
    ·obtain⟨E,s,ad,c,F,j,u,v,G,x,l,m⟩:=Y.out k r;have y:=aI m;simp only[u]at c3;simp only[v]at c4;have H:w.cell? ⟨s,k,none⟩=some (.int .i64 j):=l;clear m l;go_wp2
     go_loopw [3,7] (fun t i wr=>∃a q:Nat,a≤c∧t=.bool true∧i=.int .i64 a∧wr=w.drewN q) (fun _ i _=>c-(intOf i).toNat)
     case atStart=>exact⟨0,q,by omega,rfl,rfl,rfl⟩
     case round=>
      obtain⟨a,z,I,rfl,rfl,rfl⟩:=hrel
      by_cases A:a<c
      ·obtain⟨g,B,b⟩:=y.out a A;simp only[B]at x;have Q:w.cell? ⟨g,a*2,none⟩=some (.int .i64 j):=by have:=b 0 (by decide);simpa[nG,mF]using this
       have J:w.cell? ⟨g,a*2+1,none⟩=some (.slice none 0 0):=by have:=b 1 (by decide);simpa[nG,mF]using this
       clear b;go_wp2
       go_quiet (fail)
       go_wp2
       go_roundw
       case rel=>exact⟨a+1,_,by omega,rfl,by go_num,rfl⟩
       case measure=>simp[intOf];omega
      ·go_wp2
       go_roundw
       case rel=>exact⟨k+1,z,by omega,rfl,by go_num,rfl⟩
       case measure=>simp[intOf];omega
    ·clear Y;go_wp2
     go_loopw [3,8] (fun t i wr=>∃k q:Nat,k≤N∧t=.bool true∧i=.int .i64 k∧wr=w.drewN q) (fun _ i _=>N-(intOf i).toNat)
     case atStart=>exact⟨0,q,by omega,rfl,rfl,rfl⟩
     case round=>
      obtain⟨k,q,D,rfl,rfl,rfl⟩:=hrel
      by_cases r:k<N
      ·obtain⟨E,s,ad,c,F,j,u,v,G,x,l,m⟩:=a2.out k r;have y:=aI m;simp only[u]at c9;simp only[v]at d0;have H:w.cell? ⟨s,k,none⟩=some (.int .i64 j):=l;clear m l;go_wp2
       go_loopw [3,9] (fun t i wr=>∃a q:Nat,a≤c∧t=.bool true∧i=.int .i64 a∧wr=w.drewN q) (fun _ i _=>c-(intOf i).toNat)
       case atStart=>exact⟨0,q,by omega,rfl,rfl,rfl⟩
       case round=>
        obtain⟨a,z,I,rfl,rfl,rfl⟩:=hrel
        by_cases A:a<c
        ·obtain⟨g,B,b⟩:=y.out a A;simp only[B]at x;have J:w.cell? ⟨g,a*10+1,none⟩=some (.int .i64 j):=by have:=b 1 (by decide);simpa[nG,mF]using this
         have e9:w.cell? ⟨g,a*10+9,none⟩=some (.slice none 0 0):=by have:=b 9 (by decide);simpa[nG,mF]using this
         clear b;go_wp2
         go_quiet (fail)
         go_wp2
         go_roundw
         case rel=>exact⟨a+1,_,by omega,rfl,by go_num,rfl⟩
         case measure=>simp[intOf];omega
        ·go_wp2
         go_roundw
         case rel=>exact⟨k+1,z,by omega,rfl,by go_num,rfl⟩
         case measure=>simp[intOf];omega
      ·clear a2;go_wp2
       go_loopw [3,10] (fun t i wr=>∃k q:Nat,k≤O∧t=.bool true∧i=.int .i64 k∧wr=w.drewN q) (fun _ i _=>O-(intOf i).toNat)
       case atStart=>exact⟨0,q,by omega,rfl,rfl,rfl⟩
       case round=>
        obtain⟨k,q,D,rfl,rfl,rfl⟩:=hrel
        by_cases r:k<O
        ·obtain⟨E,s,ad,c,F,j,u,v,G,x,l,m⟩:=a6.out k r;have y:=aI m;simp only[u]at d5;simp only[v]at d6;have H:w.cell? ⟨s,k,none⟩=some (.int .i64 j):=l;clear m l;go_wp2
         go_loopw [3,11] (fun t i wr=>∃a q:Nat,a≤c∧t=.bool true∧i=.int .i64 a∧wr=w.drewN q) (fun _ i _=>c-(intOf i).toNat)
         case atStart=>exact⟨0,q,by omega,rfl,rfl,rfl⟩
         case round=>
          obtain⟨a,z,I,rfl,rfl,rfl⟩:=hrel
          by_cases A:a<c
          ·obtain⟨g,B,b⟩:=y.out a A;simp only[B]at x;have Q:w.cell? ⟨g,a*3,none⟩=some (.int .i64 j):=by have:=b 0 (by decide);simpa[nG,mF]using this
           have J:w.cell? ⟨g,a*3+1,none⟩=some (.int .i64 0):=by have:=b 1 (by decide);simpa[nG,mF]using this
           have e3:w.cell? ⟨g,a*3+2,none⟩=some (.int .i64 0):=by have:=b 2 (by decide);simpa[nG,mF]using this
           clear b;go_wp2
           go_quiet (fail)
           go_wp2
           go_roundw
           case rel=>exact⟨a+1,_,by omega,rfl,by go_num,rfl⟩
           case measure=>simp[intOf];omega
          ·go_wp2
           go_roundw
           case rel=>exact⟨k+1,z,by omega,rfl,by go_num,rfl⟩
           case measure=>simp[intOf];omega
        ·clear a6;go_wp2
         go_loopw [3,12] (fun t i wr=>∃k q:Nat,k≤P∧t=.bool true∧i=.int .i64 k∧wr=w.drewN q) (fun _ i _=>P-(intOf i).toNat)
         case atStart=>exact⟨0,q,by omega,rfl,rfl,rfl⟩
         case round=>
          obtain⟨k,q,D,rfl,rfl,rfl⟩:=hrel
          by_cases r:k<P
          ·obtain⟨E,s,ad,c,F,j,u,v,G,x,l,m⟩:=b0.out k r;have y:=aI m;simp only[u]at e1;simp only[v]at e2;have H:w.cell? ⟨s,k,none⟩=some (.int .i64 j):=l;clear m l;go_wp2
           go_loopw [3,13] (fun t i wr=>∃a q:Nat,a≤c∧t=.bool true∧i=.int .i64 a∧wr=w.drewN q) (fun _ i _=>c-(intOf i).toNat)
           case atStart=>exact⟨0,q,by omega,rfl,rfl,rfl⟩
           case round=>
            obtain⟨a,z,I,rfl,rfl,rfl⟩:=hrel
            by_cases A:a<c
            ·obtain⟨g,B,b⟩:=y.out a A;simp only[B]at x;have Q:w.cell? ⟨g,a*3,none⟩=some (.int .i64 j):=by have:=b 0 (by decide);simpa[nG,mF]using this
             have J:w.cell? ⟨g,a*3+1,none⟩=some (.int .i64 0):=by have:=b 1 (by decide);simpa[nG,mF]using this
             have e3:w.cell? ⟨g,a*3+2,none⟩=some (.int .i64 0):=by have:=b 2 (by decide);simpa[nG,mF]using this
             clear b;go_wp2
             go_quiet (fail)
             go_wp2
             go_roundw
             case rel=>exact⟨a+1,_,by omega,rfl,by go_num,rfl⟩
             case measure=>simp[intOf];omega
            ·go_wp2
             go_roundw
             case rel=>exact⟨k+1,z,by omega,rfl,by go_num,rfl⟩
             case measure=>simp[intOf];omega
          ·clear b0;go_wp2
           go_ret
           exact⟨rfl,q,rfl⟩
end Go.Proofs.YtnjlbgolnbdkaaaGreat
