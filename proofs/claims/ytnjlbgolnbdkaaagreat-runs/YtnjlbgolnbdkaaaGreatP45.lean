/- All, with short names -/
import Derived.Test.YtnjlbgolnbdkaaaGreatP44
set_option maxRecDepth 100000
set_option maxHeartbeats 16000000
namespace Go.Proofs.YtnjlbgolnbdkaaaGreat
open Go Go.RowKit
theorem jJ.drewN{p:Nat→Value}{a:Nat→Nat}{b:Nat}{n:Int}{c:Nat→Value}{d f:Nat→List eI}{w:World}(h:jJ p a b n c d f w)(q:Nat):jJ p a b n c d f (w.drewN q):=h.touch (S:=fun _=>False) (aH.ofDrewN w q) (fun _ _ g=>g.elim)
theorem Lt(p:Nat→Value)(P:Nat→Nat)(l:Nat)(n:Int)(Q:Nat→Value)(c:Nat→List eI)(w:World)(h:jJ p P l n Q c c w)(C:∀f,(c f).length≤100000000000):
 Calls Tryz.prog 34 #[.pointer (some ⟨l,5,none⟩)] w fun e w'=>e=.returned (.bool true)∧∃q,w'=w.drewN q:=by
 have a7:Hid (∀q,Calls Tryz.prog 68 #[.pointer (some ⟨l,5,none⟩)] (w.drewN q) fun e w'=>e=.returned (.bool true)∧∃p,w'=w.drewN p):=fun q=>(Gs p P l n Q c (w.drewN q) (h.drewN q) C).mono (fun e w' ⟨a8,p,a9⟩=>⟨a8,_,a9.trans (World.drewN_drewN w q p)⟩)
 obtain⟨b0,b1,b2,b3,R,S,T⟩:=(h.read 0 (by omega)).ex;have b4:w.cell? ⟨l,8,none⟩=some (.slice b0 (c 0).length b1):=by rw[←R];exact h.cell 3 (by omega) (by omega)
 have b5:w.cell? ⟨l,9,none⟩=some (.slice b2 (c 0).length b3):=by rw[←S];exact h.cell 4 (by omega) (by omega)
 have U:=aI T;have d3:=C 0;clear R S T;generalize (c 0).length=E at *;obtain⟨b6,r,b7,j,V,W,X⟩:=(h.read 1 (by omega)).ex;have b8:w.cell? ⟨l,10,none⟩=some (.slice b6 (c 1).length r):=by rw[←V];exact h.cell 5 (by omega) (by omega)
 have b9:w.cell? ⟨l,11,none⟩=some (.slice b7 (c 1).length j):=by rw[←W];exact h.cell 6 (by omega) (by omega)
 have Y:=aI X;have d4:=C 1;clear V W X;generalize (c 1).length=F at *;obtain⟨c0,c1,c2,D,Z,a0,a1⟩:=(h.read 2 (by omega)).ex;have c3:w.cell? ⟨l,12,none⟩=some (.slice c0 (c 2).length c1):=by rw[←Z];exact h.cell 7 (by omega) (by omega)
 have c4:w.cell? ⟨l,13,none⟩=some (.slice c2 (c 2).length D):=by rw[←a0];exact h.cell 8 (by omega) (by omega)
 have a2:=aI a1;have d5:=C 2;clear Z a0 a1;generalize (c 2).length=G at *;obtain⟨c5,c6,c7,c8,a3,a4,a5⟩:=(h.read 3 (by omega)).ex;have c9:w.cell? ⟨l,14,none⟩=some (.slice c5 (c 3).length c6):=by rw[←a3];exact h.cell 9 (by omega) (by omega)
 have d0:w.cell? ⟨l,15,none⟩=some (.slice c7 (c 3).length c8):=by rw[←a4];exact h.cell 10 (by omega) (by omega)
 have a6:=aI a5;have d6:=C 3;clear a3 a4 a5;generalize (c 3).length=H at *;clear h C
 go_enter Tryz.func34,Tryz.ntmps34
 go_wp2
 go_loopw [3,4] (fun t i wr=>∃k q:Nat,k≤E∧t=.bool true∧i=.int .i64 k∧wr=w.drewN q) (fun _ i _=>E-(intOf i).toNat)
 case atStart=>exact⟨0,0,by omega,rfl,rfl,rfl⟩
 case round=>
  obtain⟨k,q,I,rfl,rfl,rfl⟩:=hrel
  by_cases s:k<E
  ·obtain⟨J,u,ad,d,L,m,v,x,M,r,j,o⟩:=U.out k s;have y:=aI o;simp only[v]at b4;simp only[x]at b5;have D:w.cell? ⟨u,k,none⟩=some (.int .u8 m):=j;clear o j;go_wp2
   go_loopw [3,5] (fun t i wr=>∃a q:Nat,a≤d∧t=.bool true∧i=.int .i64 a∧wr=w.drewN q) (fun _ i _=>d-(intOf i).toNat)
   case atStart=>exact⟨0,q,by omega,rfl,rfl,rfl⟩
   case round=>
    obtain⟨a,z,N,rfl,rfl,rfl⟩:=hrel
    by_cases A:a<d
    ·obtain⟨g,B,b⟩:=y.out a A;simp only[B]at r;have O:w.cell? ⟨g,a,none⟩=some (.int .u8 m):=by have:=b 0 (by decide);simpa[nG,mF]using this
     clear b;go_wp2
     go_quiet (fail)
     go_wp2
     go_roundw
     case rel=>exact⟨a+1,_,by omega,rfl,by go_num,rfl⟩
     case measure=>simp[intOf];omega
    ·go_wp2
     go_roundw
     case rel=>exact⟨k+1,z,by omega,rfl,by go_num,rfl⟩
     case measure=>simp[intOf];omega
  ·clear U;go_wp2
   go_loopw [3,6] (fun t i wr=>∃k q:Nat,k≤F∧t=.bool true∧i=.int .i64 k∧wr=w.drewN q) (fun _ i _=>F-(intOf i).toNat)
   case atStart=>exact⟨0,q,by omega,rfl,rfl,rfl⟩
   case round=>
    obtain⟨k,q,I,rfl,rfl,rfl⟩:=hrel
    by_cases s:k<F
    ·obtain⟨J,u,ad,d,L,m,v,x,M,r,j,o⟩:=Y.out k s;have y:=aI o;simp only[v]at b8;simp only[x]at b9;have D:w.cell? ⟨u,k,none⟩=some (.int .i64 m):=j;clear o j;go_wp2
     go_loopw [3,7] (fun t i wr=>∃a q:Nat,a≤d∧t=.bool true∧i=.int .i64 a∧wr=w.drewN q) (fun _ i _=>d-(intOf i).toNat)
     case atStart=>exact⟨0,q,by omega,rfl,rfl,rfl⟩
     case round=>
      obtain⟨a,z,N,rfl,rfl,rfl⟩:=hrel
      by_cases A:a<d
      ·obtain⟨g,B,b⟩:=y.out a A;simp only[B]at r;have O:w.cell? ⟨g,a,none⟩=some (.int .i64 m):=by have:=b 0 (by decide);simpa[nG,mF]using this
       clear b;go_wp2
       go_quiet (fail)
       go_wp2
       go_roundw
       case rel=>exact⟨a+1,_,by omega,rfl,by go_num,rfl⟩
       case measure=>simp[intOf];omega
      ·go_wp2
       go_roundw
       case rel=>exact⟨k+1,z,by omega,rfl,by go_num,rfl⟩
       case measure=>simp[intOf];omega
    ·clear Y;go_wp2
     go_loopw [3,8] (fun t i wr=>∃k q:Nat,k≤G∧t=.bool true∧i=.int .i64 k∧wr=w.drewN q) (fun _ i _=>G-(intOf i).toNat)
     case atStart=>exact⟨0,q,by omega,rfl,rfl,rfl⟩
     case round=>
      obtain⟨k,q,I,rfl,rfl,rfl⟩:=hrel
      by_cases s:k<G
      ·obtain⟨J,u,ad,d,L,m,v,x,M,r,j,o⟩:=a2.out k s;have y:=aI o;simp only[v]at c3;simp only[x]at c4;have D:w.cell? ⟨u,k,none⟩=some (.int .i64 m):=j;clear o j;go_wp2
       go_loopw [3,9] (fun t i wr=>∃a q:Nat,a≤d∧t=.bool true∧i=.int .i64 a∧wr=w.drewN q) (fun _ i _=>d-(intOf i).toNat)
       case atStart=>exact⟨0,q,by omega,rfl,rfl,rfl⟩
       case round=>
        obtain⟨a,z,N,rfl,rfl,rfl⟩:=hrel
        by_cases A:a<d
        ·obtain⟨g,B,b⟩:=y.out a A;simp only[B]at r;have O:w.cell? ⟨g,a*5,none⟩=some (.int .i64 m):=by have:=b 0 (by decide);simpa[nG,mF]using this
         have d1:w.cell? ⟨g,a*5+1,none⟩=some (.int .i64 0):=by have:=b 1 (by decide);simpa[nG,mF]using this
         have d2:w.cell? ⟨g,a*5+2,none⟩=some (.int .i64 0):=by have:=b 2 (by decide);simpa[nG,mF]using this
         have d7:w.cell? ⟨g,a*5+3,none⟩=some (.int .i64 0):=by have:=b 3 (by decide);simpa[nG,mF]using this
         have d8:w.cell? ⟨g,a*5+4,none⟩=some (.int .i64 0):=by have:=b 4 (by decide);simpa[nG,mF]using this
         clear b;go_wp2
         go_quiet (fail)
         go_wp2
         go_roundw
         case rel=>exact⟨a+1,_,by omega,rfl,by go_num,rfl⟩
         case measure=>simp[intOf];omega
        ·go_wp2
         go_roundw
         case rel=>exact⟨k+1,z,by omega,rfl,by go_num,rfl⟩
         case measure=>simp[intOf];omega
      ·clear a2;go_wp2
       go_loopw [3,10] (fun t i wr=>∃k q:Nat,k≤H∧t=.bool true∧i=.int .i64 k∧wr=w.drewN q) (fun _ i _=>H-(intOf i).toNat)
       case atStart=>exact⟨0,q,by omega,rfl,rfl,rfl⟩
       case round=>
        obtain⟨k,q,I,rfl,rfl,rfl⟩:=hrel
        by_cases s:k<H
        ·obtain⟨J,u,ad,d,L,m,v,x,M,r,j,o⟩:=a6.out k s;have y:=aI o;simp only[v]at c9;simp only[x]at d0;have D:w.cell? ⟨u,k,none⟩=some (.int .i64 m):=j;clear o j;go_wp2
         go_loopw [3,11] (fun t i wr=>∃a q:Nat,a≤d∧t=.bool true∧i=.int .i64 a∧wr=w.drewN q) (fun _ i _=>d-(intOf i).toNat)
         case atStart=>exact⟨0,q,by omega,rfl,rfl,rfl⟩
         case round=>
          obtain⟨a,z,N,rfl,rfl,rfl⟩:=hrel
          by_cases A:a<d
          ·obtain⟨g,B,b⟩:=y.out a A;simp only[B]at r;have O:w.cell? ⟨g,a*3,none⟩=some (.int .i64 0):=by have:=b 0 (by decide);simpa[nG,mF]using this
           have d1:w.cell? ⟨g,a*3+1,none⟩=some (.int .i64 m):=by have:=b 1 (by decide);simpa[nG,mF]using this
           have d2:w.cell? ⟨g,a*3+2,none⟩=some (.bool false):=by have:=b 2 (by decide);simpa[nG,mF]using this
           clear b;go_wp2
           go_quiet (fail)
           go_wp2
           go_roundw
           case rel=>exact⟨a+1,_,by omega,rfl,by go_num,rfl⟩
           case measure=>simp[intOf];omega
          ·go_wp2
           go_roundw
           case rel=>exact⟨k+1,z,by omega,rfl,by go_num,rfl⟩
           case measure=>simp[intOf];omega
        ·clear a6;go_wp2_with fail
         refine(a7.out q).mono ?_;rintro e d9 ⟨rfl,p,rfl⟩;go_wp2
         go_ret
         exact⟨rfl,p,rfl⟩
end Go.Proofs.YtnjlbgolnbdkaaaGreat
