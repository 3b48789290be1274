/- All, with short names -/
import Derived.Test.YtnjlbgolnbdkaaaGreatP21
import Derived.Defers
set_option maxRecDepth 100000
set_option maxHeartbeats 16000000
namespace Go.Proofs.YtnjlbgolnbdkaaaGreat
open Go Go.RowKit
section
open Go.RowKit
theorem Nf(i n:Nat)(st:aQ)(b:(st.part i).mode≠3):dS i n st=dO st i n:=by
 unfold dS dO dI;generalize dE st i n=d;obtain⟨op,a⟩:=d;simp only
 by_cases c:op=7
 ·subst c;cases hm:cZ st i a
  ·simp[b]
  ·generalize st.queues.getD a.toNat []=q;cases q
   ·simp
   ·simp[b]
 ·have f:(op == 7)=false:=by simp[c]
  rw[f];simp[b,c]
def oI(bs:List Int)(i n:Nat)(op a:Int)(st:aQ):Int×aQ:=
 let x:cQ:=st.follow i n (if op=4∧(st.proc i n).acc≠0 then a else(st.proc i n).next+1)
 let b:=st.setProc i n x
 if op=1 then(-1,st.setProc i n { x with acc:=IntKind.i64.wrap (x.acc+(if a>127 then a-256 else a)) })
 else if op=2 then if a<(st.part i).words.length then(-1,b.setPart i { b.part i with words:=(st.part i).words.set a.toNat x.acc })else(0,b)
 else if op=3 then if a<(st.part i).words.length then(-1,st.setProc i n { x with acc:=(st.part i).words.getD a.toNat 0 })else(0,b)
 else if op=12 then if a<(st.part i).words.length then(if(st.part i).words.getD a.toNat 0=0 then(1,b)else(-1,st.setProc i n { x with acc:=kX x.acc ((st.part i).words.getD a.toNat 0) }))else(0,b)
 else if op=5 then(-1,st.setProc i n { x with til:=st.now+a })
 else if op=6 then if fI st i a=true then(-1,{ b with queues:=if((st.queues.getD a.toNat []).length:Int)<(st.cf.chans.getD a.toNat default).depth then st.queues.set a.toNat (st.queues.getD a.toNat []++[x.acc])else st.queues })else(4,b)
 else if op=7 then if cZ st i a=true then(-1,{ st.setProc i n { x with acc:=(st.queues.getD a.toNat []).headD 0 }with queues:=st.queues.set a.toNat (st.queues.getD a.toNat []).tail })else(4,b)
 else if op=8 then(3,b)
 else if op=9 then(-1,b.setPart i { b.part i with watch:=st.now })
 else if op=10 then(-1,st.setProc i n { x with stopped:=true })
 else if op=11 then(-1,st.setProc i n { x with dl:=if a=0 then -1 else st.now+a })
 else if op=13 then if(st.cpart i).sys=true then(-1,st.setProc i n { x with acc:=dU (bT bs) a })else(4,b)
 else(-1,b)
theorem nH(bs:List Int)(i n:Nat)(st:aQ):fR bs i n st=oI bs i n (dE st i n).1 (dE st i n).2 st:=rfl
section
variable (bs:List Int) (i n k:Nat) (rc:Int) (st:aQ)
abbrev dK(st:aQ)(i n:Nat):aQ:=st.setProc i n (st.follow i n ((st.proc i n).next+1))
theorem Jg{op:Int}(h:op≠4)(a:Int):st.follow i n (if op=4∧(st.proc i n).acc≠0 then a else(st.proc i n).next+1)=st.follow i n ((st.proc i n).next+1):=by
 rw[if_neg (fun b=>h b.1)]
theorem uC(x:cQ)(a:Int):fI (st.setProc i n x) i a=fI st i a:=rfl
theorem Lc(g:i<st.parts.length)(B:n<(st.part i).procs.length)(op:Int)(C:op=7→cZ st i k=false):mO bs i n op k rc (dK st i n)=oI bs i n op (k:Int) st:=by
 have b:(dK st i n).proc i n=st.follow i n ((st.proc i n).next+1):=aQ.proc_set g B _;have d:∀x,(dK st i n).setProc i n x=st.setProc i n x:=fun x=>aQ.setProc_set g _ x
 have D:(dK st i n).part i={ st.part i with procs:=(st.part i).procs.set n (st.follow i n ((st.proc i n).next+1)) }:=aQ.part_setProc g _;have j:((dK st i n).part i).words=(st.part i).words:=by rw[D]
 by_cases l:op=4
 ·subst l;have a:mO bs i n 4 k rc (dK st i n)=(-1,if((dK st i n).proc i n).acc≠0 then(dK st i n).setProc i n ((dK st i n).follow i n k)else dK st i n):=rfl;have m:oI bs i n 4 (k:Int) st=(-1,st.setProc i n (st.follow i n (if(4:Int)=4∧(st.proc i n).acc≠0 then(k:Int)else(st.proc i n).next+1))):=rfl;rw[a,m,d];have E:(dK st i n).follow i n k=st.follow i n k:=by
   show({ (dK st i n).proc i n with next:=(k:Int),stopped:=decide ((((dK st i n).codeOf i n).length:Int)≤k) }:cQ)=_
   rw[b];rfl
  have F:((dK st i n).proc i n).acc=(st.proc i n).acc:=by rw[b];rfl
  rw[E,F]
  by_cases f:(st.proc i n).acc=0
  ·rw[if_neg (by simpa using f),if_neg (fun h=>h.2 f)]
  ·rw[if_pos f,if_pos ⟨rfl,f⟩]
 unfold oI;simp only[Jg i n st l]
 by_cases c1:op=1
 ·subst c1;have a:mO bs i n 1 k rc (dK st i n)=(-1,(dK st i n).setProc i n { (dK st i n).proc i n with acc:=IntKind.i64.wrap (((dK st i n).proc i n).acc+s8 k) }):=rfl;rw[a,d,b,if_pos rfl];rfl
 rw[if_neg c1]
 by_cases c2:op=2
 ·subst c2;have a:mO bs i n 2 k rc (dK st i n)=if k<((dK st i n).part i).words.length then(-1,(dK st i n).setPart i { (dK st i n).part i with words:=((dK st i n).part i).words.set k ((dK st i n).proc i n).acc })else(0,dK st i n):=rfl
  rw[a,j,b,if_pos rfl]
  by_cases c:k<(st.part i).words.length
  ·rw[if_pos c,if_pos (by omega)];rfl
  ·rw[if_neg c,if_neg (by omega)]
 rw[if_neg c2]
 by_cases z:op=3
 ·subst z;have a:mO bs i n 3 k rc (dK st i n)=if k<((dK st i n).part i).words.length then(-1,(dK st i n).setProc i n { (dK st i n).proc i n with acc:=((dK st i n).part i).words.getD k 0 })else(0,dK st i n):=rfl
  rw[a,j,b,d,if_pos rfl]
  by_cases c:k<(st.part i).words.length
  ·rw[if_pos c,if_pos (by omega)];rfl
  ·rw[if_neg c,if_neg (by omega)]
 rw[if_neg z]
 by_cases A:op=12
 ·subst A;have a:mO bs i n 12 k rc (dK st i n)=if k<((dK st i n).part i).words.length then(if((dK st i n).part i).words.getD k 0=0 then(1,dK st i n)else(-1,(dK st i n).setProc i n { (dK st i n).proc i n with acc:=kX ((dK st i n).proc i n).acc (((dK st i n).part i).words.getD k 0) }))else(0,dK st i n):=rfl
  rw[a,j,b,d,if_pos rfl]
  by_cases c:k<(st.part i).words.length
  ·rw[if_pos c,if_pos (show(k:Int)<(st.part i).words.length by omega)];rfl
  ·rw[if_neg c,if_neg (by omega)]
 rw[if_neg A]
 by_cases o:op=5
 ·subst o;have a:mO bs i n 5 k rc (dK st i n)=(-1,(dK st i n).setProc i n { (dK st i n).proc i n with til:=(dK st i n).now+k }):=rfl;rw[a,d,b,if_pos rfl];rfl
 rw[if_neg o]
 by_cases p:op=6
 ·subst p;have a:mO bs i n 6 k rc (dK st i n)=if fI (dK st i n) i k=true then(-1,{ dK st i n with queues:=if(((dK st i n).queues.getD k []).length:Int)<((dK st i n).cf.chans.getD k default).depth then(dK st i n).queues.set k ((dK st i n).queues.getD k []++[((dK st i n).proc i n).acc])else(dK st i n).queues })else(4,dK st i n):=rfl
  rw[a,b,uC,if_pos rfl];rfl
 rw[if_neg p]
 by_cases q:op=7
 ·subst q;have a:mO bs i n 7 k rc (dK st i n)=if cZ st i k=true then(-1,(dK st i n).setProc i n { (dK st i n).proc i n with acc:=rc })else(4,dK st i n):=rfl
  rw[a,C rfl];rfl
 rw[if_neg q]
 by_cases r:op=8
 ·subst r;rfl
 rw[if_neg r]
 by_cases s:op=9
 ·subst s;rfl
 rw[if_neg s]
 by_cases u:op=10
 ·subst u;have a:mO bs i n 10 k rc (dK st i n)=(-1,(dK st i n).setProc i n { (dK st i n).proc i n with stopped:=true }):=rfl;rw[a,d,b,if_pos rfl]
 rw[if_neg u]
 by_cases v:op=11
 ·subst v;have a:mO bs i n 11 k rc (dK st i n)=(-1,(dK st i n).setProc i n { (dK st i n).proc i n with dl:=if k=0 then -1 else(dK st i n).now+k }):=rfl;rw[a,d,b,if_pos rfl];have m:(if k=0 then(-1:Int)else st.now+k)=if(k:Int)=0 then -1 else st.now+k:=by
   by_cases c:k=0
   ·rw[if_pos c,if_pos (by omega)]
   ·rw[if_neg c,if_neg (by omega)]
  show(-1,st.setProc i n { st.follow i n ((st.proc i n).next+1)with dl:=if k=0 then(-1:Int)else st.now+k })=_
  rw[m]
 rw[if_neg v]
 by_cases y:op=13
 ·subst y;have a:mO bs i n 13 k rc (dK st i n)=if((dK st i n).cpart i).sys=true then(-1,(dK st i n).setProc i n { (dK st i n).proc i n with acc:=dU (bT bs) k })else(4,dK st i n):=rfl
  rw[a,d,b,if_pos rfl];rfl
 rw[if_neg y];unfold mO;rw[if_neg c1,if_neg (by omega),if_neg l,if_neg o,if_neg p,if_neg q,if_neg r,if_neg s,if_neg u,if_neg v,if_neg y]
end
theorem Qw(i n:Nat)(s:SF)(h:cS s)(d:i<s.1.parts.length)(f:n<(s.1.part i).procs.length)(c:dS i n s.1=true):
 lS i n s=if(fR s.2.bs i n s.1).1<0 then(true,(fR s.2.bs i n s.1).2,s.2)else cK i n (fR s.2.bs i n s.1).1.toNat ((fR s.2.bs i n s.1).2,s.2):=by
 obtain⟨st,F⟩:=s;have r:dY st:=h.1;have u:eA st:=h.2;have y:(st.proc i n).stopped=false:=by
  unfold dS at c;simp only[Bool.and_eq_true,Bool.not_eq_true']at c;exact c.1.1
 have p:=r.proc i n d f;have M:(st.proc i n).next<(st.codeOf i n).length:=by
  rcases p.next.2.2 with g| g
  ·rw[y]at g;cases g
  ·exact g
 have z:=(sT u i n (st.proc i n).next.toNat d f (by have:=p.next.1;omega)).2.1.1;have A:pU i n (dI i n st).1.1 ((dI i n st).2,F)=fR F.bs i n st:=by
  rw[nH];have B:∀q,dE { st with queues:=q } i n=dE st i n:=fun q=>rfl
  have N:0≤(dE st i n).2:=z;have l:(dI i n st).1.2=true:=by
   unfold dS at c;simp only[Bool.and_eq_true]at c;exact c.2
  unfold pU
  by_cases b:((dE st i n).1 == 7&&cZ st i (dE st i n).2)=true
  ·have C:(dE st i n).1=7:=by simp only[Bool.and_eq_true,beq_iff_eq]at b;exact b.1
   have m:cZ st i (dE st i n).2=true:=by simp only[Bool.and_eq_true]at b;exact b.2
   have o:dI i n st=(match st.queues.getD (dE st i n).2.toNat []with| []=>((0,false),st)| v::a=>((v,true),{ st with queues:=st.queues.set (dE st i n).2.toNat a })):=by
    unfold dI;rw[if_pos b];cases st.queues.getD (dE st i n).2.toNat []<;>rfl
   rw[o]at l ⊢;cases hq:st.queues.getD (dE st i n).2.toNat []with
   | nil=>rw[hq]at l;cases l
   | cons v a=>
    simp only;rw[B,C];obtain⟨k,j⟩:∃k:Nat,(dE st i n).2=(k:Int):=⟨(dE st i n).2.toNat,by omega⟩;rw[j]at hq m ⊢;rw[Int.toNat_natCast]at hq;rw[Int.toNat_natCast];have D:(dK { st with queues:=st.queues.set k a } i n).proc i n=st.follow i n ((st.proc i n).next+1):=aQ.proc_set (st:={ st with queues:=st.queues.set k a }) d f _;have E:∀x,(dK { st with queues:=st.queues.set k a } i n).setProc i n x=aQ.setProc { st with queues:=st.queues.set k a } i n x:=fun x=>aQ.setProc_set (st:={ st with queues:=st.queues.set k a }) d _ x
    have G:mO F.bs i n 7 k v (dK { st with queues:=st.queues.set k a } i n)=if cZ st i k=true then(-1,(dK { st with queues:=st.queues.set k a } i n).setProc i n { (dK { st with queues:=st.queues.set k a } i n).proc i n with acc:=v })else(4,dK { st with queues:=st.queues.set k a } i n):=rfl
    have H:oI F.bs i n 7 (k:Int) st=if cZ st i k=true then(-1,{ st.setProc i n { st.follow i n ((st.proc i n).next+1)with acc:=(st.queues.getD k []).headD 0 }with queues:=st.queues.set k (st.queues.getD k []).tail })else(4,dK st i n):=by
     unfold oI;simp only[Jg i n st (show(7:Int)≠4 by decide)];rfl
    have I:mO F.bs i n 7 k v (dK { st with queues:=st.queues.set k a } i n)=oI F.bs i n 7 (k:Int) st:=by
     rw[G,H,if_pos m,if_pos m,E,D,hq];rfl
    exact I
  ·have o:dI i n st=((0,true),st):=by
    unfold dI;rw[if_neg b]
   rw[o];obtain⟨k,j⟩:∃k:Nat,(dE st i n).2=(k:Int):=⟨(dE st i n).2.toNat,by omega⟩;show mO F.bs i n (dE st i n).1 (dE st i n).2.toNat 0 (dK st i n)=_
   rw[j,Int.toNat_natCast];refine Lc F.bs i n k 0 st d f _ (fun e=>?_);rw[e,j]at b;cases hm:cZ st i (k:Int)
   ·rfl
   ·rw[hm]at b;exact(b rfl).elim
 have J:=Gr F.bs i n (dE (dI i n st).2 i n).1 (dE (dI i n st).2 i n).2.toNat (dI i n st).1.1 ((dI i n st).2.setProc i n ((dI i n st).2.follow i n (((dI i n st).2.proc i n).next+1)));have L:-1≤(pU i n (dI i n st).1.1 ((dI i n st).2,F)).1:=J.1;show oG i n (dI i n st).1.1 ((dI i n st).2,F)=_
 unfold oG;rw[A]at L ⊢;simp only
 by_cases e:(fR F.bs i n st).1<0
 ·rw[if_pos (by omega),if_pos e]
 ·rw[if_neg (by omega),if_neg e]
theorem zB(i:Nat)(s:SF)(h:cS s)(j:i<s.1.parts.length):gA i s=pP i s:=by
 obtain⟨st,F⟩:=s;have l:eA st:=h.2;have y:=l.one i j;have m:(st.cpart i).procs.length=(st.part i).procs.length:=(l.part i j).2.symm;unfold gA pP vK
 by_cases d:(st.part i).mode=3
 ·have o:∀k,iD st i k=none:=by
   intro k
   induction k with
   | zero=>rfl
   | succ k ih=>
    have:dO st i k=false:=by unfold dO;simp[d]
    unfold iD;rw[this,ih];rfl
  simp only;rw[if_pos d,o]
 ·simp only;rw[if_neg d,m];have f:∀n,dS i n st=dO st i n:=fun n=>Nf i n st d
  have a:∀n,n<(st.part i).procs.length→dO st i n=true→lS i n (st,F)=if(fR F.bs i n st).1<0 then(true,(fR F.bs i n st).2,F)else cK i n (fR F.bs i n st).1.toNat ((fR F.bs i n st).2,F):=fun n p g=>Qw i n (st,F) h j p (by rw[←f]at g;exact g)
  have c:∀q,bK st i q=((fM (st.part i).procs.length (fD (st.cpart i))).getD q 0).toNat:=fun _=>rfl
  generalize (st.part i).procs.length=np at *;obtain rfl| rfl:np=1∨np=2:=by omega
  ·have p0:bK st i 0=0:=by rw[c];rfl
   have r:iD st i 1=if dO st i 0=true then some 0 else none:=by
    show(if(dO st i 0&&true)=true then some 0 else none)=_
    rw[Bool.and_true]
   have u:(List.range 1).find? (fun q=>dS i (bK st i q) st)=if dO st i 0=true then some 0 else none:=by
    show(match dS i (bK st i 0) st with| true=>some 0| false=>none)=_
    rw[p0,f];cases dO st i 0<;>rfl
   rw[r,u];cases g:dO st i 0
   ·rfl
   ·rw[if_pos rfl];simp only;rw[p0];exact a 0 (by omega) g
  ·have v:iD st i 2=if(dO st i 1&&(!dO st i 0||iU (fD (st.cpart i))))=true then some 1 else if dO st i 0=true then some 0 else none:=by
    show(if(dO st i 1&&(match (if(dO st i 0&&true)=true then some 0 else none)with| none=>true| some b=>decide (fD (st.cpart i) b<fD (st.cpart i) 1)))=true then some 1 else(if(dO st i 0&&true)=true then some 0 else none))=_
    rw[Bool.and_true];cases dO st i 0<;>rfl
   have x:(List.range 2).find? (fun q=>dS i (bK st i q) st)=if dS i (bK st i 0) st=true then some 0 else if dS i (bK st i 1) st=true then some 1 else none:=by
    show(match dS i (bK st i 0) st with| true=>some 0| false=>(match dS i (bK st i 1) st with| true=>some 1| false=>none))=_
    cases dS i (bK st i 0) st<;>cases dS i (bK st i 1) st<;>rfl
   rw[v,x,f,f];cases ht:iU (fD (st.cpart i))
   ·have p0:bK st i 0=0:=by rw[c];unfold fM;rw[ht];rfl
    have p1:bK st i 1=1:=by rw[c];unfold fM;rw[ht];rfl
    rw[p0,p1];cases h0:dO st i 0
    ·cases h1:dO st i 1
     ·rfl
     ·simp only[Bool.true_and,Bool.not_false,Bool.true_or,if_true,Bool.false_eq_true,if_false,p1];exact a 1 (by omega) h1
    ·cases h1:dO st i 1
     ·simp only[Bool.false_and,if_true,Bool.false_eq_true,if_false,p0];exact a 0 (by omega) h0
     ·simp only[Bool.true_and,Bool.not_true,Bool.or_false,if_true,Bool.false_eq_true,if_false,p0];exact a 0 (by omega) h0
   ·have p0:bK st i 0=1:=by rw[c];unfold fM;rw[ht];rfl
    have p1:bK st i 1=0:=by rw[c];unfold fM;rw[ht];rfl
    rw[p0,p1];cases h1:dO st i 1
    ·cases h0:dO st i 0
     ·rfl
     ·simp only[Bool.false_and,if_true,Bool.false_eq_true,if_false,p1];exact a 0 (by omega) h0
    ·simp only[Bool.true_and,Bool.or_true,if_true,p0];exact a 1 (by omega) h1
theorem Sz(s:SF)(h:cS s):sN s=Ie s:=by
 unfold sN Ie;cases hf:s.1.cf.wins.find? (kR s.1.now s.1.cf.frame)with
 | none=>rfl
 | some x=>
  have:=h.2.good.wins x (List.mem_of_find?_eq_some hf);have a:=h.2.len;exact zB _ s h (by omega)
theorem yS(s:SF)(h:cS s):rL s=lK s:=by
 unfold rL lK;have a:=sW _ _ (oL s h) mD;generalize eL (kV s) dW=r at *;unfold eL;split
 ·exact Sz _ a
 ·rfl
theorem Mj(s:SF)(h:cS s):cS (lK s).2:=by rw[←yS s h];exact Ly s h
theorem Is(s:SF):Lk s.1 (rL s).2.1:=
 jO (fun x=>Lk s.1 x.1) (jO (fun x=>Lk s.1 x.1) (yH s) (fun x a=>a.trans (rK x))) (fun x a=>a.trans (Nc x))
end
section
open Go.RowKit Go.Shelf
theorem Dm.same{c:bN}{g b:Nat}{st a:aQ}(d:a.cf=st.cf)(f:a.parts.length=st.parts.length)(h:Dm c g a b):Dm c g st b:=by
 unfold Dm at *;rw[d,f]at h;exact h
theorem jL(b k a:Nat)(x:Int)(d:Bool)(c:FrameMode)(w:World)(h:w.cell? ⟨a,0,none⟩=some (.int .i64 x))(i:w.cell? ⟨b,7,none⟩=some (.bool d))(j:w.frozen? ⟨b,7,none⟩=false)(f:k=0):
 CallsD Tryz.prog 70 #[.pointer (some ⟨b,k,none⟩),.pointer (some ⟨a,0,none⟩)] c w fun e g w'=>g=c∧(e=.returned (.tuple #[])∧w'=w.setCell ⟨b,7,none⟩ (.bool (x == 6))):=by
 subst f
 go_enter_d Tryz.func70,Tryz.ntmps70
 go_wp2
 go_end0
 exact⟨rfl,rfl⟩
theorem Cb(k:Nat)(s:SF):dR (k+1) s=eL (dR k s) lY:=rfl
theorem sC(s:SF)(k n:Nat)(a:k≤n)(h:(dR k s).1=false):dR n s=dR k s:=iB _ s k n a h
theorem yQ(s:SF)(n:Nat)(h:(dR n s).1=true):lV s n=n:=by
 cases n with
 | zero=>rfl
 | succ k=>unfold lV;rw[if_pos h]
theorem Bm(s:SF)(k:Nat)(h:(dR k s).1=true)(a:(dR (k+1) s).1=false):∀n,k+1≤n→lV s n=k:=by
 intro n
 induction n with
 | zero=>intro h;omega
 | succ n ih=>
  intro b;unfold lV;rw[sC s (k+1) (n+1) b a,a,if_neg (by decide)]
  by_cases e:k=n
  ·subst e;exact yQ s k h
  ·exact ih (by omega)
structure Tk(s s':SF)(k:Nat):Prop where
 run:cS s'
 cf:s'.1.cf=s.1.cf
 len:s'.1.parts.length=s.1.parts.length
 now:s.1.now≤s'.1.now∧s'.1.now≤s.1.now+k
theorem yF(s:SF)(h:cS s):Lk s.1 (lK s).2.1:=by rw[←yS s h];exact Is s
theorem Mo.now{w w':World}{a:bN}{g:Nat}{st:aQ}{F:Fl}(h:Mo w a g st F)(x:Int)(b:w'=w.setCell ⟨a.mb,6,none⟩ (.int .i64 x)):Mo w' a g { st with now:=x } F:=
 h.cells h.mach.mach (by decide) (by rw[b];exact aH.ofSet w _ _ _ rfl) (by rw[b];exact h.mach.setNow x) rfl rfl ⟨h.ok.good,h.ok.len,h.ok.part,h.ok.qlen⟩
theorem Mo.lost{w w':World}{a:bN}{g:Nat}{st:aQ}{F:Fl}(h:Mo w a g st F)(x:Bool)(b:w'=w.setCell ⟨a.mb,7,none⟩ (.bool x)):Mo w' a g { st with dead:=x } F:=
 h.cells h.mach.mach (by decide) (by rw[b];exact aH.ofSet w _ _ _ rfl) (by rw[b];exact h.mach.setLost x) rfl rfl ⟨h.ok.good,h.ok.len,h.ok.part,h.ok.qlen⟩
theorem yA(s:SF)(h:cS s):∀k:Nat,s.1.now+k≤1000000000000→Tk s (dR k s).2 k:=by
 intro k
 induction k with
 | zero=>intro _;exact⟨h,rfl,rfl,⟨Int.le_refl _,by show s.1.now≤s.1.now+((0:Nat):Int);omega⟩⟩
 | succ k ih=>
  intro d;have a:=ih (by omega);rw[Cb];generalize dR k s=r at *;unfold eL;split
  ·have c:=Mj r.2 a.run;have b:=yF r.2 a.run;unfold lY eL;split
   ·refine⟨cS.later c ?_,b.cf.trans a.cf,b.len.trans a.len,?_⟩
    ·rw[b.now];have:=a.now.2;omega
    ·show s.1.now≤(lK r.2).2.1.now+1∧(lK r.2).2.1.now+1≤_
     rw[b.now];have:=a.now;omega
   ·refine⟨c,b.cf.trans a.cf,b.len.trans a.len,?_⟩;rw[b.now];have:=a.now;omega
  ·refine⟨a.run,a.cf,a.len,?_⟩;have:=a.now;omega
theorem Pk(a:bN)(g:Nat)(st:aQ)(F:Fl)(n:Int)(w:World)(h:Mo w a g st F)(c:n<0∨1000<n):
 Calls Tryz.prog 37 #[.pointer (some ⟨a.mb,0,none⟩),.int .i64 n] w fun e w'=>e=.returned (.tuple #[.int .i64 0,.int .i64 1])∧Mo w' a g st F∧aH (Dm a g st) w w':=by
 have d:Below w.heap.size w (w.alloc (.cells #[.int .i64 1] 24)):=aG _ _;have b:Hid (Mo (w.alloc (.cells #[.int .i64 1] 24)) a g st F∧aH (Dm a g st) w (w.alloc (.cells #[.int .i64 1] 24))):=⟨h.mono d,aH.ofBelow d⟩;have f:=aI (Boxed.new w 24 (.int .i64 1)).cell;clear h d;rcases c with c| c
 ·go_enter_defers Tryz.func37,Tryz.ntmps37
  go_wp2
  exact⟨_,by simp[results,Tryz.results37,go_sem,f.out],rfl,b.out.1,b.out.2⟩
 ·have i:¬n<0:=by omega
  go_enter_defers Tryz.func37,Tryz.ntmps37
  go_wp2
  exact⟨_,by simp[results,Tryz.results37,go_sem,f.out],rfl,b.out.1,b.out.2⟩
theorem Iw(a:bN)(g:Nat)(st:aQ)(F:Fl)(n:Int)(w:World)(h:Mo w a g st F)(i:¬ (n<0∨1000<n))(d:st.dead=true):
 Calls Tryz.prog 37 #[.pointer (some ⟨a.mb,0,none⟩),.int .i64 n] w fun e w'=>e=.returned (.tuple #[.int .i64 0,.int .i64 6])∧Mo w' a g st F∧aH (Dm a g st) w w':=by
 have b:Below w.heap.size w (w.alloc (.cells #[.int .i64 6] 24)):=aG _ _;have f:Hid (Mo (w.alloc (.cells #[.int .i64 6] 24)) a g st F∧aH (Dm a g st) w (w.alloc (.cells #[.int .i64 6] 24))):=⟨h.mono b,aH.ofBelow b⟩;have j:=aI (Boxed.new w 24 (.int .i64 6)).cell;have c:=h.mach.machAt 7;simp only[List.getElem?_toArray,List.getElem?_cons_succ,List.getElem?_cons_zero]at c;rw[d]at c;have k:=aN c;have l:¬n<0:=by omega
 have m:¬ 1000<n:=by omega
 clear h b i d
 go_enter_defers Tryz.func37,Tryz.ntmps37
 go_wp2
 exact⟨_,by simp[results,Tryz.results37,go_sem,j.out],rfl,f.out.1,f.out.2⟩
theorem Pm(a:bN)(g:Nat)(st:aQ)(F:Fl)(n:Nat)(w:World)(h:Mo w a g st F)(a8:dY st)(e0:n≤1000)(N:st.dead=false)(e1:st.now+1000≤1000000000000):
 Calls Tryz.prog 37 #[.pointer (some ⟨a.mb,0,none⟩),.int .i64 n] w fun e w'=>e=.returned (.tuple #[.int .i64 (lV (st,F) n),.int .i64 (if(dR n (st,F)).1=true then 0 else 6)])∧Mo w' a g (iR (dR n (st,F))).1 (iR (dR n (st,F))).2∧aH (Dm a g st) w w':=by
 have E:=h.mach.machAt 7;simp only[List.getElem?_toArray,List.getElem?_cons_succ,List.getElem?_cons_zero]at E;rw[N]at E;have e2:=aN E;have e3:¬ (n:Int)<0:=by omega
 have e4:¬ 1000<(n:Int):=by omega
 obtain⟨T,O⟩:∃T:Nat→Bool×SF,T=fun k=>dR k (st,F):=⟨_,rfl⟩
 have a9:Hid (T 0=(true,st,F)):=by show _=_;rw[O];rfl
 have c5:Hid (∀k,(T k).1=true→T (k+1)=lY (T k).2):=fun k R=>by
  rw[O]at R ⊢;show eL (dR k (st,F)) lY=_
  unfold eL;rw[if_pos R]
 have c6:Hid (∀k:Nat,k≤1000→Tk (st,F) (T k).2 k):=fun k R=>by
  rw[O];exact yA (st,F) ⟨a8,h.ok⟩ k (by show st.now+(k:Int)≤_;omega)
 have P:Hid (∀k,T k=dR k (st,F)):=fun k=>by rw[O]
 have e5:=aI h;have Z:Below w.heap.size w (w.alloc (.cells #[.int .i64 0] 24)):=aG _ _;have c7:Hid (Mo (w.alloc (.cells #[.int .i64 0] 24)) a g st F):=h.mono Z;have c8:Hid (aH (Dm a g st) w (w.alloc (.cells #[.int .i64 0] 24))):=aH.ofBelow Z;have c9:=aI (Boxed.new w 24 (.int .i64 0));have d0:Hid (∀b,Dm a g st b→b<w.heap.size):=fun b a0=>h.lt b a0
 have e6:=aI N;have b0:Hid (∀ (W:World) (l:aQ) (y:Fl) (x:Int) (S:Bool),Mo W a g l y→Boxed W w.heap.size 24 (.int .i64 x)→aH (Dm a g st) w W→l.cf=st.cf→l.parts.length=st.parts.length→(x == 6)=S→
  (Mo (W.setCell ⟨a.mb,7,none⟩ (.bool (x == 6))) a g { l with dead:=S } y∧aH (Dm a g st) w (W.setCell ⟨a.mb,7,none⟩ (.bool (x == 6))))∧(W.setCell ⟨a.mb,7,none⟩ (.bool (x == 6))).cell? ⟨w.heap.size,0,none⟩=some (.int .i64 x)∧W.cell? ⟨a.mb,7,none⟩=some (.bool l.dead)∧W.frozen? ⟨a.mb,7,none⟩=false):=fun W l y x S m j v _ _ d1=>by
  have E:=m.mach.machAt 7;simp only[List.getElem?_toArray,List.getElem?_cons_succ,List.getElem?_cons_zero]at E;have G:aH (·=a.mb) W (W.setCell ⟨a.mb,7,none⟩ (.bool (x == 6))):=aH.ofSet W _ _ _ rfl;have d2:Boxed (W.setCell ⟨a.mb,7,none⟩ (.bool (x == 6))) w.heap.size 24 (.int .i64 x):=(G.block _ j.lt (by intro e;have b1:w.heap.size=a.mb:=e;omega)).trans j;exact⟨⟨m.lost S (by rw[d1]),v.thenSet _ _ (.inl rfl)⟩,d2.cell,E,aJ m.mach.mach 7⟩
 have b2:Hid (∀ (W:World) (l:aQ) (y:Fl) (x z:Int),Mo W a g l y→Boxed W w.heap.size 24 (.int .i64 x)→aH (Dm a g st) w W→Mo (W.setCell ⟨w.heap.size,0,none⟩ (.int .i64 z)) a g l y∧Boxed (W.setCell ⟨w.heap.size,0,none⟩ (.int .i64 z)) w.heap.size 24 (.int .i64 z)∧aH (Dm a g st) w (W.setCell ⟨w.heap.size,0,none⟩ (.int .i64 z))):=fun W l y x z m j v=>by
  have G:aH (·=w.heap.size) W (W.setCell ⟨w.heap.size,0,none⟩ (.int .i64 z)):=aH.ofSet W _ _ _ rfl;exact⟨m.box j (by decide) G,j.set _,v.trans G (fun i e=>.inr (by have b1:i=w.heap.size:=e;omega))⟩
 obtain⟨b3,a1⟩:∃b3:Int,b3=lV (st,F) n:=⟨_,rfl⟩;obtain⟨b4,a2⟩:∃b4:Int,b4=if(dR n (st,F)).1=true then 0 else 6:=⟨_,rfl⟩
 obtain⟨b5,a3⟩:∃b5:SF,b5=iR (dR n (st,F)):=⟨_,rfl⟩;rw[←a1,←a2,←a3];have b6:=aI (And.intro a1 (And.intro a2 a3));clear O h a8 Z N a1 a2 a3
 go_enter_defers Tryz.func37,Tryz.ntmps37
 go_wp2
 go_loopw [4,18] (fun d3 t wr=>∃k:Nat,k≤n∧d3=.int .i64 k∧t=.int .i64 k∧(T k).1=true∧Mo wr a g (T k).2.1 (T k).2.2∧Boxed wr w.heap.size 24 (.int .i64 0)∧aH (Dm a g st) w wr) (fun _ t _=>n-(intOf t).toNat)
 case atStart=>exact⟨0,by omega,rfl,rfl,by rw[a9.out],by rw[a9.out];exact c7.out,c9.out,c8.out⟩
 case round=>
  obtain⟨k,R,rfl,rfl,H,m,j,v⟩:=hrel;have d:=c6.out k (by omega)
  by_cases e7:k<n
  ·have a4:=aI (Nx a g (T k).2.1 (T k).2.2 wr m d.run.1);have b7:=yS (T k).2 d.run;have I:rL ((T k).2.1,(T k).2.2)=lK (T k).2:=b7;rw[I]at a4;have b8:Hid (T (k+1)=lY (T k).2):=c5.out k H;have U:=yF (T k).2 d.run;have b9:Hid (0≤(lK (T k).2).2.1.now∧(lK (T k).2).2.1.now+1≤1000000000000):=by
    rw[U.now];have:=d.now;have d4:=d.run.1.now;exact⟨d4.1,by show _≤(1000000000000:Int);have e8:(T k).2.1.now≤st.now+k:=this.2;omega⟩
   have a5:Hid ((lK (T k).2).2.1.cf=st.cf∧(lK (T k).2).2.1.parts.length=st.parts.length):=⟨U.cf.trans d.cf,U.len.trans d.len⟩;have V:Hid ((T k).2.1.cf=st.cf∧(T k).2.1.parts.length=st.parts.length):=⟨d.cf,d.len⟩;have c0:=aI j;have d5:=aI v;have d6:=aI H;have Q:Hid (lY (T k).2=eL (lK (T k).2) fun s=>(true,{ s.1 with now:=s.1.now+1 },s.2)):=rfl;clear m j v d b7 I U H;obtain⟨r,c1⟩:∃r,r=lK (T k).2:=⟨_,rfl⟩;rw[←c1]at a4 b9 a5 Q;clear c1;obtain⟨b,c,A⟩:=r;simp only at *;go_wp2_with fail
   refine a4.out.mono ?_;rintro e o ⟨rfl,J,X⟩;have Y:aH (Dm a g st) w o:=d5.out.andThen (X.to (fun b a0=>Dm.same V.out.1 V.out.2 a0));have B:Boxed o w.heap.size 24 (.int .i64 0):=(X.block _ c0.out.lt (fun N=>by have:=d0.out _ (Dm.same V.out.1 V.out.2 N);omega)).trans c0.out;have c3:=B.cell;have c4:=B.frozen;cases b with
   | false=>
    rw[vY]at Q;have L:T (k+1)=(false,c,A):=b8.out.trans Q.out;have M:Hid (dR n (st,F)=(false,c,A)∧lV (st,F) n=k):=by
     have I:dR (k+1) (st,F)=(false,c,A):=by rw[←P.out];exact L
     refine⟨?_,?_⟩
     ·rw[sC (st,F) (k+1) n (by omega) (by rw[I])];exact I
     ·exact Bm (st,F) k (by rw[←P.out];exact d6.out) (by rw[I]) n (by omega)
    have p:=aI (b2.out o c A 0 6 J B Y);have q:=aI (b0.out _ c A 6 true p.out.1 p.out.2.1 p.out.2.2 a5.out.1 a5.out.2 rfl);clear J X Y B L;go_wp2
    refine leaves_cons (f:=70) (args:=#[.pointer (some ⟨a.mb,0,none⟩),.pointer (some ⟨w.heap.size,0,none⟩)]) (by simp) (by simp[go_sem]) ?_;refine(jL a.mb 0 w.heap.size 6 c.dead .returning _ p.out.2.1.cell q.out.2.2.1 q.out.2.2.2 rfl).mono ?_;rintro e d7 C ⟨rfl,rfl,D⟩;have c2:C.cell? ⟨w.heap.size,0,none⟩=some (.int .i64 6):=by rw[D];exact q.out.2.1
    have a6:Hid (Mo C a g { c with dead:=true } A∧aH (Dm a g st) w C):=by rw[D];exact q.out.1
    clear D;have u:=b6.out;rw[M.out.1,M.out.2]at u;refine⟨_,by simp[results,Tryz.results37,go_sem,c2];rfl,?_,?_⟩
    ·rw[u.1,u.2.1];rfl
    ·rw[u.2.2];exact a6.out
   | true=>
    rw[kQ]at Q;have L:T (k+1)=(true,{ c with now:=c.now+1 },A):=b8.out.trans Q.out;have d8:=J.mach.machAt 6;simp only[List.getElem?_toArray,List.getElem?_cons_succ,List.getElem?_cons_zero]at d8;have e9:=aJ J.mach.mach 6;have f0:IntKind.i64.wrap (c.now+1)=c.now+1:=by rw[IntKind.wrap_i64];have:=b9.out;omega
    have a7:Hid (Mo (o.setCell ⟨a.mb,6,none⟩ (.int .i64 (c.now+1))) a g (T (k+1)).2.1 (T (k+1)).2.2∧Boxed (o.setCell ⟨a.mb,6,none⟩ (.int .i64 (c.now+1))) w.heap.size 24 (.int .i64 0)∧aH (Dm a g st) w (o.setCell ⟨a.mb,6,none⟩ (.int .i64 (c.now+1)))):=by
     have G:aH (·=a.mb) o (o.setCell ⟨a.mb,6,none⟩ (.int .i64 (c.now+1))):=aH.ofSet o _ _ _ rfl;rw[L];exact⟨J.now (c.now+1) rfl,(G.block _ B.lt (by intro e;have b1:w.heap.size=a.mb:=e;omega)).trans B,Y.thenSet _ _ (.inl rfl)⟩
    have d9:Hid ((T (k+1)).1=true):=by show _=_;rw[L]
    clear J X Y B L c3 c4;go_wp2
    go_roundw
    case rel=>exact⟨k+1,by omega,by go_num,by go_num,d9.out,a7.out.1,a7.out.2.1,a7.out.2.2⟩
    case measure=>simp[intOf];omega
  ·obtain rfl:k=n:=by omega
   have M:Hid ((dR k (st,F)).1=true∧lV (st,F) k=k):=⟨by rw[←P.out];exact H,yQ _ _ (by rw[←P.out];exact H)⟩;have p:=aI (b2.out wr (T k).2.1 (T k).2.2 0 0 m j v);have q:=aI (b0.out _ (T k).2.1 (T k).2.2 0 false p.out.1 p.out.2.1 p.out.2.2 d.cf d.len rfl);have c3:=j.cell;have c4:=j.frozen;clear m v H d j;go_wp2
   refine leaves_cons (f:=70) (args:=#[.pointer (some ⟨a.mb,0,none⟩),.pointer (some ⟨w.heap.size,0,none⟩)]) (by simp) (by simp[go_sem]) ?_;refine(jL a.mb 0 w.heap.size 0 (T k).2.1.dead .returning _ p.out.2.1.cell q.out.2.2.1 q.out.2.2.2 rfl).mono ?_;rintro e d7 C ⟨rfl,rfl,D⟩;have c2:C.cell? ⟨w.heap.size,0,none⟩=some (.int .i64 0):=by rw[D];exact q.out.2.1
   have a6:Hid (Mo C a g { (T k).2.1 with dead:=false } (T k).2.2∧aH (Dm a g st) w C):=by rw[D];exact q.out.1
   clear D;have u:=b6.out;rw[M.out.1,M.out.2]at u;refine⟨_,by simp[results,Tryz.results37,go_sem,c2];rfl,?_,?_⟩
   ·rw[u.1,u.2.1];rfl
   ·rw[u.2.2];unfold iR;rw[M.out.1,←P.out];exact a6.out
end
section
open Go.RowKit Go.Shelf
theorem Mg(a:bN)(g:Nat)(st:aQ)(F:Fl)(n:Int)(w:World)(h:Mo w a g st F)(c:dY st)(d:st.now+1000≤1000000000000):
 Calls Tryz.prog 37 #[.pointer (some ⟨a.mb,0,none⟩),.int .i64 n] w fun e w'=>e=.returned (.tuple #[.int .i64 (bW n (st,F)).1.1,.int .i64 (bW n (st,F)).1.2])∧Mo w' a g (bW n (st,F)).2.1 (bW n (st,F)).2.2∧aH (Dm a g st) w w':=by
 unfold bW
 by_cases b:n<0∨1000<n
 ·rw[if_pos b];exact Pk a g st F n w h b
 ·rw[if_neg b];cases hd:st.dead
  ·rw[if_neg (by simp)];have:=Pm a g st F n.toNat w h c (by omega) hd d;rw[show((n.toNat:Nat):Int)=n by omega]at this;exact this
  ·rw[if_pos rfl];exact Iw a g st F n w h b hd
abbrev qG(i n c:Int)(st:aQ):Prop:=i<0∨st.parts.length≤i∨c<0∨4<c∨n<0∨(st.part i.toNat).procs.length≤n
theorem Gn(a:bN)(g:Nat)(st:aQ)(F:Fl)(i n c:Int)(w:World)(h:Mo w a g st F):
 Calls Tryz.prog 42 #[.pointer (some ⟨a.mb,0,none⟩),.int .i64 i,.int .i64 n,.int .i64 c] w fun e w'=>e=.returned (.int .i64 (dD i n c (st,F)).1)∧Mo w' a g (dD i n c (st,F)).2.1 (dD i n c (st,F)).2.2∧aH (Dm a g st) w w':=by
 obtain⟨I,a4⟩:∃I,I=dD i n c (st,F):=⟨_,rfl⟩;rw[←a4];have b8:Hid (qG i n c st→I=(1,(st,F))):=fun D=>by rw[a4];unfold dD;exact if_pos D
 have h0:Hid (¬qG i n c st→st.dead=true→I=(6,(st,F))):=fun D L=>by
  rw[a4];unfold dD;exact(if_neg D).trans (if_pos L)
 have h1:Hid (¬qG i n c st→st.dead=false→∀k,k=i.toNat→(st.part k).mode=3→I=(0,(st,F))):=fun D L k b0 b1=>by
  subst b0;rw[a4];unfold dD;exact(if_neg D).trans ((if_neg (by rw[L];decide)).trans (if_pos b1))
 have h2:Hid (¬qG i n c st→st.dead=false→∀k u B,k=i.toNat→u=n.toNat→B=c.toNat→(st.part k).mode≠3→I=(if(cK k u B (st,F)).1=true then 0 else 6,iR (cK k u B (st,F)))):=fun D L k u B b0 h3 M b1=>by
  subst b0 h3 M;rw[a4];unfold dD;exact(if_neg D).trans ((if_neg (by rw[L];decide)).trans (if_neg b1))
 clear a4;have f2:∀x,Below w.heap.size w (w.alloc (.cells #[.int .i64 x] 24)):=fun x=>aG _ _
 obtain⟨o,b9⟩:∃o,o=w.alloc (.cells #[.int .i64 0] 24):=⟨_,rfl⟩;have d3:Below w.heap.size w o:=by rw[b9];exact f2 0
 have d4:Mo o a g st F:=h.mono d3;have d5:Boxed o w.heap.size 24 (.int .i64 0):=by rw[b9];exact Boxed.new w 24 _
 have a5:=aI b9;obtain⟨np,d6⟩:∃np,np=st.parts.length:=⟨_,rfl⟩;have h4:a.mb<w.heap.size:=h.lt _ (.inl rfl);have C:Hid (∀W,Below o.heap.size o W→Mo W a g st F∧Boxed W w.heap.size 24 (.int .i64 0)∧aH (Dm a g st) w W):=fun W D=>⟨d4.mono D,(D.block _ d5.lt).trans d5,(aH.ofBelow d3).andThen (aH.ofBelow D)⟩
 have Y:Hid (∀W,Mo W a g st F→W.cell? ⟨a.mb,3,none⟩=some (.slice (some ⟨a.pb,0,none⟩) np np)):=fun W E=>by
  have:=E.mach.machAt 3;simp only[List.getElem?_toArray,List.getElem?_cons_succ,List.getElem?_cons_zero]at this;rw[←d6]at this;exact this
 have d7:Hid (∀W N Z,Mo W a g N Z→W.cell? ⟨a.mb,7,none⟩=some (.bool N.dead)∧W.frozen? ⟨a.mb,7,none⟩=false):=fun W N Z E=>by
  have:=E.mach.machAt 7;simp only[List.getElem?_toArray,List.getElem?_cons_succ,List.getElem?_cons_zero]at this;exact⟨this,aJ E.mach.mach 7⟩
 have S:Hid (∀W,Calls Tryz.prog 72 #[.agg #[.slice (some ⟨a.pb,0,none⟩) np np],.int .i64 i] W fun e w'=>e=.returned (.bool (decide (0≤i)&&decide (i<np)))∧Below W.heap.size W w'):=fun W=>pX a.pb np i W
 have b2:Hid (∀W z,Mo W a g st F→Boxed W w.heap.size 24 (.int .i64 0)→aH (Dm a g st) w W→Mo (W.setCell ⟨w.heap.size,0,none⟩ (.int .i64 z)) a g st F∧(W.setCell ⟨w.heap.size,0,none⟩ (.int .i64 z)).cell? ⟨w.heap.size,0,none⟩=some (.int .i64 z)∧aH (Dm a g st) w (W.setCell ⟨w.heap.size,0,none⟩ (.int .i64 z))):=fun W z E b3 d8=>by
  have b4:aH (·=w.heap.size) W (W.setCell ⟨w.heap.size,0,none⟩ (.int .i64 z)):=aH.ofSet W _ _ _ rfl;exact⟨E.box b3 (by decide) b4,(b3.set _).cell,d8.trans b4 (fun i e=>.inr (by have f3:i=w.heap.size:=e;omega))⟩
 have d9:=aI d6;have j7:=aI d4;have j8:=Y.out w h;have j9:=aI h4;clear f2 b9 d3 d5 d4 d6
 by_cases O:0≤i∧i<(np:Int)
 ·have b5:(decide (0≤i)&&decide (i<np))=true:=by simp[O.1,O.2]
  rw[b5]at S;obtain⟨k,b0⟩:∃k:Nat,i=(k:Int):=⟨i.toNat,by omega⟩;subst b0;have c0:k<st.parts.length:=by rw[←d9.out];omega
  obtain⟨nq,e0⟩:∃nq,nq=(st.part k).procs.length:=⟨_,rfl⟩;have a6:Hid (∀W,Calls Tryz.prog 73 #[.agg #[.slice (some ⟨a.pb,0,none⟩) np np],.int .i64 k] W fun e w'=>e=.returned (.pointer (some ⟨a.pb,k*14,none⟩))∧Below W.heap.size W w'):=fun W=>rZ a.pb np k W (by omega)
  have a0:Hid (∀W,Calls Tryz.prog 76 #[.agg #[.slice (some ⟨a.pr k,0,none⟩) nq nq],.int .i64 n] W fun e w'=>e=.returned (.bool (decide (0≤n)&&decide (n<nq)))∧Below W.heap.size W w'):=fun W=>Gc (a.pr k) nq n W
  have a1:Hid (∀W,Mo W a g st F→W.cell? ⟨a.pb,k*14+11,none⟩=some (.slice (some ⟨a.pr k,0,none⟩) nq nq)∧W.cell? ⟨a.pb,k*14+9,none⟩=some (.int .i64 (st.part k).mode)):=fun W E=>by
   have e1:=E.mach.partAt k 11 c0 (by omega);have f4:=E.mach.partAt k 9 c0 (by omega);simp only[fK,List.getElem?_cons_succ,List.getElem?_cons_zero]at e1 f4;rw[←e0]at e1;exact⟨e1,f4⟩
  have f5:=aI e0;have h5:=aI c0;have k0:=aI h;clear b5 c0 e0;have c1:Hid (qG (k:Int) n c st↔(c<0∨4<c∨n<0∨(nq:Int)≤n)):=by
   show _↔_
   unfold qG;rw[←d9.out,Int.toNat_natCast,←f5.out];omega
  by_cases T:0≤n∧n<(nq:Int)
  ·have U:(decide (0≤n)&&decide (n<(nq:Int)))=true:=by simp[T.1,T.2]
   rw[U]at a0
   by_cases h6:c<0
   ·have P:Hid (I=(1,(st,F))):=by
     show _=_
     exact b8.out (c1.out.2 (.inl h6))
    clear O T U h
    go_enter_defers Tryz.func42,Tryz.ntmps42
    go_wp2_with fail
    rw[←a5.out];refine(S.out o).mono ?_;rintro e p ⟨rfl,d⟩;have Q:=aI (C.out p d).1;have c2:=Y.out p Q.out;go_wp2_with fail
    refine(a6.out p).mono ?_;rintro e l ⟨rfl,G⟩;have m:Below o.heap.size o l:=d.trans (G.mono d.size);have R:=aI (C.out l m).1;have c3:=(a1.out l R.out).1;go_wp2_with fail
    refine(a0.out l).mono ?_;rintro e y ⟨rfl,H⟩;obtain⟨q,j,A⟩:=C.out y (m.trans (H.mono m.size));have v:=aI (b2.out y 1 q j A);have a7:=j.cell;have a8:=j.frozen;clear d G m H q j A;go_wp2
    refine⟨_,by simp[results,Tryz.results42,go_sem,v.out.2.1];rfl,?_⟩;rw[P.out];exact⟨rfl,v.out.1,v.out.2.2⟩
   ·by_cases h7:5≤c
    ·have P:Hid (I=(1,(st,F))):=by
      show _=_
      exact b8.out (c1.out.2 (.inr (.inl (by omega))))
     clear O T U h
     go_enter_defers Tryz.func42,Tryz.ntmps42
     go_wp2_with fail
     rw[←a5.out];refine(S.out o).mono ?_;rintro e p ⟨rfl,d⟩;have Q:=aI (C.out p d).1;have c2:=Y.out p Q.out;go_wp2_with fail
     refine(a6.out p).mono ?_;rintro e l ⟨rfl,G⟩;have m:Below o.heap.size o l:=d.trans (G.mono d.size);have R:=aI (C.out l m).1;have c3:=(a1.out l R.out).1;go_wp2_with fail
     refine(a0.out l).mono ?_;rintro e y ⟨rfl,H⟩;obtain⟨q,j,A⟩:=C.out y (m.trans (H.mono m.size));have v:=aI (b2.out y 1 q j A);have a7:=j.cell;have a8:=j.frozen;clear d G m H q j A;go_wp2
     refine⟨_,by simp[results,Tryz.results42,go_sem,v.out.2.1];rfl,?_⟩;rw[P.out];exact⟨rfl,v.out.1,v.out.2.2⟩
    ·have e2:Hid (¬qG (k:Int) n c st):=fun D=>by have:=c1.out.1 D;omega
     have k1:¬c≥5:=h7;cases M:st.dead with
     | true=>
      have P:Hid (I=(6,(st,F))):=h0.out e2.out M;have c4:=aI M;clear O T U h M
      go_enter_defers Tryz.func42,Tryz.ntmps42
      go_wp2_with fail
      rw[←a5.out];refine(S.out o).mono ?_;rintro e p ⟨rfl,d⟩;have Q:=aI (C.out p d).1;have c2:=Y.out p Q.out;go_wp2_with fail
      refine(a6.out p).mono ?_;rintro e l ⟨rfl,G⟩;have m:Below o.heap.size o l:=d.trans (G.mono d.size);have R:=aI (C.out l m).1;have c3:=(a1.out l R.out).1;go_wp2_with fail
      refine(a0.out l).mono ?_;rintro e y ⟨rfl,H⟩;obtain⟨q,j,A⟩:=C.out y (m.trans (H.mono m.size));have e3:=(d7.out y st F q).1;rw[c4.out]at e3;have v:=aI (b2.out y 6 q j A);have a7:=j.cell;have a8:=j.frozen;clear d G m H q j A;go_wp2
      refine⟨_,by simp[results,Tryz.results42,go_sem,v.out.2.1];rfl,?_⟩;rw[P.out];exact⟨rfl,v.out.1,v.out.2.2⟩
     | false=>
      have c4:=aI M;obtain⟨u,b1⟩:∃u:Nat,n=(u:Int):=⟨n.toNat,by omega⟩;obtain⟨B,L⟩:∃B:Nat,c=(B:Int):=⟨c.toNat,by omega⟩;subst b1 L;have h8:Hid (∀W,Calls Tryz.prog 79 #[.agg #[.slice (some ⟨a.pr k,0,none⟩) nq nq],.int .i64 u] W fun e w'=>e=.returned (.pointer (some ⟨a.pr k,u*6,none⟩))∧Below W.heap.size W w'):=fun W=>sD (a.pr k) nq u W (by omega)
      have h9:Hid (∀W,Mo W a g st F→Calls Tryz.prog 78 #[.pointer (some ⟨a.mb,0,none⟩),.pointer (some ⟨a.pb,k*14,none⟩),.pointer (some ⟨a.pr k,u*6,none⟩),.int .i64 B] W fun e w'=>e=.returned (.bool (cK k u B (st,F)).1)∧Mo w' a g (cK k u B (st,F)).2.1 (cK k u B (st,F)).2.2∧aH (Dm a g st) W w'):=fun W E=>qZ a g st F k u B _ W E h5.out (by rw[←f5.out];omega) (by omega) (.inl rfl)
      have i0:Hid (∀W,Mo W a g st F→Calls Tryz.prog 77 #[.pointer (some ⟨a.pb,k*14,none⟩)] W fun e w'=>e=.returned (.bool ((st.part k).mode != 3))∧w'=W):=fun W E=>qM a.pb (k*14) _ W (a1.out W E).2
      have e4:Hid (∀ (W:World) (N:aQ) (Z:Fl) (x z:Int) (c5:Bool),Mo W a g N Z→Boxed W w.heap.size 24 (.int .i64 x)→aH (Dm a g st) w W→(z == 6)=c5→
       (W.setCell ⟨w.heap.size,0,none⟩ (.int .i64 z)).cell? ⟨w.heap.size,0,none⟩=some (.int .i64 z)∧(W.setCell ⟨w.heap.size,0,none⟩ (.int .i64 z)).cell? ⟨a.mb,7,none⟩=some (.bool N.dead)∧(W.setCell ⟨w.heap.size,0,none⟩ (.int .i64 z)).frozen? ⟨a.mb,7,none⟩=false∧
       Mo ((W.setCell ⟨w.heap.size,0,none⟩ (.int .i64 z)).setCell ⟨a.mb,7,none⟩ (.bool (z == 6))) a g { N with dead:=c5 } Z∧aH (Dm a g st) w ((W.setCell ⟨w.heap.size,0,none⟩ (.int .i64 z)).setCell ⟨a.mb,7,none⟩ (.bool (z == 6)))∧((W.setCell ⟨w.heap.size,0,none⟩ (.int .i64 z)).setCell ⟨a.mb,7,none⟩ (.bool (z == 6))).cell? ⟨w.heap.size,0,none⟩=some (.int .i64 z)):=fun W N Z x z c5 E b3 d8 i1=>by
       have b4:aH (·=w.heap.size) W (W.setCell ⟨w.heap.size,0,none⟩ (.int .i64 z)):=aH.ofSet W _ _ _ rfl;have f6:=E.box b3 (by decide) b4;have i2:aH (Dm a g st) w (W.setCell ⟨w.heap.size,0,none⟩ (.int .i64 z)):=d8.trans b4 (fun i e=>.inr (by have f3:i=w.heap.size:=e;omega));have e5:Boxed (W.setCell ⟨w.heap.size,0,none⟩ (.int .i64 z)) w.heap.size 24 (.int .i64 z):=b3.set _;obtain⟨i3,i4⟩:=d7.out _ N Z f6;have i5:aH (·=a.mb) (W.setCell ⟨w.heap.size,0,none⟩ (.int .i64 z)) ((W.setCell ⟨w.heap.size,0,none⟩ (.int .i64 z)).setCell ⟨a.mb,7,none⟩ (.bool (z == 6))):=aH.ofSet _ _ _ _ rfl;have i6:Boxed ((W.setCell ⟨w.heap.size,0,none⟩ (.int .i64 z)).setCell ⟨a.mb,7,none⟩ (.bool (z == 6))) w.heap.size 24 (.int .i64 z):=(i5.block _ e5.lt (by intro e;have f3:w.heap.size=a.mb:=e;omega)).trans e5;exact⟨e5.cell,i3,i4,f6.lost c5 (by rw[i1]),i2.thenSet _ _ (.inl rfl),i6.cell⟩
      have i7:Hid (∀b,Dm a g st b→b<w.heap.size):=fun b D=>h.lt b D
      have i8:Hid ((st.part k).mode=3→I=(0,(st,F))):=fun J=>h1.out e2.out M k (by simp) J
      have i9:Hid ((st.part k).mode≠3→I=(if(cK k u B (st,F)).1=true then 0 else 6,iR (cK k u B (st,F)))):=fun J=>h2.out e2.out M k u B (by simp) (by simp) (by simp) J
      clear O T U h M
      go_enter_defers Tryz.func42,Tryz.ntmps42
      go_wp2_with fail
      rw[←a5.out];refine(S.out o).mono ?_;rintro e p ⟨rfl,d⟩;have Q:=aI (C.out p d).1;have c2:=Y.out p Q.out;go_wp2_with fail
      refine(a6.out p).mono ?_;rintro e l ⟨rfl,G⟩;have m:Below o.heap.size o l:=d.trans (G.mono d.size);have R:=aI (C.out l m).1;have c3:=(a1.out l R.out).1;go_wp2_with fail
      refine(a0.out l).mono ?_;rintro e y ⟨rfl,H⟩;obtain⟨q,j,A⟩:=C.out y (m.trans (H.mono m.size));have e3:=(d7.out y st F q).1;rw[c4.out]at e3;have k2:=Y.out y q;have f7:=aI j;have j0:=aI A;have j1:=aI q;clear d G m H q j A;go_wp2_with fail
      refine(a6.out y).mono ?_;rintro e c6 ⟨rfl,c7⟩;have f8:Mo c6 a g st F:=j1.out.mono c7;have f9:Boxed c6 w.heap.size 24 (.int .i64 0):=(c7.block _ f7.out.lt).trans f7.out;have g0:aH (Dm a g st) w c6:=j0.out.andThen (aH.ofBelow c7);have c8:=aI f8;have b6:=aI f9;have g1:=aI g0;clear f8 f9 g0 c7;go_wp2_with fail
      refine(i0.out c6 c8.out).mono ?_;rintro e e6 ⟨rfl,rfl⟩
      by_cases J:(st.part k).mode=3
      ·have j2:((st.part k).mode != 3)=false:=by simp[J]
       have j3:=aI (i8.out J);have s:=aI (e4.out e6 st F 0 0 false c8.out b6.out g1.out rfl);have a7:=b6.out.cell;have a8:=b6.out.frozen;clear J;go_wp2
       refine leaves_cons (f:=70) (args:=#[.pointer (some ⟨a.mb,0,none⟩),.pointer (some ⟨w.heap.size,0,none⟩)]) (by simp) (by simp[go_sem]) ?_;refine(jL a.mb 0 w.heap.size 0 st.dead .returning _ s.out.1 s.out.2.1 s.out.2.2.1 rfl).mono ?_;rintro e g2 V ⟨rfl,rfl,e7⟩;have j4:V.cell? ⟨w.heap.size,0,none⟩=some (.int .i64 0):=by rw[e7];exact s.out.2.2.2.2.2
       have X:Hid (Mo V a g st F∧aH (Dm a g st) w V):=by
        rw[e7];refine⟨?_,s.out.2.2.2.2.1⟩;have:=s.out.2.2.2.1;rw[←c4.out]at this;exact this
       clear e7;refine⟨_,by simp[results,Tryz.results42,go_sem,j4];rfl,?_⟩;rw[j3.out];exact⟨rfl,X.out.1,X.out.2⟩
      ·have j2:((st.part k).mode != 3)=true:=by simp[J]
       have e8:=aI (i9.out J);have k3:=(a1.out e6 c8.out).1;clear J;go_wp2_with fail
       refine(h8.out e6).mono ?_;rintro e V ⟨rfl,c9⟩;have j5:Hid (Mo V a g st F):=c8.out.mono c9;have g3:Hid (Boxed V w.heap.size 24 (.int .i64 0)):=(c9.block _ b6.out.lt).trans b6.out;have j6:Hid (aH (Dm a g st) w V):=g1.out.andThen (aH.ofBelow c9);have g4:=aI (h9.out V j5.out);clear c9;obtain⟨r,g5⟩:∃r,r=cK k u B (st,F):=⟨_,rfl⟩;rw[←g5]at g4 e8;clear g5;obtain⟨b,a9,d0⟩:=r;simp only at *;go_wp2_with fail
       refine g4.out.mono ?_;rintro e d1 ⟨rfl,g6,e9⟩;have g7:Hid (aH (Dm a g st) w d1):=j6.out.andThen e9;have d2:Boxed d1 w.heap.size 24 (.int .i64 0):=(e9.block _ g3.out.lt (fun L=>by have:=i7.out _ L;omega)).trans g3.out;have a7:=d2.cell;have a8:=d2.frozen;have g8:=aI g6;have g9:=aI d2;clear g6 e9 d2;cases b with
       | true=>
        have s:=aI (e4.out d1 a9 d0 0 0 false g8.out g9.out g7.out rfl);go_wp2
        refine leaves_cons (f:=70) (args:=#[.pointer (some ⟨a.mb,0,none⟩),.pointer (some ⟨w.heap.size,0,none⟩)]) (by simp) (by simp[go_sem]) ?_;refine(jL a.mb 0 w.heap.size 0 a9.dead .returning _ s.out.1 s.out.2.1 s.out.2.2.1 rfl).mono ?_;rintro e g2 a2 ⟨rfl,rfl,a3⟩;have f0:a2.cell? ⟨w.heap.size,0,none⟩=some (.int .i64 0):=by rw[a3];exact s.out.2.2.2.2.2
        have X:Hid (Mo a2 a g { a9 with dead:=false } d0∧aH (Dm a g st) w a2):=by rw[a3];exact⟨s.out.2.2.2.1,s.out.2.2.2.2.1⟩
        clear a3;refine⟨_,by simp[results,Tryz.results42,go_sem,f0];rfl,?_⟩;rw[e8.out];exact⟨rfl,X.out.1,X.out.2⟩
       | false=>
        have s:=aI (e4.out d1 a9 d0 0 6 true g8.out g9.out g7.out rfl);go_wp2
        refine leaves_cons (f:=70) (args:=#[.pointer (some ⟨a.mb,0,none⟩),.pointer (some ⟨w.heap.size,0,none⟩)]) (by simp) (by simp[go_sem]) ?_;refine(jL a.mb 0 w.heap.size 6 a9.dead .returning _ s.out.1 s.out.2.1 s.out.2.2.1 rfl).mono ?_;rintro e g2 a2 ⟨rfl,rfl,a3⟩;have f0:a2.cell? ⟨w.heap.size,0,none⟩=some (.int .i64 6):=by rw[a3];exact s.out.2.2.2.2.2
        have X:Hid (Mo a2 a g { a9 with dead:=true } d0∧aH (Dm a g st) w a2):=by rw[a3];exact⟨s.out.2.2.2.1,s.out.2.2.2.2.1⟩
        clear a3;refine⟨_,by simp[results,Tryz.results42,go_sem,f0];rfl,?_⟩;rw[e8.out];exact⟨rfl,X.out.1,X.out.2⟩
  ·have U:(decide (0≤n)&&decide (n<(nq:Int)))=false:=by
    by_cases b7:0≤n
    ·have:¬n<(nq:Int):=fun f1=>T ⟨b7,f1⟩
     simp[this]
    ·simp[b7]
   rw[U]at a0;have P:Hid (I=(1,(st,F))):=by
    show _=_
    exact b8.out (c1.out.2 (by omega))
   clear O T U h
   go_enter_defers Tryz.func42,Tryz.ntmps42
   go_wp2_with fail
   rw[←a5.out];refine(S.out o).mono ?_;rintro e p ⟨rfl,d⟩;have Q:=aI (C.out p d).1;have c2:=Y.out p Q.out;go_wp2_with fail
   refine(a6.out p).mono ?_;rintro e l ⟨rfl,G⟩;have m:Below o.heap.size o l:=d.trans (G.mono d.size);have R:=aI (C.out l m).1;have c3:=(a1.out l R.out).1;go_wp2_with fail
   refine(a0.out l).mono ?_;rintro e y ⟨rfl,H⟩;obtain⟨q,j,A⟩:=C.out y (m.trans (H.mono m.size));have v:=aI (b2.out y 1 q j A);have a7:=j.cell;have a8:=j.frozen;clear d G m H q j A;go_wp2
   refine⟨_,by simp[results,Tryz.results42,go_sem,v.out.2.1];rfl,?_⟩;rw[P.out];exact⟨rfl,v.out.1,v.out.2.2⟩
 ·have b5:(decide (0≤i)&&decide (i<np))=false:=by
   by_cases b7:0≤i
   ·have:¬i<(np:Int):=fun f1=>O ⟨b7,f1⟩
    simp[this]
   ·simp[b7]
  rw[b5]at S;have P:Hid (I=(1,(st,F))):=by
   show _=_
   refine b8.out ?_;unfold qG;rw[←d9.out];omega
  clear O b5 h
  go_enter_defers Tryz.func42,Tryz.ntmps42
  go_wp2_with fail
  rw[←a5.out];refine(S.out o).mono ?_;rintro e p ⟨rfl,d⟩;obtain⟨q,j,A⟩:=C.out p d;have v:=aI (b2.out p 1 q j A);have a7:=j.cell;have a8:=j.frozen;clear d q j A;go_wp2
  refine⟨_,by simp[results,Tryz.results42,go_sem,v.out.2.1];rfl,?_⟩;rw[P.out];exact⟨rfl,v.out.1,v.out.2.2⟩
end
end Go.Proofs.YtnjlbgolnbdkaaaGreat
