/- All, with short names -/
import Derived.Test.YtnjlbgolnbdkaaaGreatP27
import Derived.Test.YtnjlbgolnbdkaaaGreatP26
import Derived.BigQuiet
set_option maxRecDepth 100000
set_option maxHeartbeats 16000000
namespace Go.Proofs.YtnjlbgolnbdkaaaGreat
open Go Go.RowKit
def Hc(s:SF)(a:Nat):Bool:=kR s.1.now s.1.cf.frame (s.1.cf.wins.getD a default)
def sG(a:Nat)(s:SF):Bool×SF:=if Hc s a=true then pP (s.1.cf.wins.getD a default).part.toNat s else(true,s)
def rH(s:SF)(a:Nat):Bool×SF:=loopB sG a s
theorem Ma(i:Nat)(s:SF)(h:cS s)(a:i<s.1.parts.length):cS (pP i s).2:=by
 rw[←zB i s h a];exact Ai s.2 i s.1 h a
theorem xI(i:Nat)(s:SF)(h:cS s)(a:i<s.1.parts.length):Lk s.1 (pP i s).2.1:=by
 rw[←zB i s h a];exact nD i s
theorem yZ(s:SF)(h:cS s)(a:Nat)(b:a<s.1.cf.wins.length):(s.1.cf.wins.getD a default).part.toNat<s.1.parts.length∧0≤(s.1.cf.wins.getD a default).part:=by
 have:=h.2.good.wins _ (dB b);rw[h.2.len];omega
theorem Qg(s:SF)(h:cS s)(a:Nat)(b:a<s.1.cf.wins.length):cS (sG a s).2∧Lk s.1 (sG a s).2.1:=by
 unfold sG;split
 ·exact⟨Ma _ s h (yZ s h a b).1,xI _ s h (yZ s h a b).1⟩
 ·exact⟨h,Lk.refl _⟩
theorem Qa(s:SF)(h:cS s)(a:Nat)(d:a≤s.1.cf.wins.length):cS (rH s a).2∧Lk s.1 (rH s a).2.1:=by
 induction a with
 | zero=>exact⟨h,Lk.refl _⟩
 | succ a ih=>
  have b:=ih (by omega)
  by_cases c:(rH s a).1=true
  ·have e:rH s (a+1)=sG a (rH s a).2:=iZ _ _ _ c;rw[e];have:=Qg (rH s a).2 b.1 a (by rw[b.2.cf];omega);exact⟨this.1,b.2.trans this.2⟩
  ·have e:rH s (a+1)=rH s a:=jU _ _ (by cases h2:(rH s a).1 with| false=>exact h2| true=>exact absurd h2 c);rw[e];exact b
theorem Po(s t:SF)(h:Lk s.1 t.1)(a:Nat):Hc t a=Hc s a:=by
 unfold Hc;rw[h.cf,h.now]
theorem Kq(s:SF)(h:cS s)(c k:Nat)(j:c<s.1.cf.wins.length)(l:k<s.1.cf.wins.length)(d:Hc s c=true)(f:Hc s k=true):c=k:=by
 have g:∀a b,a<b→b<s.1.cf.wins.length→Hc s a=true→Hc s b=true→False:=fun a b m i n o=>by
  have p:=List.pairwise_iff_getElem.1 h.2.good.order a b (by omega) i m;have q:s.1.cf.wins[a]'(by omega)=s.1.cf.wins.getD a default:=by simp[List.getD_eq_getElem?_getD,show a<s.1.cf.wins.length by omega]
  have r:s.1.cf.wins[b]'i=s.1.cf.wins.getD b default:=by simp[List.getD_eq_getElem?_getD,i]
  rw[q,r]at p;have u:=of_decide_eq_true (show decide ((s.1.cf.wins.getD a default).first≤s.1.now % s.1.cf.frame∧s.1.now % s.1.cf.frame<(s.1.cf.wins.getD a default).first+(s.1.cf.wins.getD a default).many)=true from n);have v:=of_decide_eq_true (show decide ((s.1.cf.wins.getD b default).first≤s.1.now % s.1.cf.frame∧s.1.now % s.1.cf.frame<(s.1.cf.wins.getD b default).first+(s.1.cf.wins.getD b default).many)=true from o);omega
 rcases Nat.lt_trichotomy c k with e| e| e
 ·exact(g c k e l d f).elim
 ·exact e
 ·exact(g k c e j f d).elim
theorem uQ(s:SF)(a:Nat)(h:∀k,k<a→Hc s k=false):rH s a=(true,s):=by
 induction a with
 | zero=>rfl
 | succ a ih=>
  show eL (rH s a) (sG a)=_
  rw[ih (fun k b=>h k (by omega))];show sG a s=_
  unfold sG;rw[h a (by omega)];simp
theorem Ja(s:SF)(h:cS s)(f:Nat)(c:f<s.1.cf.wins.length)(d:Hc s f=true):∀a,f<a→a≤s.1.cf.wins.length→rH s a=pP (s.1.cf.wins.getD f default).part.toNat s:=by
 intro a
 induction a with
 | zero=>intro h _;omega
 | succ a ih=>
  intro j l
  by_cases e:a=f
  ·subst e;show eL (rH s a) (sG a)=_
   rw[uQ s a (fun k m=>by
    cases b:Hc s k with
    | false=>rfl
    | true=>
     have:=Kq s h k a (by omega) c b d;omega)]
   show sG a s=_
   unfold sG;rw[d];simp
  ·have g:=ih (by omega) (by omega);show eL (rH s a) (sG a)=_
   rw[g]
   by_cases b:(pP (s.1.cf.wins.getD f default).part.toNat s).1=true
   ·rw[oD _ _ b];have i:=xI _ s h (yZ s h f c).1;unfold sG;rw[Po s _ i a];have:Hc s a=false:=by
     cases hb2:Hc s a with
     | false=>rfl
     | true=>
      have:=Kq s h a f (by omega) c hb2 d;omega
    rw[this];simp only[Bool.false_eq_true,if_false];rw[←b]
   ·exact jU _ _ (by simpa using b)
theorem Qt(s:SF)(h:cS s):rH s s.1.cf.wins.length=Ie s:=by
 unfold Ie;cases hf:s.1.cf.wins.find? (kR s.1.now s.1.cf.frame)with
 | none=>
  rw[List.find?_eq_none]at hf;exact uQ s _ (fun k c=>by
   have:=hf _ (dB c);unfold Hc
   simpa using this)
 | some x=>
  have d:=List.find?_some hf;obtain⟨f,a,g⟩:=List.getElem_of_mem (List.mem_of_find?_eq_some hf);have b:s.1.cf.wins.getD f default=x:=by simp[List.getD_eq_getElem?_getD,a,g]
  have:=Ja s h f a (by unfold Hc;rw[b];exact d) s.1.cf.wins.length a (Nat.le_refl _);rw[b]at this;exact this
theorem La(st:aQ)(i:Nat):∀k b,iD st i k=some b→b<k∧dO st i b=true:=by
 intro k
 induction k with
 | zero=>intro b h;cases h
 | succ k ih=>
  intro b h;have e:iD st i (k+1)=if(dO st i k&&(match iD st i k with| none=>true| some b=>decide (fD (st.cpart i) b<fD (st.cpart i) k)))=true then some k else iD st i k:=rfl
  rw[e]at h
  by_cases a:(dO st i k&&(match iD st i k with| none=>true| some b=>decide (fD (st.cpart i) b<fD (st.cpart i) k)))=true
  ·rw[if_pos a]at h;have c:k=b:=Option.some.inj h;subst c;rw[Bool.and_eq_true]at a;exact⟨by omega,a.1⟩
  ·rw[if_neg a]at h;have:=ih b h;exact⟨by omega,this.2⟩
def Im:Option Nat→Int
 | none=>-1
 | some b=>b
section
open Go.RowKit Go.Shelf
attribute [local go_sem] Oper.semAt_some
theorem uI(l:eZ)(Q:Nat→Value)(g:Nat)(st:aQ)(F:Fl)(i c:Nat)(d:Bool)(w:World)(h:Ro w l Q g st F):
 Calls Tryz.prog 203 #[.pointer (some ⟨l.kb,0,none⟩),.int .i64 c,.int .i64 i,.bool d] w fun e w'=>e=.returned (.bool (if d=true then fI st i c else cZ st i c))∧Below w.heap.size w w':=by
 have m:=h.ref.kAt 4;simp only[cE,List.getElem?_toArray,List.getElem?_cons_succ,List.getElem?_cons_zero]at m;obtain⟨ad,r,j,k⟩:=h.ref.conf.chans_at;rw[j]at m;have s:=h.ok.good.nchans
 by_cases f:c<st.cf.chans.length
 ·obtain⟨b,rfl,u,v,x⟩:=k c f;have a:Hid (fI st i c=((st.cf.chans.getD c default).src == (i:Int))):=by
   show _=_
   unfold fI;rw[Int.toNat_natCast]
   by_cases e:(st.cf.chans.getD c default).src=(i:Int)
   ·rw[e];simp[f]
   ·rw[beq_eq_false_iff_ne.2 e];exact decide_eq_false (fun h=>e h.2)
  have n:Hid (cZ st i c=((st.cf.chans.getD c default).dst == (i:Int))):=by
   show _=_
   unfold cZ;rw[Int.toNat_natCast]
   by_cases e:(st.cf.chans.getD c default).dst=(i:Int)
   ·rw[e];simp[f]
   ·rw[beq_eq_false_iff_ne.2 e];exact decide_eq_false (fun h=>e h.2)
  rw[a.out,n.out];clear h j k a n;generalize (st.cf.chans.getD c default).src=y at *;generalize (st.cf.chans.getD c default).dst=z at *;generalize (st.cf.chans.getD c default).depth=A at *;generalize st.cf.chans.length=q at *;have p:Hid (∀o,Below w.heap.size w (w.alloc o)):=fun o=>(Below.refl _ _).alloc (Nat.le_refl _) o
  cases d with
  | true=>
   go_enter Tryz.func203,Tryz.ntmps203
   go_wp2
   go_ret
   exact⟨rfl,p.out _⟩
  | false=>
   go_enter Tryz.func203,Tryz.ntmps203
   go_wp2
   go_ret
   exact⟨rfl,p.out _⟩
 ·have a:Hid ((if d=true then fI st i c else cZ st i c)=false):=by
   show _=_
   unfold fI cZ;split<;>simp[f]
  rw[a.out];clear h j k a;generalize st.cf.chans.length=q at *
  go_enter Tryz.func203,Tryz.ntmps203
  go_wp2
  go_ret
  exact⟨rfl,Below.refl _ _⟩
theorem uL(b:eZ)(Q:Nat→Value)(g:Nat)(st:aQ)(F:Fl)(i a:Nat)(w:World)(h:Ro w b Q g st F)(c:i<st.parts.length):
 Calls Tryz.prog 204 #[.pointer (some ⟨b.kb,0,none⟩),.int .i64 i,.int .i64 a] w fun e w'=>e=.returned (.bool (decide (a<(st.part i).words.length)))∧w'=w:=by
 have d:=h.ref.kAt 6;simp only[cE,List.getElem?_toArray,List.getElem?_cons_succ,List.getElem?_cons_zero]at d;have r1:=h.ref.rAt i 1 c (by omega);simp only[kK,List.getElem?_cons_succ,List.getElem?_cons_zero]at r1;have f:=h.capR;clear h;generalize (st.part i).words.length=nw at *;generalize st.parts.length=np at *
 go_enter Tryz.func204,Tryz.ntmps204
 go_wp2
 go_ret
 exact⟨rfl,rfl⟩
theorem uA(x:Int):IntKind.i64.wrap x=wrap64 x:=by
 rw[IntKind.wrap_i64];unfold wrap64;rfl
theorem Cn(a b:Int)(w:World)(d:b≠0):
 Calls Tryz.prog 215 #[.int .i64 a,.int .i64 b] w fun e w'=>e=.returned (.int .i64 (kX a b))∧w'=w:=by
 by_cases c:b=-1
 ·subst c;have f:Hid (kX a (-1)=IntKind.i64.wrap (-a)):=by
   show _=_
   unfold kX
   congr 1
   simp
  rw[f.out,uA]
  go_enter Tryz.func215,Tryz.ntmps215
  go_wp2
  go_ret
  exact⟨rfl,rfl⟩
 ·have g:(b == -1)=false:=by simp[c]
  have h:(b == 0)=false:=by simp[d]
  unfold kX;rw[uA]
  go_enter Tryz.func215,Tryz.ntmps215
  go_wp2
  go_ret
  exact⟨rfl,rfl⟩
theorem sL(d:eZ)(Q:Nat→Value)(g:Nat)(st:aQ)(F:Fl)(i n:Nat)(op:Int)(a:Nat)(w:World)(h:Ro w d Q g st F)(f:i<st.parts.length)(o:n<(st.part i).procs.length)(y:op=2∨op=3∨op=12)(p:a<(st.part i).words.length):
 Calls Tryz.prog 205 #[.pointer (some ⟨d.kb,0,none⟩),.int .i64 i,.int .i64 op,.pointer (some ⟨d.pr i,n*5,none⟩),.pointer (some ⟨d.wd i,a,none⟩)] w fun e w'=>e=.returned (.int .i64 (fH i n op a st).1)∧Ro w' d Q g (fH i n op a st).2 F∧aH (Rm d Q g st) w w':=by
 have p1:=h.ref.pAt i n 1 f o (by omega);simp only[bM,List.getElem?_cons_succ,List.getElem?_cons_zero]at p1;have C:=h.ref.wAt i a f p;have D:=dJ (h.ref.procs i f) (n*5+1);have E:=dJ (h.ref.words i f) a;have r:Hid (∀v,_):=fun v=>h.wset i a v f
 have l:Hid (∀v,_):=fun v=>h.pset i n 1 (.int .i64 v) { st.proc i n with acc:=v } f o (by omega) rfl
 have z:=aI h;obtain⟨s,b⟩:∃s,s=fH i n op a st:=⟨_,rfl⟩;rw[←b];unfold fH at b;rw[if_pos p]at b;clear h;generalize A:(st.proc i n).acc=m at *;generalize (st.part i).words.getD a 0=j at *;clear A;rcases y with rfl| rfl| rfl
 ·rw[if_pos rfl]at b;have c:=aI b;clear b
  go_enter Tryz.func205,Tryz.ntmps205
  go_wp2
  go_ret
  rw[c.out];exact⟨rfl,(r.out m).1,(r.out m).2⟩
 ·rw[if_neg (by decide),if_pos rfl]at b;have c:=aI b;clear b
  go_enter Tryz.func205,Tryz.ntmps205
  go_wp2
  go_ret
  rw[c.out];exact⟨rfl,(l.out j).1,(l.out j).2⟩
 ·rw[if_neg (by decide),if_neg (by decide)]at b
  by_cases k:j=0
  ·subst k;rw[if_pos rfl]at b;have c:=aI b;clear b
   go_enter Tryz.func205,Tryz.ntmps205
   go_wp2
   go_ret
   rw[c.out];exact⟨rfl,z.out,aH.refl _ _⟩
  ·rw[if_neg k]at b;have G:(j == 0)=false:=by simp[k]
   have c:=aI b;have u:=aI (fun W=>Cn m j W k);obtain⟨q,x⟩:∃q,q=kX m j:=⟨_,rfl⟩;rw[←x]at c u;clear b x k
   go_enter Tryz.func205,Tryz.ntmps205
   go_wp2_with fail
   go_region_with (go_at_call 215;refine(u.out _).mono ?_;rintro e H ⟨rfl,B⟩;obtain rfl:=B.symm)
   all_goals (
    go_wp2
    go_ret
    rw[c.out];exact⟨rfl,((l.out q).1).keep (fun _ _=>rfl),(l.out q).2.andThen ⟨rfl,rfl,rfl,Nat.le_refl _,fun _ _ _=>rfl⟩⟩)
theorem Ec(d:eZ)(Q:Nat→Value)(g:Nat)(st:aQ)(F:Fl)(i n a:Nat)(w:World)(h:Ro w d Q g st F)(f:i<st.parts.length)(x:n<(st.part i).procs.length):
 Calls Tryz.prog 206 #[.pointer (some ⟨d.kb,0,none⟩),.int .i64 i,.int .i64 a,.pointer (some ⟨d.pr i,n*5,none⟩)] w fun e w'=>e=.returned (.int .i64 (if(st.cpart i).sys=true then -1 else 4))∧Ro w' d Q g (if(st.cpart i).sys=true then st.setProc i n { st.proc i n with acc:=dU (bT F.bs) a }else st) F∧aH (Rm d Q g st) w w':=by
 have a5:i<st.cf.parts.length:=by rw[←h.ok.len];exact f
 have P:=h.ref.kAt 2;have R:=h.ref.kAt 5;simp only[cE,List.getElem?_toArray,List.getElem?_cons_succ,List.getElem?_cons_zero]at P R;have C:=h.ref.conf.cAt i 0 a5 (by omega);simp only[vD,List.getElem?_cons_zero,Nat.add_zero]at C;have c7:=h.capR;have c8:=h.ok.len
 by_cases o:(st.cpart i).sys=true
 ·rw[if_pos o,if_pos o];have y:(st.cf.parts.getD i default).sys=true:=o;rw[y]at C;have T:=aI (tL g F.bs F.left F.res F.dead F.done w h.fl);have c9:=wL F.bs;have a6:=aI (fun k=>At (bT F.bs) a k);obtain⟨S,m⟩:∃S:Nat→aQ,S=fun k=>st.setProc i n { st.proc i n with acc:=dU ((bT F.bs).take k) a }:=⟨_,rfl⟩
  have z:∀k,(S k).parts.length=st.parts.length:=fun k=>by rw[m];exact aQ.setPart_len _ _ _
  have U:∀k,(S k).cf=st.cf:=fun k=>by rw[m];rfl
  have H:∀k,((S k).part i).procs.length=(st.part i).procs.length:=fun k=>by rw[m];unfold aQ.setProc;rw[aQ.part_set f];simp
  have I:∀k,(S k).proc i n={ st.proc i n with acc:=dU ((bT F.bs).take k) a }:=fun k=>by
   rw[m];unfold aQ.setProc;show(aQ.part _ i).procs.getD n default=_
   rw[aQ.part_set f];simp[List.getD_eq_getElem?_getD,x]
  have a7:Hid (∀b,Rm d Q g st b→b<w.heap.size):=fun b J=>h.lt b J
  have V:Hid (∀W,Below w.heap.size w W→Ro (W.setCell ⟨d.pr i,n*5+1,none⟩ (.int .i64 0)) d Q g (S 0) F∧aH (Rm d Q g st) W (W.setCell ⟨d.pr i,n*5+1,none⟩ (.int .i64 0))):=fun W j=>by
   have:=(h.mono j).pset i n 1 (.int .i64 0) { st.proc i n with acc:=0 } f x (by omega) rfl;have e:S 0=st.setProc i n { st.proc i n with acc:=0 }:=by rw[m];rfl
   rw[e];exact⟨this.1,this.2⟩
  have a8:Hid (∀k W,Ro W d Q g (S k) F→W.cell? ⟨d.pr i,n*5+1,none⟩=some (.int .i64 (dU ((bT F.bs).take k) a))∧W.frozen? ⟨d.pr i,n*5+1,none⟩=false):=fun k W j=>by
   have p1:=j.ref.pAt i n 1 (by rw[z];exact f) (by rw[H];exact x) (by omega);rw[I]at p1;simp only[bM,List.getElem?_cons_succ,List.getElem?_cons_zero]at p1;exact⟨p1,dJ (j.ref.procs i (by rw[z];exact f)) _⟩
  have a9:Hid (∀L k r W,(bT F.bs)[k]?=some r→Ro W d Q g (S k) F→aH (Rm d Q g st) L W→(r 1≠(a:Int)→Ro W d Q g (S (k+1)) F)∧(r 1=(a:Int)→Ro (W.setCell ⟨d.pr i,n*5+1,none⟩ (.int .i64 (dU ((bT F.bs).take k) a+1))) d Q g (S (k+1)) F∧aH (Rm d Q g st) L (W.setCell ⟨d.pr i,n*5+1,none⟩ (.int .i64 (dU ((bT F.bs).take k) a+1))))):=fun L k r W s j b0=>by
   have X:=sK (bT F.bs) a k r s;refine⟨fun b1=>?_,fun b2=>?_⟩
   ·have e:S (k+1)=S k:=by rw[m];simp only;rw[X,if_neg b1]
    rw[e];exact j
   ·have:=j.pset i n 1 (.int .i64 (dU ((bT F.bs).take k) a+1)) { (S k).proc i n with acc:=dU ((bT F.bs).take k) a+1 } (by rw[z];exact f) (by rw[H];exact x) (by omega) rfl;have e:S (k+1)=(S k).setProc i n { (S k).proc i n with acc:=dU ((bT F.bs).take k) a+1 }:=by
     rw[I,m];simp only;rw[X,if_pos b2];unfold aQ.setProc;rw[aQ.part_set f,aQ.setPart_set];simp
    rw[←e]at this;exact⟨this.1,b0.andThen (this.2.to (fun b J=>(Rm.same (z k) (U k)).1 J))⟩
  have b3:Hid (S (bT F.bs).length=st.setProc i n { st.proc i n with acc:=dU (bT F.bs) a }):=by show _=_;rw[m];simp only;rw[List.take_length]
  have d0:=lt_of_block h.ref.kern;have M:=h.ref.pAt i n 1 f x (by omega);simp only[bM,List.getElem?_cons_succ,List.getElem?_cons_zero]at M;have Y:=dJ (h.ref.procs i f) (n*5+1);have Z:=fV (h.ref.procs i f);have a0:Hid (∀W,Below w.heap.size w W→W.frozen? ⟨d.pr i,n*5+1,none⟩=false):=fun W j=>(World.frozen?_of_block (j.block _ Z)).trans Y
  rw[←b3.out];clear h m z U H I o y Y;generalize st.cf.parts.length=b4 at *;generalize (st.proc i n).acc=d1 at *;generalize bT F.bs=l at *
  go_enter Tryz.func206,Tryz.ntmps206
  go_wp2_with fail
  refine T.out.mono ?_;rintro e A ⟨v,rfl,⟨N,_⟩,B⟩;obtain⟨ad,c,rfl,a1⟩:=iE N;have d2:=(B.cell (p:=⟨d.pr i,n*5+1,none⟩) Z).trans M;have z1:=a0.out A B;have b5:=aI (V.out A B);have b6:Hid (∀k r,l[k]?=some r→∃gl,ad=some ⟨gl,0,none⟩∧∀W,aH (Rm d Q g st) A W→W.cell? ⟨gl,k*5+1,none⟩=some (.int .i64 (r 1))):=fun k r s=>by
   obtain⟨D,e,b7,d3,b8,d4,d5,d6⟩:=a1 k r s;have d7:=World.ownsRow.lt N D (by rw[e];rfl);exact⟨D,e,fun W j=>(World.cell?_of_block (j.block D b7 (fun b9=>by have:=a7.out D b9;omega))).trans b8⟩
  have c0:=aI B;generalize a2:l.length=E at *;have a3:=aI a2;clear a1 N B T V a0 a2 P R C M;go_wp2
  go_loopw [10] (fun t wr=>∃k:Nat,k≤E∧t=.int .i64 k∧Hid (Ro wr d Q g (S k) F∧aH (Rm d Q g st) A wr)) (fun t _=>E-(intOf t).toNat)
  case atStart=>exact⟨0,by omega,rfl,b5⟩
  case round=>
   obtain⟨k,d8,rfl,q⟩:=hrel;have d9:=a6.out k
   by_cases c1:k<E
   ·obtain⟨r,s⟩:∃r,l[k]?=some r:=⟨l[k]'(by rw[a3.out];exact c1),List.getElem?_eq_getElem _⟩;obtain⟨gl,c2,a4⟩:=b6.out k r s;subst c2;have e0:=a4 wr q.out.2;obtain⟨e1,e2⟩:=a8.out k wr q.out.1;have G:=aI (a9.out A k r wr s q.out.1 q.out.2);have c3:=aI q.out.2;clear s a4 q;generalize dU (l.take k) a=e3 at *;generalize r 1=r1 at *
    by_cases u:r1=(a:Int)
    ·have c4:(r1 == (a:Int))=true:=by simp[u]
     have O:=aI (G.out.2 u);clear u G;go_wp2
     go_roundw
     case rel=>exact⟨k+1,by omega,by go_num,O⟩
     case measure=>simp[intOf];omega
    ·have c4:(r1 == (a:Int))=false:=by simp[u]
     have O:=aI (And.intro (G.out.1 u) c3.out);clear u G;go_wp2
     go_roundw
     case rel=>exact⟨k+1,by omega,by go_num,O⟩
     case measure=>simp[intOf];omega
   ·obtain rfl:k=E:=by omega
    have c5:Hid (aH (Rm d Q g st) w wr):=(aH.ofBelow c0.out).andThen q.out.2;go_wp2
    go_ret
    exact⟨rfl,by rw[a3.out];exact q.out.1,c5.out⟩
 ·rw[if_neg o,if_neg o];have y:(st.cf.parts.getD i default).sys=false:=by simpa[aQ.cpart]using o
  rw[y]at C;have c6:=aI h;clear h o y;generalize st.cf.parts.length=b4 at *
  go_enter Tryz.func206,Tryz.ntmps206
  go_wp2
  go_ret
  exact⟨rfl,c6.out,aH.refl _ _⟩
end
section
open Go.RowKit Go.Shelf
attribute [local go_sem] Oper.semAt_some
theorem Ro.ins{w:World}{f:eZ}{Q:Nat→Value}{g:Nat}{st:aQ}{F:Fl}(h:Ro w f Q g st F)(i n b:Nat)(k:i<st.parts.length)(p:n<(st.part i).procs.length)(q:(st.proc i n).next=(b:Int))(l:b<(st.codeOf i n).length):
 ∃op a:Nat,dE st i n=((op:Int),(a:Int))∧op≤13∧a≤255∧(op=4→a<(st.codeOf i n).length)∧w.cell? ⟨f.kk i n,b*2,none⟩=some (.int .i64 op)∧w.cell? ⟨f.kk i n,b*2+1,none⟩=some (.int .i64 a):=by
 have m:i<st.cf.parts.length:=by rw[←h.ok.len];exact k
 have o:n<(st.cf.parts.getD i default).procs.length:=by rw[←(h.ok.part i k).2];exact p
 have j:=h.ref.conf.iAt i n b m o l;have d:=((h.ok.good.parts _ (dB m)).procs _ (dB o)).code (((st.cf.parts.getD i default).procs.getD n default).code.getD b (0,0)) (List.mem_of_getElem? (mM _ b (0,0) l));have r:dE st i n=((st.cf.parts.getD i default).procs.getD n default).code.getD b (0,0):=by
  unfold dE;rw[q,Int.toNat_natCast];rfl
 generalize ((st.cf.parts.getD i default).procs.getD n default).code.getD b (0,0)=c at *;obtain⟨c1,c2⟩:=c;simp only at d j;refine⟨c1.toNat,c2.toNat,?_,by omega,by omega,fun s=>?_,?_,?_⟩
 ·rw[r,Int.toNat_of_nonneg d.1.1,Int.toNat_of_nonneg d.2.1.1]
 ·have:=d.2.2 (by omega);unfold aQ.codeOf aQ.cpart;omega
 ·rw[Int.toNat_of_nonneg d.1.1];exact j.1
 ·rw[Int.toNat_of_nonneg d.2.1.1];exact j.2
theorem Hn(b:eZ)(Q:Nat→Value)(g:Nat)(st:aQ)(F:Fl)(i n:Nat)(w:World)(h:Ro w b Q g st F)(I:dY st)(f:i<st.parts.length)(m:n<(st.part i).procs.length):
 Calls Tryz.prog 180 #[.pointer (some ⟨b.kb,0,none⟩),.int .i64 i,.int .i64 n] w fun e w'=>e=.returned (.bool (dO st i n))∧Below w.heap.size w w':=by
 have d8:=h.ref.kAt 6;have b2:=h.ref.kAt 8;simp only[cE,List.getElem?_toArray,List.getElem?_cons_succ,List.getElem?_cons_zero]at d8 b2;have d9:=h.ref.rAt i 0 f (by omega);have r1:=h.ref.rAt i 1 f (by omega);have e0:=h.ref.rAt i 2 f (by omega);have e1:=h.ref.rAt i 3 f (by omega);simp only[kK,List.getElem?_cons_succ,List.getElem?_cons_zero,Nat.add_zero]at d9 r1 e0 e1;have p0:=h.ref.pAt i n 0 f m (by omega);have p1:=h.ref.pAt i n 1 f m (by omega);have p2:=h.ref.pAt i n 2 f m (by omega);have p3:=h.ref.pAt i n 3 f m (by omega);have e2:=h.ref.pAt i n 4 f m (by omega);simp only[bM,List.getElem?_cons_succ,List.getElem?_cons_zero,Nat.add_zero]at p0 p1 p2 p3 e2;have h2:=h.capR;have e3:=lt_of_block h.ref.kern;have h3:=fV h.ref.parts;have h4:=fV (h.ref.procs i f);have J:=I.proc i n f m;obtain⟨s,y⟩:∃s:Nat,(st.proc i n).next=(s:Int):=⟨(st.proc i n).next.toNat,by have:=J.next.1;omega⟩;have h5:=h.ok.procsLen i f;have L:i<st.cf.parts.length:=by rw[←h.ok.len];exact f
 have b3:n<(st.cf.parts.getD i default).procs.length:=by rw[←(h.ok.part i f).2];exact m
 obtain⟨j,z⟩:∃j,j=(w.alloc (.cells #[.int .i64 (st.part i).mode,sl (b.wd i) (st.part i).words.length (b.wc i),sl (b.pr i) (st.part i).procs.length (b.pc i),.int .i64 (st.part i).watch] 198)).alloc (.cells #[.int .i64 (st.proc i n).next,.int .i64 (st.proc i n).acc,.int .i64 (st.proc i n).til,.int .i64 (st.proc i n).dl,.bool (st.proc i n).stopped] 200):=⟨_,rfl⟩;have a3:j.heap.size=w.heap.size+2:=by rw[z];simp
 have B:Below w.heap.size w j:=by rw[z];exact(aG _ _).alloc (by simp) _
 have a4:j.heap[w.heap.size]?=some (.cells #[.int .i64 (st.part i).mode,sl (b.wd i) (st.part i).words.length (b.wc i),sl (b.pr i) (st.part i).procs.length (b.pc i),.int .i64 (st.part i).watch] 198 (0,0)):=by
  rw[z,Below.heap_alloc _ _ _ (by simp)];exact heap_alloc_new w _
 have E:j.heap[w.heap.size+1]?=some (.cells #[.int .i64 (st.proc i n).next,.int .i64 (st.proc i n).acc,.int .i64 (st.proc i n).til,.int .i64 (st.proc i n).dl,.bool (st.proc i n).stopped] 200 (0,0)):=by
  rw[z];have:=heap_alloc_new (w.alloc (.cells #[.int .i64 (st.part i).mode,sl (b.wd i) (st.part i).words.length (b.wc i),sl (b.pr i) (st.part i).procs.length (b.pc i),.int .i64 (st.part i).watch] 198)) (.cells #[.int .i64 (st.proc i n).next,.int .i64 (st.proc i n).acc,.int .i64 (st.proc i n).til,.int .i64 (st.proc i n).dl,.bool (st.proc i n).stopped] 200)
  rwa [show(w.alloc (.cells #[.int .i64 (st.part i).mode,sl (b.wd i) (st.part i).words.length (b.wc i),sl (b.pr i) (st.part i).procs.length (b.pc i),.int .i64 (st.part i).watch] 198)).heap.size=w.heap.size+1 from by simp]at this
 have e4:j.cell? ⟨w.heap.size,0,none⟩=some (.int .i64 (st.part i).mode):=aD a4;have b4:j.cell? ⟨w.heap.size+1,0,none⟩=some (.int .i64 s):=by rw[cell_of_row _ _ _ _ _ _ E,y];rfl
 have e5:j.cell? ⟨w.heap.size+1,2,none⟩=some (.int .i64 (st.proc i n).til):=aD E;have b5:j.cell? ⟨w.heap.size+1,4,none⟩=some (.bool (st.proc i n).stopped):=aD E;have e6:=(B.cell (p:=⟨b.kb,8,none⟩) e3).trans b2;have C:=h.mono B;have b6:=aI C;have M:Hid (∀q,Below w.heap.size w (j.drewN q)):=fun q=>below_drewN B q
 have N:=aI z;have h6:=aI a3;have b7:=aI I;have O:Hid (dO st i n=(decide (¬ ((st.part i).mode=3∨(st.proc i n).stopped=true∨st.now<(st.proc i n).til))&&(decide ((dE st i n).1≠7)||!cZ st i (dE st i n).2||decide (0<(st.queues.getD (dE st i n).2.toNat []).length)))):=rfl;have h7:=aI y
 by_cases o:(st.part i).mode=3∨(st.proc i n).stopped=true∨st.now<(st.proc i n).til
 ·have b8:Hid (dO st i n=false):=by show _=_;rw[O.out];simp[o]
  rw[b8.out];clear z a3 a4 E C b6 B I J h y O b8 b7;generalize (st.part i).mode=md at *;generalize (st.part i).watch=e7 at *;generalize (st.part i).words.length=nw at *;generalize (st.part i).procs.length=np at *;generalize st.parts.length=e8 at *;generalize st.now=now at *;generalize st.proc i n=x at *;obtain⟨e9,f0,b9,f1,c0⟩:=x;simp only at *
  by_cases u:md=3
  ·have c1:(md == 3)=true:=by simp[u]
   clear u o
   go_enter Tryz.func180,Tryz.ntmps180
   go_wp2_with fail
   rw[←N.out]
   go_quiet (fail)
   go_wp2
   go_ret
   exact⟨rfl,M.out _⟩
  ·have c1:(md == 3)=false:=by simp[u]
   cases D:c0 with
   | true=>
    subst D;clear u o
    go_enter Tryz.func180,Tryz.ntmps180
    go_wp2_with fail
    rw[←N.out]
    go_quiet (fail)
    go_wp2
    go_ret
    exact⟨rfl,M.out _⟩
   | false=>
    subst D;have a5:decide (now<b9)=true:=by
     rcases o with h| h| h
     ·exact absurd h u
     ·cases h
     ·simp[h]
    clear u o
    go_enter Tryz.func180,Tryz.ntmps180
    go_wp2_with fail
    rw[←N.out]
    go_quiet (fail)
    go_wp2
    go_ret
    exact⟨rfl,M.out _⟩
 ·have u:(st.part i).mode≠3:=fun e=>o (.inl e)
  have D:(st.proc i n).stopped=false:=by cases e:(st.proc i n).stopped with| false=>rfl| true=>exact absurd (.inr (.inl e)) o
  have a5:¬st.now<(st.proc i n).til:=fun e=>o (.inr (.inr e))
  have c2:s<(st.codeOf i n).length:=by
   rcases J.next.2.2 with e| e
   ·rw[D]at e;cases e
   ·rw[y]at e;omega
  obtain⟨op,a,a6,h8,h9,_,_,_⟩:=C.ins i n s f m y c2;have i0:=h.ok.codeLen i n f m;have c1:((st.part i).mode == 3)=false:=by simp[u]
  have i1:decide (st.now<(st.proc i n).til)=false:=by simp[a5]
  have c3:Hid (dO st i n=(decide ((op:Int)≠7)||!cZ st i a||decide (0<(st.queues.getD a []).length))):=by
   show _=_
   rw[O.out,a6];simp[o]
  have c4:Hid (∀W,Ro W b Q g st F→W.cell? ⟨b.kb,2,none⟩=some (sl b.cp st.cf.parts.length b.cpc)∧W.cell? ⟨b.kb,7,none⟩=some (sl b.qb st.cf.chans.length b.qc)∧W.cell? ⟨b.cp,i*10+9,none⟩=some (sl (b.pp i) (st.cf.parts.getD i default).procs.length (b.ppc i))∧W.cell? ⟨b.pp i,n*2+1,none⟩=some (sl (b.kk i n) (st.codeOf i n).length (b.kc i n))∧W.cell? ⟨b.kk i n,s*2,none⟩=some (.int .i64 op)∧W.cell? ⟨b.kk i n,s*2+1,none⟩=some (.int .i64 a)∧b.kb<W.heap.size∧b.cp<W.heap.size∧b.pp i<W.heap.size∧b.kk i n<W.heap.size):=fun W l=>by
   obtain⟨f2,f3,c5,_,_,_,f4,f5⟩:=l.ins i n s f m y c2;rw[a6]at c5;obtain⟨i2,i3⟩:=Prod.mk.inj c5;obtain rfl:op=f2:=by omega
   obtain rfl:a=f3:=by omega
   have P:=l.ref.kAt 2;have R:=l.ref.kAt 7;simp only[cE,List.getElem?_toArray,List.getElem?_cons_succ,List.getElem?_cons_zero]at P R;have S:=l.ref.conf.cAt i 9 L (by omega);simp only[vD,List.getElem?_cons_succ,List.getElem?_cons_zero]at S;have T:=l.ref.conf.qAt i n 1 L b3 (by omega);simp only[Ah,List.getElem?_cons_succ,List.getElem?_cons_zero]at T;exact⟨P,R,S,T,f4,f5,lt_of_block l.ref.kern,fV l.ref.conf.parts,fV (l.ref.conf.procs i L),fV (l.ref.conf.code i n L b3)⟩
  have f6:Hid (∀W,Ro W b Q g st F→Calls Tryz.prog 203 #[.pointer (some ⟨b.kb,0,none⟩),.int .i64 a,.int .i64 i,.bool false] W fun e w'=>e=.returned (.bool (cZ st i a))∧Below W.heap.size W w'):=fun W l=>uI b Q g st F i a false W l
  have f7:Hid (cZ st i a=true→a<st.cf.chans.length∧∃ad c,Q a=.slice ad (st.queues.getD a []).length c∧∀W,Ro W b Q g st F→W.cell? ⟨b.qb,a,none⟩=some (Q a)):=fun c6=>by
   have U:a<st.cf.chans.length:=by
    unfold cZ at c6;simp at c6;omega
   obtain⟨ad,c,a7⟩:=Cz (C.ref.queue a U);exact⟨U,ad,c,a7,fun W l=>l.ref.qsAt a U⟩
  obtain⟨V,X⟩:∃V,V=w.heap.size+1:=⟨_,rfl⟩;have c7:Hid (∀q,∃d,d=j.drewN q∧Ro d b Q g st F∧d.cell? ⟨V,0,none⟩=some (.int .i64 s)∧V<d.heap.size∧Below w.heap.size w d):=fun q=>⟨_,rfl,C.keep (fun _ _=>rfl),by rw[X];exact b4,by rw[X];show _<j.heap.size;omega,below_drewN B q⟩
  have f8:Hid (∀d r:World,r.heap=(d.alloc (.cells #[.int .i64 op,.int .i64 a] 210)).heap→r.os=d.os→r.tape=d.tape→r.output=d.output→Below d.heap.size d r∧r.heap[d.heap.size]?=some (.cells #[.int .i64 op,.int .i64 a] 210 (0,0))):=fun d r G a8 f9 g0=>by
   have t:Below d.heap.size d (d.alloc (.cells #[.int .i64 op,.int .i64 a] 210)):=aG _ _;exact⟨⟨a8,f9,g0,by rw[G];exact t.size,fun k g1=>by rw[G];exact t.block k g1⟩,by rw[G];exact heap_alloc_new d _⟩
  rw[c3.out];rw[D]at b5;have i4:=h.ok.good.nchans;have g2:=aI X;have c8:Hid (∀W a9,Ro W b Q g st F→Below W.heap.size W a9→Ro a9 b Q g st F):=fun W a9 G a8=>G.mono a8
  clear X;clear z a3 a4 E C b6 B I J h O c3 b7 u D a5 o a6 y;generalize cZ st i a=g3 at *;generalize (st.queues.getD a []).length=i5 at *;generalize (st.part i).mode=md at *;generalize (st.part i).watch=e7 at *;generalize (st.part i).words.length=nw at *;generalize (st.part i).procs.length=np at *;generalize (st.cf.parts.getD i default).procs.length=i6 at *;generalize (st.codeOf i n).length=i7 at *;generalize st.cf.parts.length=i8 at *;generalize st.cf.chans.length=i9 at *;generalize st.parts.length=e8 at *;generalize st.now=now at *;generalize st.proc i n=x at *;obtain⟨e9,f0,b9,f1,c0⟩:=x;simp only at *
  go_enter Tryz.func180,Tryz.ntmps180
  go_wp2_with fail
  rw[←N.out]
  go_quiet (fail)
  go_wp2_with fail
  rw[←g2.out];obtain⟨d,c9,b0,d0,j0,d1⟩:=c7.out nq;rw[←c9];obtain⟨P,R,S,T,g4,g5,j1,j2,j3,j4⟩:=c4.out d b0;have g6:=aI b0;have d2:=aI d1;clear c9 b0 d1 b4 e5 b5 e4 c7 M
  go_cut [9]from 39 to 55 (fun v r=>v=.pointer (some ⟨d.heap.size,0,none⟩)∧Below d.heap.size d r∧r.heap[d.heap.size]?=some (.cells #[.int .i64 op,.int .i64 a] 210 (0,0)))
  case first=>
   go_region
   all_goals (go_wp2_with fail;go_meet;exact⟨by simp,f8.out _ _ rfl rfl rfl rfl⟩)
  case rest=>
   obtain⟨rfl,Y,Z⟩:=hcut;have a0:wc.cell? ⟨d.heap.size,0,none⟩=some (.int .i64 op):=aD Z;have a1:wc.cell? ⟨d.heap.size,1,none⟩=some (.int .i64 a):=aD Z;have d3:=aI (c8.out d wc g6.out Y);have g7:=aI (f6.out wc d3.out);have g8:=aI Y;have d4:=lt_of_block Z;have g9:=Y.size;clear Y Z P R e6 S T g4 g5 d0;go_wp2_with fail
   refine g7.out.mono ?_;rintro e a2 ⟨rfl,A⟩;have H:=c8.out wc a2 d3.out A;have d0:=(A.cell (p:=⟨d.heap.size,0,none⟩) d4).trans a0;have j5:=(A.cell (p:=⟨d.heap.size,1,none⟩) d4).trans a1;have j6:=(c4.out a2 H).2.1;have b1:Hid (∀q,Below w.heap.size w (a2.drewN q)):=fun q=>below_drewN (d2.out.trans ((g8.out.trans (A.mono g9)).mono d2.out.size)) q
   by_cases d5:op=7
   ·subst d5;cases g3 with
    | false=>
     clear A H a0 a1;go_wp2_with fail
     go_quiet (fail)
     go_wp2
     go_ret
     exact⟨by simp,b1.out _⟩
    | true=>
     obtain⟨U,ad,c,a7,d6⟩:=f7.out rfl;have h0:=d6 a2 H;rw[a7]at h0;clear A H a0 a1 d6;go_wp2_with fail
     go_quiet (fail)
     go_wp2
     go_ret
     exact⟨by simp,b1.out _⟩
   ·have j7:((op:Int) == 7)=false:=by simp;omega
    have j8:((op:Int) != 7)=true:=by simp;omega
    have d7:decide ((op:Int)≠7)=true:=by simp;omega
    have h1:=aI d7;clear A H a0 a1 d7 d5;go_wp2_with fail
    go_quiet (fail)
    go_wp2
    go_ret
    exact⟨by rw[h1.out];rfl,b1.out _⟩
end
end Go.Proofs.YtnjlbgolnbdkaaaGreat
