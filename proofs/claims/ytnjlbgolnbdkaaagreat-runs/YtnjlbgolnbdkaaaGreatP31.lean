/- All, with short names -/
import Derived.Test.YtnjlbgolnbdkaaaGreatP28
import Derived.Test.YtnjlbgolnbdkaaaGreatP30
set_option maxRecDepth 100000
set_option maxHeartbeats 16000000
namespace Go.Proofs.YtnjlbgolnbdkaaaGreat
open Go Go.RowKit
section
open Go.RowKit Go.Shelf
attribute [local go_sem] Oper.semAt_some
def Jq(a:eZ)(Q:Nat→Value)(g:Nat)(st:aQ)(w:World)(s:aQ)(F:Fl)(W:World):Prop:=∃b,Ro W a b g s F∧aH (Rm a Q g st) w W∧QG Q b w.heap.size
theorem wT{a:eZ}{Q b:Nat→Value}{g:Nat}{st s:aQ}{w W c:World}(d:aH (Rm a Q g st) w W)(f:QG Q b w.heap.size)(h:aH (Rm a b g s) W c)(i:s.parts.length=st.parts.length)(j:s.cf=st.cf):aH (Rm a Q g st) w c:=
 d.trans h (fun _ k=>Rm.grow f ((Rm.same i j).1 k))
theorem Jq.below{a:eZ}{Q:Nat→Value}{g:Nat}{st:aQ}{w W b:World}{s:aQ}{F:Fl}(h:Jq a Q g st w s F W)(c:Below W.heap.size W b):Jq a Q g st w s F b:=by
 obtain⟨d,f,i,j⟩:=h;exact⟨d,f.mono c,i.andThen (aH.ofBelow c),j⟩
theorem Jq.drewn{a:eZ}{Q:Nat→Value}{g:Nat}{st:aQ}{w W:World}{s:aQ}{F:Fl}(h:Jq a Q g st w s F W)(q:Nat):Jq a Q g st w s F (W.drewN q):=by
 obtain⟨b,c,d,f⟩:=h;exact⟨b,c.drewn q,d.drewN2 q,f⟩
theorem Jc(bs:List Int)(i n:Nat)(st:aQ):lX (fR bs i n st):=by
 have b:∀x:aQ,lX (-1,x):=fun _=>⟨Int.le_refl (-1),(by decide:(-1:Int)<5)⟩
 have c:∀x:aQ,lX (0,x):=fun _=>⟨(by decide:(-1:Int)≤0),(by decide:(0:Int)<5)⟩
 have d:∀x:aQ,lX (1,x):=fun _=>⟨(by decide:(-1:Int)≤1),(by decide:(1:Int)<5)⟩
 have f:∀x:aQ,lX (3,x):=fun _=>⟨(by decide:(-1:Int)≤3),(by decide:(3:Int)<5)⟩
 have g:∀x:aQ,lX (4,x):=fun _=>⟨(by decide:(-1:Int)≤4),(by decide:(4:Int)<5)⟩
 rw[nH];generalize (dE st i n).1=op;generalize (dE st i n).2=a;unfold oI;simp only
 repeat' (first| with_reducible exact b _| with_reducible exact c _| with_reducible exact d _| with_reducible exact f _| with_reducible exact g _| with_reducible apply kJ)
theorem Ij(bs:List Int)(i n:Nat)(st:aQ):zI st (fR bs i n st):=by
 have b:∀ (c:Int) (x:cQ),zI st (c,st.setProc i n x):=fun _ _=>Lk.setProc _ _ _ _
 have d:∀ (c:Int) (x:cQ) (f:fF),zI st (c,(st.setProc i n x).setPart i f):=fun _ _ _=>(Lk.setProc _ _ _ _).trans (Lk.setPart _ _ _)
 have g:∀ (c:Int) (x:cQ) (q:List (List Int)),zI st (c,{ st.setProc i n x with queues:=q }):=fun _ _ _=>⟨rfl,aQ.setPart_len _ _ _,rfl⟩
 rw[nH];generalize (dE st i n).1=op;generalize (dE st i n).2=a;unfold oI;simp only
 repeat' (first| with_reducible exact b _ _| with_reducible exact d _ _ _| with_reducible exact g _ _ _| with_reducible apply kJ)
theorem Gm(bs:List Int)(i n:Nat)(st:aQ)(g:i<st.parts.length):((fR bs i n st).2.part i).procs.length=(st.part i).procs.length:=by
 obtain⟨P,b⟩:∃P:Int×aQ→Prop,P=fun r=>(r.2.part i).procs.length=(st.part i).procs.length:=⟨_,rfl⟩
 have f:∀x:cQ,((st.setProc i n x).part i).procs.length=(st.part i).procs.length:=fun x=>by rw[aQ.part_setProc g];simp
 have j:∀ (c:Int) (x:cQ),P (c,st.setProc i n x):=fun _ x=>by rw[b];exact f x
 have k:∀ (c:Int) (x:cQ) (d:List Int),P (c,(st.setProc i n x).setPart i { (st.setProc i n x).part i with words:=d }):=fun _ x d=>by
  rw[b];show(((st.setProc i n x).setPart i _).part i).procs.length=_
  rw[aQ.part_set (by rw[aQ.setProc,aQ.setPart_len];exact g)];exact f x
 have l:∀ (c:Int) (x:cQ) (d:Int),P (c,(st.setProc i n x).setPart i { (st.setProc i n x).part i with watch:=d }):=fun _ x d=>by
  rw[b];show(((st.setProc i n x).setPart i _).part i).procs.length=_
  rw[aQ.part_set (by rw[aQ.setProc,aQ.setPart_len];exact g)];exact f x
 have m:∀ (c:Int) (x:cQ) (q:List (List Int)),P (c,{ st.setProc i n x with queues:=q }):=fun _ x q=>by rw[b];exact f x
 have h:P (fR bs i n st):=by
  rw[nH];generalize (dE st i n).1=op;generalize (dE st i n).2=a;unfold oI;simp only
  repeat' (first| with_reducible exact j _ _| with_reducible exact k _ _ _| with_reducible exact l _ _ _| with_reducible exact m _ _ _| with_reducible apply kJ)
 rw[b]at h;exact h
theorem Lv(j:eZ)(Q:Nat→Value)(g:Nat)(st:aQ)(F:Fl)(w:World)(h:Ro w j Q g st F)(b2:dY st)(o7:st.now+1≤1000000000000):
 Calls Tryz.prog 141 #[.pointer (some ⟨j.kb,0,none⟩)] w fun e w'=>e=.returned (.bool (lY (st,F)).1)∧Jq j Q g st w (lT (lY (st,F))) (lY (st,F)).2.2 w':=by
 obtain⟨J,d0⟩:∃J,J=lY (st,F):=⟨_,rfl⟩;rw[←d0];have h7:=aI (Ls j Q g st F w h b2);obtain⟨r1,D⟩:∃r1,r1=eL (kV (st,F)) dW:=⟨_,rfl⟩;rw[←D]at h7;have e5:cS r1.2:=by rw[D];exact sW _ _ (oL (st,F) ⟨b2,h.ok⟩) mD
 have b3:Lk st r1.2.1:=by
  rw[D];refine jO (fun x:SF=>Lk st x.1) ?_ (fun s e6=>e6.trans ?_)
  ·exact Lk.loopB _ (fun k s=>Lk.lates k s) _ (st,F)
  ·unfold dW;split
   ·exact Lk.refl _
   ·exact Lk.loopB _ (fun k s=>Lk.watch k s) _ s
 have j9:Hid (r1.1=false→J=r1):=fun G=>by
  rw[d0];unfold lY lK;rw[←D,jU r1 _ G,jU r1 _ G]
 obtain⟨i,a3⟩:∃i:Nat→Bool×SF,i=rH r1.2:=⟨_,rfl⟩;obtain⟨m,d1⟩:∃m,m=st.cf.wins.length:=⟨_,rfl⟩;have R:∀d,d≤m→cS (i d).2∧Lk st (i d).2.1:=fun d n=>by
  rw[a3];have:=Qa r1.2 e5 d (by rw[b3.cf,←d1];exact n);exact⟨this.1,b3.trans this.2⟩
 have e7:r1.1=true→J=eL (i m) fun s=>(true,{ s.1 with now:=s.1.now+1 },s.2):=fun u=>by
  rw[d0];unfold lY lK;rw[←D,oD r1 _ u,←Qt r1.2 e5,b3.cf,←d1,a3]
 have k1:Hid (r1.1=true→∀d,d<m→(i (d+1)).1=false→J=i (d+1)):=fun u d n G=>by
  rw[e7 u];have e:i m=i (d+1):=by rw[a3]at G ⊢;exact iB _ _ _ _ (by omega) G
  rw[e,jU _ _ G]
 have k2:Hid (r1.1=true→(i m).1=true→J=(true,{ (i m).2.1 with now:=(i m).2.1.now+1 },(i m).2.2)):=fun u H=>by
  rw[e7 u,oD _ _ H]
 have S:=h.ok.good;obtain⟨l,d2⟩:∃l:Nat→Wn,l=fun d=>st.cf.wins.getD d default:=⟨_,rfl⟩
 have e8:∀d,d<m→(0≤(l d).part∧(l d).part<st.cf.parts.length)∧0≤(l d).first∧1≤(l d).many∧(l d).first+(l d).many≤st.cf.frame:=fun d n=>by
  rw[d2];exact S.wins _ (dB (by omega))
 obtain⟨o,e9⟩:∃o,o=st.now % st.cf.frame:=⟨_,rfl⟩;have o8:=S.frame;have o9:0≤o∧o<64:=by
  have T:=Int.emod_nonneg st.now (show st.cf.frame≠0 by omega);have H:=Int.emod_lt_of_pos st.now (show 0<st.cf.frame by omega);omega
 have f0:∀d,d<m→(i d).1=true→i (d+1)=if(l d).first≤o∧o<(l d).first+(l d).many then pP (l d).part.toNat (i d).2 else i d:=fun d n u=>by
  have e:i (d+1)=sG d (i d).2:=by rw[a3]at u ⊢;exact iZ _ _ _ u
  rw[e];unfold sG Hc kR;have a4:=(R d (by omega)).2;rw[a4.cf,a4.now,d2,e9];simp only[decide_eq_true_eq];split
  ·rfl
  ·rw[←u]
 obtain⟨wb,k3,h8,p1,p2,_,_⟩:=h.ref.conf.wins_at (by have:=S.nwins;omega);have h9:∀s b4 y W,Lk st s→Ro W j y g s b4→W.cell? ⟨j.kb,3,none⟩=some (sl wb m k3)∧W.cell? ⟨j.kb,2,none⟩=some (sl j.cp st.cf.parts.length j.cpc)∧W.cell? ⟨j.kb,0,none⟩=some (.int .i64 st.cf.frame)∧W.cell? ⟨j.kb,8,none⟩=some (.int .i64 st.now)∧W.frozen? ⟨j.kb,8,none⟩=false∧wb<W.heap.size∧j.kb<W.heap.size∧j.cp<W.heap.size∧
  (∀d,d<m→W.cell? ⟨wb,d*3,none⟩=some (.int .i64 (l d).part)∧W.cell? ⟨wb,d*3+1,none⟩=some (.int .i64 (l d).first)∧W.cell? ⟨wb,d*3+2,none⟩=some (.int .i64 (l d).many))∧
  (∀p,p<st.cf.parts.length→j.pp p<W.heap.size∧W.cell? ⟨j.cp,p*10+9,none⟩=some (sl (j.pp p) (st.cf.parts.getD p default).procs.length (j.ppc p))∧∀k,k<(st.cf.parts.getD p default).procs.length→W.cell? ⟨j.pp p,k*2,none⟩=some (.int .i64 (fD (st.cf.parts.getD p default) k))):=fun s b4 y W a4 z=>by
  have b5:=z.ref.kAt 3;have d3:=z.ref.kAt 2;have k0:=z.ref.kAt 0;have U:=z.ref.kAt 8;simp only[cE,List.getElem?_toArray,List.getElem?_cons_succ,List.getElem?_cons_zero]at b5 d3 k0 U;rw[a4.cf]at d3 k0;rw[a4.now]at U;have a5:=z.ref.conf;rw[a4.cf]at a5;obtain⟨p3,p4,f1,_,_,V,n⟩:=a5.wins_at (by have:=S.nwins;omega);rw[h8]at f1 b5;simp at f1;obtain⟨rfl,rfl⟩:=f1;rw[←d1]at b5 n;refine⟨b5,d3,k0,U,aJ z.ref.kern 8,V,lt_of_block z.ref.kern,fV a5.parts,fun d k4=>by rw[d2];exact n d k4,fun p A=>⟨fV (a5.procs p A),?_,fun k a6=>?_⟩⟩
  ·have:=a5.cAt p 9 A (by omega)
   simpa[vD]using this
  ·have:=a5.qAt p k 0 A a6 (by omega)
   simpa[Ah,fD]using this
 have f2:=aI h9;have k5:Hid (r1.1=true→∀W,Js j Q g st w r1 W→(i 0).1=true∧Jq j Q g st w (i 0).2.1 (i 0).2.2 W):=fun u W n=>by
  rw[a3];refine⟨rfl,Q,?_,n.2,QG.refl _ _⟩;have:=n.1;rw[qT _ u]at this;exact this
 have k6:Hid (∀d W,d<m→(i d).1=true→¬ ((l d).first≤o∧o<(l d).first+(l d).many)→Jq j Q g st w (i d).2.1 (i d).2.2 W→(i (d+1)).1=true∧Jq j Q g st w (i (d+1)).2.1 (i (d+1)).2.2 W):=fun d W n u e6 k7=>by
  rw[f0 d n u,if_neg e6];exact⟨u,k7⟩
 have f3:Hid (∀d p,d<m→(i d).1=true→(l d).part=(p:Nat)→(l d).first≤o→o<(l d).first+(l d).many→i (d+1)=match vK (i d).2.1 p with| none=>i d| some b=>if(fR (i d).2.2.bs p b (i d).2.1).1<0 then(true,(fR (i d).2.2.bs p b (i d).2.1).2,(i d).2.2)else cK p b (fR (i d).2.2.bs p b (i d).2.1).1.toNat ((fR (i d).2.2.bs p b (i d).2.1).2,(i d).2.2)):=fun d p n u A T H=>by
  rw[f0 d n u,if_pos ⟨T,H⟩,A,Int.toNat_natCast];unfold pP;cases vK (i d).2.1 p with
  | none=>show(true,(i d).2)=i d;rw[←u]
  | some b=>rfl
 have k8:Hid (∀d y p W,d≤m→p<st.cf.parts.length→Ro W j y g (i d).2.1 (i d).2.2→∀k,k<(st.cf.parts.getD p default).procs.length→Calls Tryz.prog 180 #[.pointer (some ⟨j.kb,0,none⟩),.int .i64 p,.int .i64 k] W fun e w'=>e=.returned (.bool (dO (i d).2.1 p k))∧Below W.heap.size W w'):=fun d y p W n A z k a6=>by
  have v:=R d n;have a1:p<(i d).2.1.parts.length:=by rw[z.ok.len,v.2.cf];exact A
  exact Hn j y g _ _ p k W z v.1.1 a1 (by have b6:((i d).2.1.part p).procs.length=((i d).2.1.cf.parts.getD p default).procs.length:=(z.ok.part p a1).2;rw[v.2.cf]at b6;rw[b6];exact a6)
 have k9:Hid (∀d y p b W,d<m→p<st.cf.parts.length→(i d).1=true→(l d).part=(p:Nat)→(l d).first≤o→o<(l d).first+(l d).many→iD (i d).2.1 p (st.cf.parts.getD p default).procs.length=some b→Ro W j y g (i d).2.1 (i d).2.2→aH (Rm j Q g st) w W→QG Q y w.heap.size→Calls Tryz.prog 181 #[.pointer (some ⟨j.kb,0,none⟩),.int .i64 p,.int .i64 b] W fun e w'=>e=.returned (.int .i64 (fR (i d).2.2.bs p b (i d).2.1).1)∧(∀x,Rm j y g (i d).2.1 x→x<W.heap.size)∧aH (Rm j y g (i d).2.1) W w'∧((fR (i d).2.2.bs p b (i d).2.1).1<0→(i (d+1)).1=true∧Jq j Q g st w (i (d+1)).2.1 (i (d+1)).2.2 w')∧(0≤(fR (i d).2.2.bs p b (i d).2.1).1→∃c:Nat,(fR (i d).2.2.bs p b (i d).2.1).1=c∧Calls Tryz.prog 104 #[.pointer (some ⟨j.kb,0,none⟩),.int .i64 p,.int .i64 b,.int .i64 c] w' fun e w'=>e=.returned (.bool (i (d+1)).1)∧Jq j Q g st w (lT (i (d+1))) (i (d+1)).2.2 w')):=fun d y p b W n A u f4 T H L z i0 i1=>by
  have v:=R d (by omega);have a1:p<(i d).2.1.parts.length:=by rw[z.ok.len,v.2.cf];exact A
  have i2:((i d).2.1.part p).procs.length=(st.cf.parts.getD p default).procs.length:=by have b6:((i d).2.1.part p).procs.length=((i d).2.1.cf.parts.getD p default).procs.length:=(z.ok.part p a1).2;rw[v.2.cf]at b6;exact b6
  have d4:=La _ _ _ _ L;have E:=f3.out d p n u f4 T H;have f5:vK (i d).2.1 p=some b:=by
   unfold vK;have:((i d).2.1.cpart p)=st.cf.parts.getD p default:=by unfold aQ.cpart;rw[v.2.cf]
   rw[this];exact L
  rw[f5]at E;simp only at E;refine(Mw j y g _ _ p b W z v.1.1 a1 (by rw[i2];exact d4.1) d4.2).mono ?_;rintro e w' ⟨rfl,d5,a7,a8,d6⟩;have l0:=Jc (i d).2.2.bs p b (i d).2.1;have f6:=Ij (i d).2.2.bs p b (i d).2.1;have b7:=Gm (i d).2.2.bs p b (i d).2.1 a1;have f7:QG Q d5 w.heap.size:=i1.trans d6 i0.size;have i3:aH (Rm j Q g st) w w':=wT i0 i1 a8 v.2.len v.2.cf;refine⟨rfl,fun x f9=>z.lt x f9,a8,fun g0=>?_,fun g0=>?_⟩
  ·rw[if_pos g0]at E;rw[E];exact⟨rfl,d5,a7,i3,f7⟩
  ·rw[if_neg (Int.not_lt.2 g0)]at E;obtain⟨c,i4⟩:∃c:Nat,(fR (i d).2.2.bs p b (i d).2.1).1=c:=⟨(fR (i d).2.2.bs p b (i d).2.1).1.toNat,by omega⟩;refine⟨c,i4,?_⟩;rw[i4,Int.toNat_natCast]at E;refine(pJ j d5 g _ _ p b c w' a7 (by rw[f6.len];exact a1) (by rw[b7,i2];exact d4.1) (by have:=l0.2;omega)).mono ?_;rintro e p5 ⟨rfl,l1,l2⟩;rw[E];exact⟨rfl,d5,l1,wT i3 f7 l2 (f6.len.trans v.2.len) (f6.cf.trans v.2.cf),f7⟩
 have l3:Hid (∀d p,d<m→p<st.cf.parts.length→(i d).1=true→(l d).part=(p:Nat)→(l d).first≤o→o<(l d).first+(l d).many→iD (i d).2.1 p (st.cf.parts.getD p default).procs.length=none→i (d+1)=i d):=fun d p n A u f4 T H L=>by
  have v:=R d (by omega);have E:=f3.out d p n u f4 T H;have f5:vK (i d).2.1 p=none:=by
   unfold vK;have:((i d).2.1.cpart p)=st.cf.parts.getD p default:=by unfold aQ.cpart;rw[v.2.cf]
   rw[this];exact L
  rw[f5]at E;exact E
 have a9:∀d p k,d≤m→iD (i d).2.1 p (k+1)=if(dO (i d).2.1 p k&&(match iD (i d).2.1 p k with| none=>true| some b=>decide (fD (st.cf.parts.getD p default) b<fD (st.cf.parts.getD p default) k)))=true then some k else iD (i d).2.1 p k:=fun d p k n=>by
  have v:=R d n;have:((i d).2.1.cpart p)=st.cf.parts.getD p default:=by unfold aQ.cpart;rw[v.2.cf]
  rw[←this];rfl
 have l4:=aI a9;have l5:Hid (∀d p k b,iD (i d).2.1 p k=some b→b<k):=fun d p k b L=>(La _ _ _ _ L).1
 have l6:Hid (∀W,r1.1=true→(i m).1=true→Jq j Q g st w (i m).2.1 (i m).2.2 W→J.1=true∧Jq j Q g st w (lT J) J.2.2 (W.setCell ⟨j.kb,8,none⟩ (.int .i64 (st.now+1)))):=fun W u H ⟨y,a7,a8,d6⟩=>by
  have v:=(R m (Nat.le_refl _)).2;have i5:=a7.now (st.now+1);have e:=k2.out u H;rw[v.now]at e;rw[e];refine⟨rfl,y,?_,wT a8 d6 i5.2 v.len v.cf,d6⟩;rw[iL];exact i5.1
 have p6:Hid (∀s b4 y W,Ro W j y g s b4→∀x,Rm j y g s x→x<W.heap.size):=fun s b4 y W z x f9=>z.lt x f9
 have g1:Hid (∀d,d≤m→Lk st (i d).2.1):=fun d n=>(R d n).2
 have p7:=aI b3;have p8:st.now.tmod st.cf.frame=o:=by rw[e9,Int.tmod_eq_emod_of_nonneg (by have:=b2.now;omega)]
 have p9:IntKind.i64.wrap o=o:=by rw[IntKind.wrap_i64];omega
 have q0:¬st.cf.frame=0:=by omega
 have q1:m≤8:=by have:=S.nwins;omega
 have q2:=S.few;have i6:∀p,p<st.cf.parts.length→(st.cf.parts.getD p default).procs.length≤2:=fun p A=>(S.parts _ (dB A)).few.2
 have l7:=aI i6;have l8:=aI e8;have q3:=b2.now;have q4:IntKind.i64.wrap (st.now+1)=st.now+1:=by rw[IntKind.wrap_i64];omega
 clear a9 i6 e8 h9 b3 f0 e7 R a3 e5 S d2 e9 d0 D h b2 d1 h8 f3;generalize st.now=now at *;generalize st.cf.frame=q5 at *;generalize st.cf.parts.length=i7 at *
 go_enter Tryz.func141,Tryz.ntmps141
 go_wp2_with fail
 refine h7.out.mono ?_;rintro e b8 ⟨rfl,b9⟩;generalize g2:r1.1=l9 at *;cases l9 with
 | false=>
  have g3:=aI (j9.out (by simp));have g4:=aI g2;have d7:Hid (Jq j Q g st w (lT r1) r1.2.2 b8):=⟨Q,b9.1,b9.2,QG.refl _ _⟩;clear g2 b9;go_wp2
  go_ret
  rw[g3.out];exact⟨by rw[g4.out];rfl,d7.out⟩
 | true=>
  have g5:=k5.out (by simp) b8 b9;obtain⟨X,D,_,_⟩:=g5.2;obtain⟨_,_,k0,U,_⟩:=f2.out _ _ X b8 (g1.out 0 (by omega)) D;have g6:=aI g5;have i8:Hid (∀q,Hid ((i 0).1=true∧Jq j Q g st w (i 0).2.1 (i 0).2.2 (b8.drewN q))):=fun q=>⟨g6.out.1,g6.out.2.drewn q⟩
  clear g5 D b9 g2;go_wp2_with fail
  go_quiet (fail)
  have m0:=i8.out nq;go_wp2
  generalize b8.drewN nq=q6 at *;clear i8 g6 k0 U
  go_loopw [5] (fun t wr=>∃d:Nat,d≤m∧t=.int .i64 d∧Hid ((i d).1=true∧Jq j Q g st w (i d).2.1 (i d).2.2 wr)) (fun t _=>m-(intOf t).toNat)
  case atStart=>exact⟨0,by omega,rfl,m0⟩
  case round=>
   obtain⟨d,n,rfl,M⟩:=hrel;obtain⟨X,D,d8,d9⟩:=M.out.2;obtain⟨b5,d3,k0,U,f8,q7,q8,q9,e0,g7⟩:=f2.out _ _ X wr (g1.out d n) D
   by_cases V:d<m
   ·obtain⟨m1,c1,c2⟩:=e0 d V;have e8:=l8.out d V;obtain⟨p,A⟩:∃p:Nat,(l d).part=(p:Nat):=⟨(l d).part.toNat,by omega⟩;have c0:p<i7:=by omega
    have i9:Hid (∀W,Below wr.heap.size wr W→Jq j Q g st w (i d).2.1 (i d).2.2 W):=fun W C=>M.out.2.below C
    rw[A]at m1;obtain⟨f,G⟩:∃f,f=(l d).first:=⟨_,rfl⟩;obtain⟨I,c3⟩:∃I,I=(l d).many:=⟨_,rfl⟩;rw[←G]at c1;rw[←c3]at c2;have r0:0≤f∧1≤I∧f+I≤64:=by omega
    have r2:IntKind.i64.wrap (f+I)=f+I:=by rw[IntKind.wrap_i64];omega
    obtain⟨r,c4⟩:∃r,r=wr.alloc (.cells #[.int .i64 (p:Nat),.int .i64 f,.int .i64 I] 131):=⟨_,rfl⟩;have Y:Below wr.heap.size wr r:=aE c4;have Z:r.heap[wr.heap.size]?=some (.cells #[.int .i64 (p:Nat),.int .i64 f,.int .i64 I] 131 (0,0)):=aF c4;have g8:=aI c4
    by_cases E:f≤o∧o<f+I
    ·have j0:decide (o<f)=false:=by simp;omega
     have m2:decide (f+I≤o)=false:=by simp;omega
     have c5:(l d).first≤o∧o<(l d).first+(l d).many:=by rw[←G,←c3];exact E
     have c6:=D.mono Y;have z0:r.cell? ⟨wr.heap.size,0,none⟩=some (.int .i64 (p:Nat)):=aD Z;obtain⟨np,b0⟩:∃np,np=(st.cf.parts.getD p default).procs.length:=⟨_,rfl⟩;have r3:np≤2:=by rw[b0];exact l7.out p c0
     obtain⟨prio,a9⟩:∃prio:Nat→Int,prio=fD (st.cf.parts.getD p default):=⟨_,rfl⟩;obtain⟨B,b1⟩:∃B:Nat→Option Nat,B=iD (i d).2.1 p:=⟨_,rfl⟩;obtain⟨rd,g9⟩:∃rd:Nat→Bool,rd=dO (i d).2.1 p:=⟨_,rfl⟩;have m3:Hid (B 0=none):=by show _=_;rw[b1];rfl
     have m4:Hid (∀k,B (k+1)=if(rd k&&(match B k with| none=>true| some b=>decide (prio b<prio k)))=true then some k else B k):=fun k=>by
      rw[b1,g9,a9];exact l4.out d p k n
     have m5:Hid (∀k b,B k=some b→b<k):=fun k b h=>by rw[b1]at h;exact l5.out d p k b h
     have j1:Hid (∀W,Ro W j X g (i d).2.1 (i d).2.2→W.cell? ⟨j.kb,2,none⟩=some (sl j.cp i7 j.cpc)∧W.cell? ⟨j.cp,p*10+9,none⟩=some (sl (j.pp p) np (j.ppc p))∧∀k,k<np→W.cell? ⟨j.pp p,k*2,none⟩=some (.int .i64 (prio k))):=fun W C=>by
      obtain⟨_,j2,_,_,_,_,_,_,_,m6⟩:=f2.out _ _ X W (g1.out d n) C;obtain⟨_,T,H⟩:=m6 p c0;rw[b0,a9];exact⟨j2,T,H⟩
     have m7:Hid (∀k W,k<np→Below r.heap.size r W→Calls Tryz.prog 180 #[.pointer (some ⟨j.kb,0,none⟩),.int .i64 (p:Nat),.int .i64 (k:Nat)] W fun e w'=>e=.returned (.bool (rd k))∧Below W.heap.size W w'):=fun k W a6 C=>by
      rw[g9];exact k8.out d X p W n c0 (c6.mono C) k (by rw[←b0];exact a6)
     have m8:Hid (∀b W,B np=some b→Below r.heap.size r W→Calls Tryz.prog 181 #[.pointer (some ⟨j.kb,0,none⟩),.int .i64 (p:Nat),.int .i64 (b:Nat)] W fun e w'=>∃a2:Int,e=.returned (.int .i64 a2)∧w'.cell? ⟨wr.heap.size,0,none⟩=some (.int .i64 (p:Nat))∧(a2<0→(i (d+1)).1=true∧Jq j Q g st w (i (d+1)).2.1 (i (d+1)).2.2 w')∧(0≤a2→∃c:Nat,a2=c∧Calls Tryz.prog 104 #[.pointer (some ⟨j.kb,0,none⟩),.int .i64 (p:Nat),.int .i64 (b:Nat),.int .i64 c] w' fun e w'=>e=.returned (.bool (i (d+1)).1)∧Jq j Q g st w (lT (i (d+1))) (i (d+1)).2.2 w')):=fun b W L C=>by
      have m9:=Y.trans (C.mono Y.size);refine(k9.out d X p b W V c0 M.out.1 A c5.1 c5.2 (by rw[←b0,←b1];exact L) (c6.mono C) (d8.andThen (aH.ofBelow m9)) d9).mono ?_;rintro e w' ⟨rfl,_,H,a7,a8⟩;refine⟨_,rfl,?_,a7,a8⟩;have a0:wr.heap.size<W.heap.size:=Nat.lt_of_lt_of_le (lt_of_block Z) C.size;rw[World.cell?_of_block (H.block wr.heap.size a0 (fun e=>by have:=D.lt _ e;omega))];exact(C.cell (p:=⟨wr.heap.size,0,none⟩) (lt_of_block Z)).trans z0
     have n0:Hid (∀W,B np=none→Below r.heap.size r W→(i (d+1)).1=true∧Jq j Q g st w (i (d+1)).2.1 (i (d+1)).2.2 W):=fun W L C=>by
      rw[l3.out d p V c0 M.out.1 A c5.1 c5.2 (by rw[←b0,←b1];exact L)];exact⟨M.out.1,i9.out W (Y.trans (C.mono Y.size))⟩
     have n1:Hid ((i (d+1)).1=false→J=i (d+1)):=fun G=>k1.out (by simp) d V G
     obtain⟨j2,r4,_⟩:=j1.out r c6;have j3:Hid (∀W,Below r.heap.size r W→W.cell? ⟨wr.heap.size,0,none⟩=some (.int .i64 (p:Nat))∧Ro W j X g (i d).2.1 (i d).2.2):=fun W C=>⟨(C.cell (p:=⟨wr.heap.size,0,none⟩) (lt_of_block Z)).trans z0,c6.mono C⟩
     have z1:r.cell? ⟨wr.heap.size,1,none⟩=some (.int .i64 f):=aD Z;have z2:r.cell? ⟨wr.heap.size,2,none⟩=some (.int .i64 I):=aD Z;clear c4 Y Z c6 D d8 d9 c5 b0 a9 b1 g9 e0 g7 A G c3 E k0 U f8 M;go_wp2_with fail
     rw[←g8.out]
     go_quiet (fail)
     go_wp2
     have n2:Hid (Below r.heap.size r (r.drewN nq)):=below_drewN (Below.refl _ _) nq;generalize r.drewN nq=r5 at *;generalize wr.heap.size=r6 at *
     go_loopw [7,9] (fun n3 n4 n5=>∃k:Nat,k≤np∧n4=.int .i64 k∧n3=.int .i64 (Im (B k))∧Hid (Below r.heap.size r n5)) (fun _ t _=>np-(intOf t).toNat)
     case atStart=>exact⟨0,by omega,rfl,by rw[m3.out];rfl,n2⟩
     case round=>
      obtain⟨k,a6,rfl,rfl,a0⟩:=hrel;obtain⟨n6,_⟩:=j3.out wr a0.out
      by_cases j4:k<np
      ·have n7:=aI (m7.out k wr j4 a0.out);have e1:=aI (m4.out k);obtain⟨N,O⟩:∃N,N=Im (B k):=⟨_,rfl⟩;rw[←O];have h0:=aI O;clear O;go_wp2_with fail
       refine n7.out.mono ?_;rintro e e2 ⟨rfl,j5⟩;have h1:=a0.out.trans (j5.mono a0.out.size);obtain⟨_,j6⟩:=j3.out e2 h1;obtain⟨_,_,h2⟩:=j1.out e2 j6;have r7:=h2 k j4;have n8:=aI h2;have e3:Hid (∀q,Hid (Below r.heap.size r (e2.drewN q))):=fun q=>below_drewN h1 q
       clear j5 h1 j6 h2 n6;cases hrdk:rd k with
       | false=>
        have P:Hid (Im (B (k+1))=N):=by
         show _=_
         rw[e1.out,hrdk,h0.out];rfl
        clear hrdk;go_wp2_with fail
        go_quiet (fail)
        go_wp2
        go_roundw
        case rel=>exact⟨k+1,by omega,by go_num,by rw[P.out],e3.out _⟩
        case measure=>simp[intOf];omega
       | true=>
        cases hbk:B k with
        | none=>
         obtain rfl:N=-1:=by rw[h0.out,hbk];rfl
         have P:Hid (Im (B (k+1))=(k:Int)):=by
          show _=_
          rw[e1.out,hrdk,hbk];rfl
         clear hrdk hbk;go_wp2_with fail
         go_quiet (fail)
         go_wp2
         go_roundw
         case rel=>exact⟨k+1,by omega,by go_num,by rw[P.out],e3.out _⟩
         case measure=>simp[intOf];omega
        | some b=>
         have d4:=m5.out k b hbk;have r8:=n8.out b (by omega);obtain rfl:N=(b:Int):=by rw[h0.out,hbk];rfl
         have n9:decide ((b:Int)<0)=false:=by simp
         by_cases b7:prio b<prio k
         ·have h3:decide (prio b<prio k)=true:=by simp[b7]
          have P:Hid (Im (B (k+1))=(k:Int)):=by
           show _=_
           rw[e1.out,hrdk,hbk];simp only[h3];rfl
          clear hrdk hbk b7;generalize prio b=pb at *;generalize prio k=o0 at *;go_wp2_with fail
          go_quiet (fail)
          go_wp2
          go_roundw
          case rel=>exact⟨k+1,by omega,by go_num,by rw[P.out],e3.out _⟩
          case measure=>simp[intOf];omega
         ·have h3:decide (prio b<prio k)=false:=by simp;omega
          have P:Hid (Im (B (k+1))=(b:Int)):=by
           show _=_
           rw[e1.out,hrdk,hbk];simp only[h3];rfl
          clear hrdk hbk b7;generalize prio b=pb at *;generalize prio k=o0 at *;go_wp2_with fail
          go_quiet (fail)
          go_wp2
          go_roundw
          case rel=>exact⟨k+1,by omega,by go_num,by rw[P.out],e3.out _⟩
          case measure=>simp[intOf];omega
      ·obtain rfl:k=np:=by omega
       obtain⟨N,O⟩:∃N,N=Im (B k):=⟨_,rfl⟩;rw[←O];cases hbk:B k with
       | none=>
        obtain rfl:N=-1:=by rw[O,hbk];rfl
        have c7:=aI (n0.out wr hbk a0.out);clear O hbk;go_wp2
        go_roundw
        case rel=>exact⟨d+1,by omega,by go_num,c7⟩
        case measure=>simp[intOf];omega
       | some b=>
        obtain rfl:N=(b:Int):=by rw[O,hbk];rfl
        have o1:=aI (m8.out b wr hbk a0.out);have n9:decide ((b:Int)<0)=false:=by simp
        clear O hbk;go_wp2_with fail
        refine o1.out.mono ?_;rintro e e2 ⟨a2,rfl,r9,h4,h5⟩
        by_cases e4:a2<0
        ·have o2:decide (a2<0)=true:=by simp[e4]
         have c7:=aI (h4 e4);clear h4 h5 e4;go_wp2
         go_roundw
         case rel=>exact⟨d+1,by omega,by go_num,c7⟩
         case measure=>simp[intOf];omega
        ·obtain⟨c,rfl,j7⟩:=h5 (by omega);have o2:decide ((c:Int)<0)=false:=by simp
         have o3:=aI j7;clear h4 h5 e4 j7;go_wp2_with fail
         refine o3.out.mono ?_;rintro e o4 ⟨rfl,c8⟩;generalize c9:(i (d+1)).1=o5 at *;cases o5 with
         | true=>
          have c7:Hid ((i (d+1)).1=true∧Jq j Q g st w (i (d+1)).2.1 (i (d+1)).2.2 o4):=⟨c9,by rw[qT _ c9]at c8;exact c8⟩;clear c9 c8;go_wp2
          go_roundw
          case rel=>exact⟨d+1,by omega,by go_num,c7⟩
          case measure=>simp[intOf];omega
         | false=>
          have g3:=aI (n1.out (by simp));have g4:=aI c9;have o6:=aI c8;clear c9 c8;go_wp2
          go_ret
          rw[g3.out];exact⟨by rw[g4.out];rfl,o6.out⟩
    ·have P:Hid (∀W,Below wr.heap.size wr W→(i (d+1)).1=true∧Jq j Q g st w (i (d+1)).2.1 (i (d+1)).2.2 W):=fun W C=>k6.out d W V M.out.1 (by rw[←G,←c3];exact E) (i9.out W C)
     have j8:=aI (P.out r Y);clear c4 Y Z D d8 d9 e0 g7 A G c3 k0 U f8 M
     by_cases h6:o<f
     ·have j0:decide (o<f)=true:=by simp[h6]
      clear E h6;go_wp2
      rw[←g8.out]
      go_roundw
      case rel=>exact⟨d+1,by omega,by go_num,j8⟩
      case measure=>simp[intOf];omega
     ·have j0:decide (o<f)=false:=by simp;omega
      have m2:decide (f+I≤o)=true:=by simp;omega
      clear E h6;go_wp2
      rw[←g8.out]
      go_roundw
      case rel=>exact⟨d+1,by omega,by go_num,j8⟩
      case measure=>simp[intOf];omega
   ·obtain rfl:d=m:=by omega
    have d7:=aI (l6.out wr (by simp) M.out.1 M.out.2);clear e0 g7 D d8 d9;go_wp2
    go_ret
    exact⟨by rw[d7.out.1];rfl,d7.out.2⟩
end
section
open Go.RowKit Go.Shelf
attribute [local go_sem] Oper.semAt_some
theorem Qi(st:aQ)(i n:Nat)(a:Int):(st.act i n a).dead=st.dead:=by
 unfold aQ.act
 repeat' split
 all_goals rfl
theorem pC(i n c:Nat)(s:SF):(cK i n c s).2.1.dead=s.1.dead:=by
 unfold cK;split
 ·exact Qi _ _ _ _
 ·rfl
theorem Mr(i n:Nat)(s:SF):(dT i n s).2.1.dead=s.1.dead:=by
 unfold dT;split
 ·rfl
 ·exact pC i n 2 (_,s.2)
theorem Hv(i:Nat)(s:SF):(cF i s).2.1.dead=s.1.dead:=by
 unfold cF;split
 ·rfl
 ·exact pC i 0 5 (_,s.2)
theorem rB(f:Nat→SF→Bool×SF)(a:∀k s,(f k s).2.1.dead=s.1.dead)(k:Nat)(s:SF):(loopB f k s).2.1.dead=s.1.dead:=
 sR (fun x:SF=>x.1.dead=s.1.dead) f (fun k x b=>(a k x).trans b) k s rfl
theorem Bk(bs:List Int)(i n:Nat)(st:aQ):(fR bs i n st).2.dead=st.dead:=by
 obtain⟨P,b⟩:∃P:Int×aQ→Prop,P=fun r=>r.2.dead=st.dead:=⟨_,rfl⟩
 have f:∀ (c:Int) (x:cQ),P (c,st.setProc i n x):=fun _ _=>by rw[b];rfl
 have g:∀ (c:Int) (x:cQ) (h:fF),P (c,(st.setProc i n x).setPart i h):=fun _ _ _=>by rw[b];rfl
 have j:∀ (c:Int) (x:cQ) (q:List (List Int)),P (c,{ st.setProc i n x with queues:=q }):=fun _ _ _=>by rw[b];rfl
 have d:P (fR bs i n st):=by
  rw[nH];generalize (dE st i n).1=op;generalize (dE st i n).2=a;unfold oI;simp only
  repeat' (first| with_reducible exact f _ _| with_reducible exact g _ _ _| with_reducible exact j _ _ _| with_reducible apply kJ)
 rw[b]at d;exact d
theorem Nq(i:Nat)(s:SF):(pP i s).2.1.dead=s.1.dead:=by
 unfold pP;split
 ·rfl
 ·split
  ·exact Bk _ _ _ _
  ·exact(pC _ _ _ (_,s.2)).trans (Bk _ _ _ _)
theorem Px(s:SF):(Ie s).2.1.dead=s.1.dead:=by
 unfold Ie;split
 ·rfl
 ·exact Nq _ s
theorem Ca(s:SF):(dW s).2.1.dead=s.1.dead:=by
 unfold dW;split
 ·rfl
 ·exact rB _ (fun k s=>Hv k s) _ s
theorem uB(s:SF)(r:Bool×SF)(f:SF→Bool×SF)(h:r.2.1.dead=s.1.dead)(a:∀x,(f x).2.1.dead=x.1.dead):(eL r f).2.1.dead=s.1.dead:=
 jO (fun x:SF=>x.1.dead=s.1.dead) h (fun x b=>(a x).trans b)
theorem Ix(s:SF):(lY s).2.1.dead=s.1.dead:=by
 unfold lY lK;refine uB s _ _ (uB s _ _ (uB s _ _ ?_ Ca) Px) (fun x=>rfl);exact rB _ (fun k s=>rB _ (fun n s=>Mr k n s) _ s) _ s
theorem Hx(s:SF)(k:Nat):(dR k s).2.1.dead=s.1.dead:=rB _ (fun _ s=>Ix s) k s
theorem tU(r:Bool×SF)(h:r.2.1.dead=false):lT r=(iR r).1:=by
 unfold lT iR;simp only;rw[h];rfl
theorem Jq.refl{a:eZ}{Q:Nat→Value}{g:Nat}{st:aQ}{F:Fl}{w:World}(h:Ro w a Q g st F):Jq a Q g st w st F w:=⟨Q,h,aH.refl _ _,QG.refl _ _⟩
theorem Lm(b:eZ)(Q:Nat→Value)(g:Nat)(st:aQ)(F:Fl)(n:Int)(w:World)(h:Ro w b Q g st F)(s:dY st)(C:st.now+1000≤1000000000000):
 Calls Tryz.prog 102 #[.pointer (some ⟨b.kb,0,none⟩),.int .i64 n] w fun e w'=>e=.returned (.tuple #[.int .i64 (bW n (st,F)).1.1,.int .i64 (bW n (st,F)).1.2])∧Jq b Q g st w (bW n (st,F)).2.1 (bW n (st,F)).2.2 w':=by
 have u:=h.ref.kAt 9;simp only[cE,List.getElem?_toArray,List.getElem?_cons_succ,List.getElem?_cons_zero]at u;have v:=aI (Jq.refl h);obtain⟨j,c⟩:∃j,j=bW n (st,F):=⟨_,rfl⟩;rw[←c];unfold bW at c
 by_cases d:n<0∨1000<n
 ·rw[if_pos d]at c;have x:=aI c;clear c h s C
  by_cases l:n<0
  ·have H:decide (n<0)=true:=by simp[l]
   clear d l
   go_enter Tryz.func102,Tryz.ntmps102
   go_wp2
   go_ret2
   rw[x.out];exact⟨rfl,v.out⟩
  ·have H:decide (n<0)=false:=by simp;omega
   have M:decide (1000<n)=true:=by simp;omega
   clear d l
   go_enter Tryz.func102,Tryz.ntmps102
   go_wp2
   go_ret2
   rw[x.out];exact⟨rfl,v.out⟩
 ·rw[if_neg d]at c;have H:decide (n<0)=false:=by simp;omega
  have M:decide (1000<n)=false:=by simp;omega
  cases hdd:st.dead with
  | true=>
   rw[if_pos (show(st,F).1.dead=true from hdd)]at c;have x:=aI c;rw[hdd]at u;clear c h s C d hdd
   go_enter Tryz.func102,Tryz.ntmps102
   go_wp2
   go_ret2
   rw[x.out];exact⟨rfl,v.out⟩
  | false=>
   rw[if_neg (show ¬ (st,F).1.dead=true by show ¬st.dead=true;rw[hdd];decide)]at c;rw[hdd]at u;obtain⟨a,rfl⟩:∃a:Nat,n=a:=⟨n.toNat,by omega⟩;rw[Int.toNat_natCast]at c;obtain⟨T,f⟩:∃T:Nat→Bool×SF,T=fun k=>dR k (st,F):=⟨_,rfl⟩
   have a2:a≤1000:=by omega
   have m:∀k,k≤a→Tk (st,F) (T k).2 k:=fun k D=>by rw[f];exact yA (st,F) ⟨s,h.ok⟩ k (by show st.now+k≤_;omega)
   have E:∀k,(T k).2.1.dead=false:=fun k=>by rw[f];exact(Hx (st,F) k).trans hdd
   have N:Hid ((T 0).1=true∧Jq b Q g st w (T 0).2.1 (T 0).2.2 w):=by rw[f];exact⟨rfl,v.out⟩
   have O:Hid (∀k W,k<a→(T k).1=true→Jq b Q g st w (T k).2.1 (T k).2.2 W→Calls Tryz.prog 141 #[.pointer (some ⟨b.kb,0,none⟩)] W fun e w'=>e=.returned (.bool (T (k+1)).1)∧Jq b Q g st w (lT (T (k+1))) (T (k+1)).2.2 w'):=fun k W D i ⟨P,d,l,I⟩=>by
    have y:=m k (by omega);have e:T (k+1)=lY (T k).2:=by rw[f]at i ⊢;exact iZ _ _ _ i
    refine(Lv b P g (T k).2.1 (T k).2.2 W d y.run.1 (by have G:=y.now.2;have:(T k).2.1.now≤st.now+k:=G;omega)).mono ?_;rintro z w' ⟨rfl,R,S,G,U⟩;rw[e];exact⟨rfl,R,S,wT l I G y.len y.cf,I.trans U l.size⟩
   have V:Hid (∀k W,k<a→(T k).1=true→(T (k+1)).1=false→Jq b Q g st w (lT (T (k+1))) (T (k+1)).2.2 W→j.1=((k:Int),(6:Int))∧Jq b Q g st w j.2.1 j.2.2 W):=fun k W D i o p=>by
    have A:dR a (st,F)=T (k+1):=by rw[f]at o ⊢;exact sC (st,F) (k+1) a (by omega) o
    have z:lV (st,F) a=k:=Bm (st,F) k (by rw[f]at i;exact i) (by rw[f]at o;exact o) a (by omega);rw[c,A,z,if_neg (by rw[o];decide)];refine⟨rfl,?_⟩;rw[tU _ (E _)]at p;exact p
   have X:Hid (∀W,(T a).1=true→Jq b Q g st w (T a).2.1 (T a).2.2 W→j.1=((a:Int),(0:Int))∧Jq b Q g st w j.2.1 j.2.2 W):=fun W i p=>by
    have A:dR a (st,F)=T a:=by rw[f]
    have z:lV (st,F) a=a:=yQ (st,F) a (by rw[A];exact i);rw[c,A,z,if_pos i];refine⟨rfl,?_⟩;rw[←qT _ i,tU _ (E _)]at p;exact p
   clear c f m E h s C d hdd
   go_enter Tryz.func102,Tryz.ntmps102
   go_wp2
   clear u
   go_loopw [6] (fun t wr=>∃k:Nat,k≤a∧t=.int .i64 k∧Hid ((T k).1=true∧Jq b Q g st w (T k).2.1 (T k).2.2 wr)) (fun t _=>a-(intOf t).toNat)
   case atStart=>exact⟨0,by omega,rfl,N⟩
   case round=>
    obtain⟨k,D,rfl,m⟩:=hrel
    by_cases J:k<a
    ·have Y:=aI (O.out k wr J m.out.1 m.out.2);have Z:=aI (fun W d l=>V.out k W J m.out.1 d l);go_wp2_with fail
     refine Y.out.mono ?_;rintro e L ⟨rfl,q⟩;generalize B:(T (k+1)).1=a0 at *;cases a0 with
     | true=>
      have a1:Hid ((T (k+1)).1=true∧Jq b Q g st w (T (k+1)).2.1 (T (k+1)).2.2 L):=⟨B,by rw[qT _ B]at q;exact q⟩;clear B q;go_wp2
      go_roundw
      case rel=>exact⟨k+1,by omega,by go_num,a1⟩
      case measure=>simp[intOf];omega
     | false=>
      have r:=aI (Z.out L (by simp) q);clear B q;go_wp2
      go_ret2
      exact⟨by rw[r.out.1];rfl,r.out.2⟩
    ·obtain rfl:k=a:=by omega
     have r:=aI (X.out wr m.out.1 m.out.2);go_wp2
     go_ret2
     exact⟨by rw[r.out.1];rfl,r.out.2⟩
theorem Es(q:eZ)(Q:Nat→Value)(g:Nat)(st:aQ)(F:Fl)(i n c:Int)(w:World)(h:Ro w q Q g st F):
 Calls Tryz.prog 67 #[.pointer (some ⟨q.kb,0,none⟩),.int .i64 i,.int .i64 n,.int .i64 c] w fun e w'=>e=.returned (.int .i64 (dD i n c (st,F)).1)∧Jq q Q g st w (dD i n c (st,F)).2.1 (dD i n c (st,F)).2.2 w':=by
 have J:=h.ref.kAt 6;have s:=h.ref.kAt 9;simp only[cE,List.getElem?_toArray,List.getElem?_cons_succ,List.getElem?_cons_zero]at J s;have m:=aI (Jq.refl h);have U:=h.capR;obtain⟨o,j⟩:∃o,o=dD i n c (st,F):=⟨_,rfl⟩;rw[←j];unfold dD at j;simp only at j;have f:∀ (B:i<0∨st.parts.length≤i∨c<0∨4<c∨n<0∨(st.part i.toNat).procs.length≤n),o=(1,(st,F)):=fun B=>by rw[j,if_pos B]
 by_cases u:i<0
 ·have r:decide (i<0)=true:=by simp[u]
  have d:=aI (f (.inl u));clear j f h u
  go_enter Tryz.func67,Tryz.ntmps67
  go_wp2
  go_ret
  rw[d.out];exact⟨rfl,m.out⟩
 obtain⟨a,rfl⟩:∃a:Nat,i=a:=⟨i.toNat,by omega⟩;have V:decide ((a:Int)<0)=false:=by simp
 by_cases L:(st.parts.length:Int)≤a
 ·have r:decide ((st.parts.length:Int)≤a)=true:=by simp;omega
  have d:=aI (f (.inr (.inl L)));clear j f h;generalize st.parts.length=np at *
  go_enter Tryz.func67,Tryz.ntmps67
  go_wp2
  go_ret
  rw[d.out];exact⟨rfl,m.out⟩
 have v:a<st.parts.length:=by omega
 have W:decide ((st.parts.length:Int)≤a)=false:=by simp;omega
 by_cases x:c<0
 ·have r:decide (c<0)=true:=by simp[x]
  have d:=aI (f (.inr (.inr (.inl x))));clear j f h x;generalize st.parts.length=np at *
  go_enter Tryz.func67,Tryz.ntmps67
  go_wp2
  go_ret
  rw[d.out];exact⟨rfl,m.out⟩
 have X:decide (c<0)=false:=by simp;omega
 by_cases y:4<c
 ·have r:decide (4<c)=true:=by simp[y]
  have d:=aI (f (.inr (.inr (.inr (.inl y)))));clear j f h y;generalize st.parts.length=np at *
  go_enter Tryz.func67,Tryz.ntmps67
  go_wp2
  go_ret
  rw[d.out];exact⟨rfl,m.out⟩
 have Y:decide (4<c)=false:=by simp;omega
 by_cases z:n<0
 ·have r:decide (n<0)=true:=by simp[z]
  have d:=aI (f (.inr (.inr (.inr (.inr (.inl z))))));clear j f h z;generalize st.parts.length=np at *
  go_enter Tryz.func67,Tryz.ntmps67
  go_wp2
  go_ret
  rw[d.out];exact⟨rfl,m.out⟩
 have Z:decide (n<0)=false:=by simp;omega
 obtain⟨k,rfl⟩:∃k:Nat,n=k:=⟨n.toNat,by omega⟩;obtain⟨C,rfl⟩:∃C:Nat,c=C:=⟨c.toNat,by omega⟩;have M:=h.ref.rAt a 2 v (by omega);have N:=h.ref.rAt a 0 v (by omega);simp only[kK,List.getElem?_cons_succ,List.getElem?_cons_zero,Nat.add_zero]at N M
 by_cases O:((st.part a).procs.length:Int)≤k
 ·have r:decide (((st.part a).procs.length:Int)≤k)=true:=by simp;omega
  have d:=aI (f (.inr (.inr (.inr (.inr (.inr (by rw[Int.toNat_natCast];exact O)))))));clear j f h;generalize (st.part a).procs.length=nq at *;generalize st.parts.length=np at *
  go_enter Tryz.func67,Tryz.ntmps67
  go_wp2
  go_ret
  rw[d.out];exact⟨rfl,m.out⟩
 have P:k<(st.part a).procs.length:=by omega
 have a0:decide (((st.part a).procs.length:Int)≤k)=false:=by simp;omega
 have l:o=if st.dead=true then(6,(st,F))else if(st.part a).mode=3 then(0,(st,F))else(if(cK a k C (st,F)).1=true then 0 else 6,iR (cK a k C (st,F))):=by
  rw[j,if_neg (by rw[Int.toNat_natCast];omega)];simp only[Int.toNat_natCast]
 clear j f;cases hdd:st.dead with
 | true=>
  rw[if_pos hdd]at l;rw[hdd]at s;have d:=aI l;clear l h hdd;generalize (st.part a).procs.length=nq at *;generalize st.parts.length=np at *
  go_enter Tryz.func67,Tryz.ntmps67
  go_wp2
  go_ret
  rw[d.out];exact⟨rfl,m.out⟩
 | false=>
  rw[if_neg (by rw[hdd];decide)]at l;rw[hdd]at s
  by_cases p:(st.part a).mode=3
  ·rw[if_pos p]at l;have R:((st.part a).mode == 3)=true:=by simp[p]
   have d:=aI l;clear l h hdd p;generalize (st.part a).mode=md at *;generalize (st.part a).procs.length=nq at *;generalize st.parts.length=np at *
   go_enter Tryz.func67,Tryz.ntmps67
   go_wp2
   go_ret
   rw[d.out];exact⟨rfl,m.out⟩
  ·rw[if_neg p]at l;have R:((st.part a).mode == 3)=false:=by simp[p]
   have d:=aI l;have D:=aI (pJ q Q g st F a k C w h v P (by omega));have S:Hid ((cK a k C (st,F)).2.1.dead=false):=(pC a k C (st,F)).trans hdd;clear l h hdd p;generalize cK a k C (st,F)=E at *;generalize (st.part a).mode=md at *;generalize (st.part a).procs.length=nq at *;generalize st.parts.length=np at *
   go_enter Tryz.func67,Tryz.ntmps67
   go_wp2_with fail
   refine D.out.mono ?_;rintro e T ⟨rfl,A,G⟩;have H:Hid (Jq q Q g st w o.2.1 o.2.2 T):=by
    show Jq _ _ _ _ _ _ _ _
    rw[d.out];refine⟨Q,?_,G,QG.refl _ _⟩;rw[tU _ S.out]at A;exact A
   have I:Hid (o.1=if E.1=true then 0 else 6):=by show _=_;rw[d.out]
   clear A G D d;generalize E.1=b at *;cases b with
   | true=>
    go_wp2
    go_ret
    exact⟨by rw[I.out];rfl,H.out⟩
   | false=>
    go_wp2
    go_ret
    exact⟨by rw[I.out];rfl,H.out⟩
end
end Go.Proofs.YtnjlbgolnbdkaaaGreat
