/- All, with short names -/
import Derived.Test.YtnjlbgolnbdkaaaGreatP17
import Derived.Deep.RegionHeld
set_option maxRecDepth 100000
set_option maxHeartbeats 16000000
namespace Go.Proofs.YtnjlbgolnbdkaaaGreat
open Go Go.RowKit
theorem sB(x n i:Nat)(w:World)(b:i<n):
 Calls Tryz.prog 210 #[.agg #[.slice (some ⟨x,0,none⟩) n n],.int .i64 i] w fun e w'=>e=.returned (.pointer (some ⟨x,i*3,none⟩))∧Below w.heap.size w w':=by
 have a:Hid (Below w.heap.size w (w.alloc (.cells #[.slice (some ⟨x,0,none⟩) n n] 135))):=aG _ _
 go_enter Tryz.func210,Tryz.ntmps210
 go_wp2
 go_ret
 exact⟨by simp,a.out⟩
theorem uZ(x n:Nat)(i:Int)(w:World):
 Calls Tryz.prog 216 #[.agg #[.slice (some ⟨x,0,none⟩) n n],.int .i64 i] w fun e w'=>e=.returned (.bool (decide (0≤i)&&decide (i<n)))∧Below w.heap.size w w':=by
 have a:Hid (Below w.heap.size w (w.alloc (.cells #[.slice (some ⟨x,0,none⟩) n n] 135))):=aG _ _
 by_cases h:0≤i
 ·go_enter Tryz.func216,Tryz.ntmps216
  go_wp2
  go_ret
  exact⟨by simp[h],a.out⟩
 ·go_enter Tryz.func216,Tryz.ntmps216
  go_wp2
  go_ret
  exact⟨by rw[decide_eq_false (show ¬ 0≤i by omega)];rfl,a.out⟩
theorem Nl(x n i:Nat)(w:World)(b:i<n):
 Calls Tryz.prog 223 #[.agg #[.slice (some ⟨x,0,none⟩) n n],.int .i64 i] w fun e w'=>e=.returned (.pointer (some ⟨x,i,none⟩))∧Below w.heap.size w w':=by
 have a:Hid (Below w.heap.size w (w.alloc (.cells #[.slice (some ⟨x,0,none⟩) n n] 115))):=aG _ _
 go_enter Tryz.func223,Tryz.ntmps223
 go_wp2
 go_ret
 exact⟨by simp,a.out⟩
theorem Kc(x n:Nat)(i:Int)(w:World):
 Calls Tryz.prog 222 #[.agg #[.slice (some ⟨x,0,none⟩) n n],.int .i64 i] w fun e w'=>e=.returned (.bool (decide (0≤i)&&decide (i<n)))∧Below w.heap.size w w':=by
 have a:Hid (Below w.heap.size w (w.alloc (.cells #[.slice (some ⟨x,0,none⟩) n n] 115))):=aG _ _
 by_cases h:0≤i
 ·go_enter Tryz.func222,Tryz.ntmps222
  go_wp2
  go_ret
  exact⟨by simp[h],a.out⟩
 ·go_enter Tryz.func222,Tryz.ntmps222
  go_wp2
  go_ret
  exact⟨by rw[decide_eq_false (show ¬ 0≤i by omega)];rfl,a.out⟩
theorem aU.chanC{w:World}{b:bN}{g:Nat}{st:aQ}(h:aU w b g st)(a k:Nat)(c:a<st.cf.chans.length)(d:k<3):w.cell? ⟨b.cb,a*3+k,none⟩=(jS b a (st.cf.chans.getD a default))[k]?:=by
 rw[cell_of_row _ _ _ _ _ _ h.chans,List.getElem?_toArray];exact jI _ 3 _ (fun _ _=>rfl) a k c d
theorem sV(c:bN)(g:Nat)(st:aQ)(F:Fl)(i:Nat)(op:Int)(a:Nat)(w:World)(h:Mo w c g st F)(J:i<st.parts.length):
 Calls Tryz.prog 209 #[.pointer (some ⟨c.mb,0,none⟩),.pointer (some ⟨c.pb,i*14,none⟩),.agg #[.int .i64 op,.int .i64 a]] w fun e w'=>e=.returned (.bool (op == 7&&cZ st i a))∧Below w.heap.size w w':=by
 obtain⟨j,x⟩:∃j,j=w.alloc (.cells #[.int .i64 op,.int .i64 a] 210):=⟨_,rfl⟩;have A:Below w.heap.size w j:=aE x;have B:j.heap[w.heap.size]?=some (.cells #[.int .i64 op,.int .i64 a] 210 (0,0)):=aF x;have m:=h.mono A;have n:=m.mach.machAt 5;simp only[List.getElem?_toArray,List.getElem?_cons_succ,List.getElem?_cons_zero]at n;have p0:=m.mach.partAt i 0 J (by omega);simp only[fK,List.getElem?_cons_zero,Nat.add_zero]at p0;have r:j.cell? ⟨w.heap.size,0,none⟩=some (.int .i64 op):=aD B;have y:j.cell? ⟨w.heap.size,1,none⟩=some (.int .i64 a):=aD B;obtain⟨s,l⟩:∃s,s=(op == 7&&cZ st i a):=⟨_,rfl⟩;rw[←l];have C:=aI x;have H:=aI A;have L:=aN n;have M:=aN p0;have I:=aN r;clear x A B;obtain⟨ι,R,f,d,o⟩:=lA j;have D:Hid (∃i,j.drew=f i):=o _ (Below.refl _ _).drew;have S:∀b,(f b).cell? ⟨w.heap.size,0,none⟩=some (.int .i64 op):=fun b=>((d b).cell (p:=⟨w.heap.size,0,none⟩) I).trans r
 have T:∀b,(f b).cell? ⟨w.heap.size,1,none⟩=some (.int .i64 a):=fun b=>((d b).cell (p:=⟨w.heap.size,1,none⟩) I).trans y
 have U:∀b,(f b).cell? ⟨c.mb,5,none⟩=some (.slice (some ⟨c.cb,0,none⟩) st.cf.chans.length st.cf.chans.length):=fun b=>((d b).cell (p:=⟨c.mb,5,none⟩) L).trans n
 have V:∀b,(f b).cell? ⟨c.pb,i*14,none⟩=some (.int .i64 i):=fun b=>((d b).cell (p:=⟨c.pb,i*14,none⟩) M).trans p0
 have E:Hid (∀b,Below w.heap.size w (f b)):=fun b=>H.out.trans ((d b).mono H.out.size)
 have q:Hid (∀b,Calls Tryz.prog 216 #[.agg #[.slice (some ⟨c.cb,0,none⟩) st.cf.chans.length st.cf.chans.length],.int .i64 a] (f b) fun e w'=>e=.returned (.bool (decide (0≤(a:Int))&&decide ((a:Int)<st.cf.chans.length)))∧∃k,w'=f k):=fun b=>Calls.inClass d o b (uZ c.cb _ a _)
 have z:(decide (0≤(a:Int))&&decide ((a:Int)<st.cf.chans.length))=decide (a<st.cf.chans.length):=by simp
 rw[z]at q
 by_cases G:op=7
 ·subst G
  by_cases u:a<st.cf.chans.length
  ·have ch:=m.mach.chanC a 1 u (by omega);simp only[jS,List.getElem?_cons_succ,List.getElem?_cons_zero]at ch;have N:=aN ch;have W:∀b,(f b).cell? ⟨c.cb,a*3+1,none⟩=some (.int .i64 (st.cf.chans.getD a default).dst):=fun b=>((d b).cell (p:=⟨c.cb,a*3+1,none⟩) N).trans ch
   have O:Hid (∀b,Calls Tryz.prog 210 #[.agg #[.slice (some ⟨c.cb,0,none⟩) st.cf.chans.length st.cf.chans.length],.int .i64 a] (f b) fun e w'=>e=.returned (.pointer (some ⟨c.cb,a*3,none⟩))∧∃k,w'=f k):=fun b=>Calls.inClass d o b (sB c.cb _ a _ u)
   have v:Hid (s=((st.cf.chans.getD a default).dst == (i:Int))):=by
    show _=_
    rw[l];unfold cZ;simp[u];rfl
   rw[decide_eq_true u]at q;generalize (st.cf.chans.getD a default).dst=X at *;generalize st.cf.chans.length=P at *;clear h m l d o n p0 r y ch z;rw[v.out]
   go_enter Tryz.func209,Tryz.ntmps209
   go_wp2_with fail
   rw[←C.out];go_wp2_with fail
   refine bV f (by kernel_rfl) (by kernel_rfl) D.out ?_
   repeat (go_big_quiet_step (first| (go_at_call 216;with_reducible exact q.out _)| (go_at_call 210;with_reducible exact O.out _)))
   refine wpQuiet_nil ?_;rintro _ ⟨b,rfl⟩;go_wp2
   go_ret
   exact⟨rfl,E.out b⟩
  ·have v:Hid (s=false):=by
    show _=_
    rw[l];unfold cZ;simp;intro h;omega
   rw[decide_eq_false u]at q;generalize st.cf.chans.length=P at *;clear h m l d o n p0 r y z;rw[v.out]
   go_enter Tryz.func209,Tryz.ntmps209
   go_wp2_with fail
   rw[←C.out];go_wp2_with fail
   refine bV f (by kernel_rfl) (by kernel_rfl) D.out ?_
   repeat (go_big_quiet_step (first| (go_at_call 216;with_reducible exact q.out _)))
   refine wpQuiet_nil ?_;rintro _ ⟨b,rfl⟩;go_wp2
   go_ret
   exact⟨rfl,E.out b⟩
 ·have Q:(op == 7)=false:=by simp[G]
  have v:Hid (s=false):=by show _=_;rw[l,Q];rfl
  clear h m l G d o n p0 r y z q;rw[v.out]
  go_enter Tryz.func209,Tryz.ntmps209
  go_wp2_with fail
  rw[←C.out];go_wp2_with fail
  refine bV f (by kernel_rfl) (by kernel_rfl) D.out ?_
  repeat (go_big_quiet_step (fail))
  refine wpQuiet_nil ?_;rintro _ ⟨b,rfl⟩;go_wp2
  go_ret
  exact⟨rfl,E.out b⟩
theorem tP{w:World}{a:bN}{g:Nat}{st:aQ}(h:aU w a g st)(i n:Nat)(b:i<st.parts.length)(c:n<(st.part i).procs.length):w.cell? ⟨a.pr i,n*6+2,none⟩=some (.int .i64 (st.proc i n).acc):=by
 have:=h.procAt i n 2 b c (by omega)
 simpa[aY]using this
theorem Mo.setAcc{w:World}{a:bN}{g:Nat}{st:aQ}{F:Fl}(h:Mo w a g st F)(i n:Nat)(v:Int)(b:i<st.parts.length)(c:n<(st.part i).procs.length):Mo (w.setCell ⟨a.pr i,n*6+2,none⟩ (.int .i64 v)) a g (st.setProc i n { st.proc i n with acc:=v }) F∧aH (Dm a g st) w (w.setCell ⟨a.pr i,n*6+2,none⟩ (.int .i64 v)):=
 h.setProc i n _ b (aH.ofSet w _ _ _ rfl) (h.mach.procCell h.lay i n 2 _ _ b c (by omega) rfl)
theorem Mo.word{w:World}{c:bN}{g:Nat}{st:aQ}{F:Fl}(h:Mo w c g st F)(i a:Nat)(v:Int)(d:i<st.parts.length):Mo (w.setCell ⟨c.wd i,a,none⟩ (.int .i64 v)) c g (st.setPart i { st.part i with words:=(st.part i).words.set a v }) F∧aH (Dm c g st) w (w.setCell ⟨c.wd i,a,none⟩ (.int .i64 v)):=
 ⟨h.cells (h.mach.words i d) (by decide) (aH.ofSet w _ _ _ rfl) (h.mach.setWord h.lay i a v d) (aQ.setPart_len _ _ _) rfl (h.ok.setPart i _ (by simp) rfl),(aH.ofSet (S:=(·=c.wd i)) w _ _ _ rfl).to (fun b e=>by have f:b=c.wd i:=e;rw[f];exact .inr (.inr (.inl ⟨i,d,.inl rfl⟩)))⟩
def fH(i n:Nat)(op:Int)(a:Nat)(st:aQ):Int×aQ:=
 if a<(st.part i).words.length then
  (if op=2 then(-1,st.setPart i { st.part i with words:=(st.part i).words.set a (st.proc i n).acc })
  else if op=3 then(-1,st.setProc i n { st.proc i n with acc:=(st.part i).words.getD a 0 })
  else if(st.part i).words.getD a 0=0 then(1,st)
  else(-1,st.setProc i n { st.proc i n with acc:=kX (st.proc i n).acc ((st.part i).words.getD a 0) }))
 else(0,st)
theorem sI(c:bN)(g:Nat)(st:aQ)(F:Fl)(i n:Nat)(op:Int)(a:Nat)(w:World)(h:Mo w c g st F)(m:i<st.parts.length)(L:n<(st.part i).procs.length)(T:op=2∨op=3∨op=12):
 Calls Tryz.prog 217 #[.pointer (some ⟨c.pb,i*14,none⟩),.pointer (some ⟨c.pr i,n*6,none⟩),.agg #[.int .i64 op,.int .i64 a]] w fun e w'=>e=.returned (.int .i64 (fH i n op a st).1)∧Mo w' c g (fH i n op a st).2 F∧aH (Dm c g st) w w':=by
 obtain⟨y,q⟩:∃y,y=w.alloc (.cells #[.int .i64 op,.int .i64 a] 210):=⟨_,rfl⟩;have A:Below w.heap.size w y:=aE q;have D:y.heap[w.heap.size]?=some (.cells #[.int .i64 op,.int .i64 a] 210 (0,0)):=aF q;have M:=h.mono A;obtain⟨ι,W,f,r,z⟩:=lA y;have B:Hid (∃b,y.drew=f b):=z _ (Below.refl _ _).drew;have E:Hid (∀b,∃k,(f b).drew=f k):=fun b=>z _ ((r b).drew)
 have j:Hid (∀b,Mo (f b) c g st F):=fun b=>M.mono (r b)
 have G:Hid (∀b,aH (Dm c g st) w (f b)):=fun b=>aH.ofBelow (A.trans ((r b).mono A.size))
 have H:∀b,(f b).heap[w.heap.size]?=some (.cells #[.int .i64 op,.int .i64 a] 210 (0,0)):=fun b=>((r b).block _ (lt_of_block D)).trans D
 have X:∀b,(f b).cell? ⟨w.heap.size,0,none⟩=some (.int .i64 op):=fun b=>aD (H b)
 have Y:∀b,(f b).cell? ⟨w.heap.size,1,none⟩=some (.int .i64 a):=fun b=>aD (H b)
 have Z:∀b,(f b).cell? ⟨c.pb,i*14+10,none⟩=some (.slice (some ⟨c.wd i,0,none⟩) (st.part i).words.length (st.part i).words.length):=fun b=>by
  have:=(j.out b).mach.partAt i 10 m (by omega)
  simpa[fK]using this
 have a0:∀b,(f b).cell? ⟨c.pr i,n*6+2,none⟩=some (.int .i64 (st.proc i n).acc):=fun b=>tP (j.out b).mach i n m L
 have a1:∀b,(f b).frozen? ⟨c.pr i,n*6+2,none⟩=false:=fun b=>aJ ((j.out b).mach.procs i m) _
 have s:Hid (∀b,Calls Tryz.prog 222 #[.agg #[.slice (some ⟨c.wd i,0,none⟩) (st.part i).words.length (st.part i).words.length],.int .i64 a] (f b) fun e w'=>e=.returned (.bool (decide (0≤(a:Int))&&decide ((a:Int)<(st.part i).words.length)))∧∃k,w'=f k):=fun b=>Calls.inClass r z b (Kc _ _ a _)
 have N:(decide (0≤(a:Int))&&decide ((a:Int)<(st.part i).words.length))=decide (a<(st.part i).words.length):=by simp
 rw[N]at s;obtain⟨Q,d⟩:∃Q,Q=fH i n op a st:=⟨_,rfl⟩;rw[←d];unfold fH at d;have C:=aI q
 by_cases u:a<(st.part i).words.length
 ·rw[if_pos u]at d;rw[decide_eq_true u]at s;have I:Hid (∀b,Calls Tryz.prog 223 #[.agg #[.slice (some ⟨c.wd i,0,none⟩) (st.part i).words.length (st.part i).words.length],.int .i64 a] (f b) fun e w'=>e=.returned (.pointer (some ⟨c.wd i,a,none⟩))∧∃k,w'=f k):=fun b=>Calls.inClass r z b (Nl _ _ a _ u)
  have a2:∀b,(f b).cell? ⟨c.wd i,a,none⟩=some (.int .i64 ((st.part i).words.getD a 0)):=fun b=>by
   rw[cell_of_row _ _ _ _ _ _ ((j.out b).mach.words i m),List.getElem?_toArray,List.getElem?_map];show Option.map _ ((st.part i).words[a]?)=_
   rw[List.getElem?_eq_getElem u];simp[List.getD_eq_getElem?_getD,u]
  have a3:∀b,(f b).frozen? ⟨c.wd i,a,none⟩=false:=fun b=>aJ ((j.out b).mach.words i m) _
  have R:Hid (∀b v,Mo ((f b).setCell ⟨c.wd i,a,none⟩ (.int .i64 v)) c g (st.setPart i { st.part i with words:=(st.part i).words.set a v }) F∧aH (Dm c g st) w ((f b).setCell ⟨c.wd i,a,none⟩ (.int .i64 v))):=fun b v=>⟨((j.out b).word i a v m).1,(G.out b).andThen ((j.out b).word i a v m).2⟩
  have O:Hid (∀b v,Mo ((f b).setCell ⟨c.pr i,n*6+2,none⟩ (.int .i64 v)) c g (st.setProc i n { st.proc i n with acc:=v }) F∧aH (Dm c g st) w ((f b).setCell ⟨c.pr i,n*6+2,none⟩ (.int .i64 v))):=fun b v=>⟨((j.out b).setAcc i n v m L).1,(G.out b).andThen ((j.out b).setAcc i n v m L).2⟩
  clear h M r z A D H N;generalize (st.part i).words.length=nw at *;generalize U:(st.part i).words.getD a 0=o at *;generalize J:(st.proc i n).acc=x at *;clear U;rcases T with rfl| rfl| rfl
  ·rw[if_pos rfl]at d;have p:=aI d;clear d q J
   go_enter Tryz.func217,Tryz.ntmps217
   go_wp2_with fail
   rw[←C.out];go_wp2_with fail
   refine bV f (by kernel_rfl) (by kernel_rfl) B.out ?_
   repeat (go_big_quiet_step (first| (go_at_call 222;with_reducible exact s.out _)))
   refine wpQuiet_nil ?_;rintro _ ⟨b,rfl⟩;go_wp2_with fail
   refine bV f (by kernel_rfl) (by kernel_rfl) (E.out b) ?_
   repeat (go_big_quiet_step (first| (go_at_call 223;with_reducible exact I.out _)))
   refine wpQuiet_nil ?_;rintro _ ⟨l,rfl⟩;go_wp2
   go_ret
   rw[p.out];exact⟨rfl,(R.out l x).1,(R.out l x).2⟩
  ·rw[if_neg (by decide),if_pos rfl]at d;have p:=aI d;clear d q J
   go_enter Tryz.func217,Tryz.ntmps217
   go_wp2_with fail
   rw[←C.out];go_wp2_with fail
   refine bV f (by kernel_rfl) (by kernel_rfl) B.out ?_
   repeat (go_big_quiet_step (first| (go_at_call 222;with_reducible exact s.out _)))
   refine wpQuiet_nil ?_;rintro _ ⟨b,rfl⟩;go_wp2_with fail
   refine bV f (by kernel_rfl) (by kernel_rfl) (E.out b) ?_
   repeat (go_big_quiet_step (first| (go_at_call 223;with_reducible exact I.out _)))
   refine wpQuiet_nil ?_;rintro _ ⟨l,rfl⟩;go_wp2
   go_ret
   rw[p.out];exact⟨rfl,(O.out l o).1,(O.out l o).2⟩
  ·rw[if_neg (by decide),if_neg (by decide)]at d
   by_cases P:o=0
   ·subst P;rw[if_pos rfl]at d;have p:=aI d;clear d q J
    go_enter Tryz.func217,Tryz.ntmps217
    go_wp2_with fail
    rw[←C.out];go_wp2_with fail
    refine bV f (by kernel_rfl) (by kernel_rfl) B.out ?_
    repeat (go_big_quiet_step (first| (go_at_call 222;with_reducible exact s.out _)))
    refine wpQuiet_nil ?_;rintro _ ⟨b,rfl⟩;go_wp2_with fail
    refine bV f (by kernel_rfl) (by kernel_rfl) (E.out b) ?_
    repeat (go_big_quiet_step (first| (go_at_call 223;with_reducible exact I.out _)))
    refine wpQuiet_nil ?_;rintro _ ⟨l,rfl⟩;go_wp2
    go_ret
    rw[p.out];exact⟨rfl,j.out l,G.out l⟩
   ·rw[if_neg P]at d;have p:=aI d;have a4:Hid (kX x o=IntKind.i64.wrap (Int.tdiv x o)):=rfl;have a5:(o == 0)=false:=by simp[P]
    clear d q J
    go_enter Tryz.func217,Tryz.ntmps217
    go_wp2_with fail
    rw[←C.out];go_wp2_with fail
    refine bV f (by kernel_rfl) (by kernel_rfl) B.out ?_
    repeat (go_big_quiet_step (first| (go_at_call 222;with_reducible exact s.out _)))
    refine wpQuiet_nil ?_;rintro _ ⟨b,rfl⟩;go_wp2_with fail
    refine bV f (by kernel_rfl) (by kernel_rfl) (E.out b) ?_
    repeat (go_big_quiet_step (first| (go_at_call 223;with_reducible exact I.out _)))
    refine wpQuiet_nil ?_;rintro _ ⟨l,rfl⟩;go_wp2_with fail
    go_region
    all_goals
     go_wp2
     go_ret
     rw[p.out];have V:wrap64 (x.tdiv o)=kX x o:=by
      unfold kX wrap64;rw[IntKind.wrap_i64]
     have S:=O.out l (kX x o);rw[V];exact⟨rfl,S.1.mono (Below.refl _ _).drew,S.2.andThen (aH.ofDrew _)⟩
 ·rw[if_neg u]at d;rw[decide_eq_false u]at s;have p:=aI d;clear h M r z A D H N d q;generalize (st.part i).words.length=nw at *
  go_enter Tryz.func217,Tryz.ntmps217
  go_wp2_with fail
  rw[←C.out];go_wp2_with fail
  refine bV f (by kernel_rfl) (by kernel_rfl) B.out ?_
  repeat (go_big_quiet_step (first| (go_at_call 222;with_reducible exact s.out _)))
  refine wpQuiet_nil ?_;rintro _ ⟨b,rfl⟩;go_wp2
  go_ret
  rw[p.out];exact⟨rfl,j.out b,G.out b⟩
theorem sK(l:List (Nat→Int))(a:Int)(k:Nat)(r:Nat→Int)(h:l[k]?=some r):dU (l.take (k+1)) a=if r 1=a then dU (l.take k) a+1 else dU (l.take k) a:=by
 unfold dU;rw[List.take_add_one,h,List.foldl_append];rfl
theorem At(l:List (Nat→Int))(a:Int):∀k,0≤dU (l.take k) a∧dU (l.take k) a≤k:=by
 intro k
 induction k with
 | zero=>exact⟨Int.le_refl _,Int.le_refl _⟩
 | succ k ih=>
  cases h:l[k]? with
  | none=>
   rw[List.take_add_one,h];simp only[Option.toList_none,List.append_nil];omega
  | some r=>
   rw[sK l a k r h];split<;>omega
theorem Cg(g:Nat)(F:Fl)(a:Int)(w:World)(h:fO w g F):
 Calls Tryz.prog 225 #[.agg #[.pointer (some ⟨g,0,none⟩)],.int .i64 a] w fun e w'=>e=.returned (.int .i64 (dU (bT F.bs) a))∧Below w.heap.size w w':=by
 have s:Below w.heap.size w (w.alloc (.cells #[.pointer (some ⟨g,0,none⟩)] 107)):=aG _ _;have x:=aI (wW g F.bs F.left F.res F.dead F.done _ (h.below s));have a0:=wL F.bs;have O:=aI s;clear h s;generalize bT F.bs=l at *;have P:=aI (At l a)
 go_enter Tryz.func225,Tryz.ntmps225
 go_wp2_with fail
 refine x.out.mono ?_;rintro e i ⟨v,rfl,⟨y,_⟩,z⟩;have A:Hid (Below w.heap.size w i):=O.out.trans (z.mono (by simp));obtain⟨ad,c,rfl,B⟩:=iE y;have Q:=aI B;obtain⟨C,D⟩:∃C,C=dU l a:=⟨_,rfl⟩;have a1:=aI D;generalize E:l.length=q at *;have G:=aI E;clear B E y z x D;go_wp2
 go_loopw [5,11] (fun n t wr=>∃ (k:Nat),k≤q∧t=.int .i64 k∧n=.int .i64 (dU (l.take k) a)∧Below i.heap.size i wr) (fun _ t _=>q-(intOf t).toNat)
 case atStart=>exact⟨0,by omega,rfl,rfl,Below.refl _ _⟩
 case round=>
  obtain⟨k,a2,rfl,rfl,b⟩:=hrel;have a3:=P.out k
  by_cases R:k<q
  ·obtain⟨r,u⟩:∃r,l[k]?=some r:=⟨l[k]'(by rw[G.out];exact R),List.getElem?_eq_getElem _⟩;obtain⟨j,S,m,H,I,J,L,M⟩:=Q.out k r u;subst S;have T:=(b.cell (p:=⟨j,k*5,none⟩) m).trans H;have U:=(b.cell (p:=⟨j,k*5+1,none⟩) m).trans I;have V:=(b.cell (p:=⟨j,k*5+2,none⟩) m).trans J;have W:=(b.cell (p:=⟨j,k*5+3,none⟩) m).trans L;have X:=(b.cell (p:=⟨j,k*5+4,none⟩) m).trans M;have d:=aI (sK l a k r u);have N:Hid (∀o,Below i.heap.size i (wr.alloc o)):=fun o=>b.alloc b.size o
   clear u H I J L M b;generalize dU (l.take k) a=a4 at *;generalize r 0=p0 at T;generalize r 1=p1 at U d;generalize r 2=p2 at V;generalize r 3=p3 at W;generalize r 4=a5 at X
   by_cases f:p1=a
   ·have Y:(p1 == a)=true:=by simp[f]
    rw[if_pos f]at d;clear f;go_wp2
    go_roundw
    case rel=>exact⟨k+1,by omega,by go_num,by rw[d.out],N.out _⟩
    case measure=>simp[intOf];omega
   ·have Y:(p1 == a)=false:=by simp[f]
    rw[if_neg f]at d;clear f;go_wp2
    go_roundw
    case rel=>exact⟨k+1,by omega,by go_num,by rw[d.out],N.out _⟩
    case measure=>simp[intOf];omega
  ·obtain rfl:k=q:=by omega
   have d:Hid (l.take k=l):=by show _=_;rw[←G.out];exact List.take_length
   rw[d.out];have Z:Hid (Below w.heap.size w wr):=A.out.trans (b.mono A.out.size);clear b;go_wp2
   go_ret
   exact⟨rfl,Z.out⟩
def mR(bs:List Int)(i n:Nat)(a:Nat)(st:aQ):Int×aQ:=if(st.cpart i).sys=true then(-1,st.setProc i n { st.proc i n with acc:=dU (bT bs) a })else(4,st)
theorem Ji(b:bN)(g:Nat)(st:aQ)(F:Fl)(i n:Nat)(op:Int)(a:Nat)(w:World)(h:Mo w b g st F)(f:i<st.parts.length)(r:n<(st.part i).procs.length):
 Calls Tryz.prog 220 #[.pointer (some ⟨b.mb,0,none⟩),.pointer (some ⟨b.pb,i*14,none⟩),.pointer (some ⟨b.pr i,n*6,none⟩),.agg #[.int .i64 op,.int .i64 a]] w fun e w'=>e=.returned (.int .i64 (mR F.bs i n a st).1)∧Mo w' b g (mR F.bs i n a st).2 F∧aH (Dm b g st) w w':=by
 obtain⟨c,k⟩:∃c,c=w.alloc (.cells #[.int .i64 op,.int .i64 a] 210):=⟨_,rfl⟩;have l:Below w.heap.size w c:=aE k;have s:c.heap[w.heap.size]?=some (.cells #[.int .i64 op,.int .i64 a] 210 (0,0)):=aF k;have j:=h.mono l;have o:=j.mach.machAt 0;simp only[List.getElem?_toArray,List.getElem?_cons_zero]at o;have p1:=h.mach.partAt i 1 f (by omega);simp only[fK,List.getElem?_cons_succ,List.getElem?_cons_zero]at p1;have R:=aN p1;have u:c.cell? ⟨w.heap.size,1,none⟩=some (.int .i64 a):=aD s;have J:=aN o;have L:=aN u;have A:Hid (Calls Tryz.prog 225 #[.agg #[.pointer (some ⟨g,0,none⟩)],.int .i64 a] c.drew fun e w'=>e=.returned (.int .i64 (dU (bT F.bs) a))∧Below c.heap.size c w'):=(Cg g F a c.drew (j.fl.keep rfl)).mono (fun e w' ⟨M,m⟩=>⟨M,⟨m.os,m.tape,m.output,m.size,m.block⟩⟩);have B:Hid (∀W,Below c.heap.size c W→(W.cell? ⟨b.pr i,n*6+2,none⟩=some (.int .i64 (st.proc i n).acc)∧W.frozen? ⟨b.pr i,n*6+2,none⟩=false)∧∀v,Mo (W.setCell ⟨b.pr i,n*6+2,none⟩ (.int .i64 v)) b g (st.setProc i n { st.proc i n with acc:=v }) F∧aH (Dm b g st) w (W.setCell ⟨b.pr i,n*6+2,none⟩ (.int .i64 v))):=fun W C=>by
  have q:=j.mono C;exact⟨⟨tP q.mach i n f r,aJ (q.mach.procs i f) _⟩,fun v=>⟨(q.setAcc i n v f r).1,((aH.ofBelow l).andThen (aH.ofBelow C)).andThen (q.setAcc i n v f r).2⟩⟩
 have N:¬b.pr i=b.mb:=bG (h.mach.procs i f) h.mach.mach (by decide);have O:¬b.pr i=w.heap.size:=by have:=lt_of_block (h.mach.procs i f);omega
 have S:¬b.mb=b.pr i:=fun e=>N e.symm
 have T:¬w.heap.size=b.pr i:=fun e=>O e.symm
 obtain⟨D,d⟩:∃D,D=mR F.bs i n a st:=⟨_,rfl⟩;rw[←d];unfold mR at d;have E:=aI k;have P:=aI j;have Q:=aI l;cases hsy:(st.cpart i).sys with
 | false=>
  rw[hsy]at p1 d;rw[if_neg (by decide)]at d;have x:=aI d;clear h j l s k d hsy A B
  go_enter Tryz.func220,Tryz.ntmps220
  go_wp2
  go_ret
  rw[x.out,←E.out];exact⟨rfl,P.out,aH.ofBelow Q.out⟩
 | true=>
  rw[hsy]at p1 d;rw[if_pos rfl]at d;have x:=aI d;clear h j l s k d hsy;generalize dU (bT F.bs) a=G at *;generalize (st.proc i n).acc=U at *
  go_enter Tryz.func220,Tryz.ntmps220
  go_wp2_with fail
  rw[←E.out]
  go_region_held (fun W:World=>W.cell? ⟨b.mb,0,none⟩=some (.pointer (some ⟨g,0,none⟩))∧W.cell? ⟨w.heap.size,1,none⟩=some (.int .i64 a))
   ((first| (with_reducible assumption)| exact⟨o,u⟩| (go_keep;done)))
   (first| (go_at_call 225;refine A.out.mono ?_;rintro e y ⟨rfl,z⟩;have V:y.cell? ⟨b.mb,0,none⟩=some (.pointer (some ⟨g,0,none⟩))∧y.cell? ⟨w.heap.size,1,none⟩=some (.int .i64 a):=⟨(z.cell (p:=⟨b.mb,0,none⟩) J).trans o,(z.cell (p:=⟨w.heap.size,1,none⟩) L).trans u⟩;obtain⟨⟨X,Y⟩,H⟩:=B.out y z;have I:=aI H;clear H))
  all_goals (go_wp2;go_ret;rw[x.out];exact⟨rfl,(I.out G).1,(I.out G).2⟩)
theorem Mo.setQueue{w w':World}{c:bN}{g:Nat}{st:aQ}{F:Fl}(h:Mo w c g st F)(a:Nat)(d:a<st.cf.chans.length)(f:aH (·=c.ch a) w w')(q:List Int)
 (i:∃s r,w'.heap[c.ch a]?=some (.chan (st.cf.chans.getD a default).depth.toNat (q.map (Value.int .i64)).toArray false s r false)):Mo w' c g { st with queues:=st.queues.set a q } F∧aH (Dm c g st) w w':=by
 obtain⟨k,l,j⟩:=h.mach.queue a d;refine⟨⟨h.mach.setQueue h.lay a d h.ok.qlen f q i,h.lay,⟨h.ok.good,h.ok.len,h.ok.part,by simpa using h.ok.qlen⟩,h.fl.keep (f.block g h.fl.lt (fun e=>fX h.fl.blk j e)),h.flok⟩,f.to (fun b e=>.inr (.inr (.inr (.inl ⟨a,d,e⟩))))⟩
def mQ(i n a:Nat)(st:aQ):Int×aQ:=
 if fI st i a=true then(-1,{ st with queues:=if((st.queues.getD a []).length:Int)<(st.cf.chans.getD a default).depth then st.queues.set a (st.queues.getD a []++[(st.proc i n).acc])else st.queues })else(4,st)
theorem Lj(j:bN)(g:Nat)(st:aQ)(F:Fl)(i n:Nat)(op:Int)(a:Nat)(w:World)(h:Mo w j g st F)(P:i<st.parts.length)(b7:n<(st.part i).procs.length):
 Calls Tryz.prog 218 #[.pointer (some ⟨j.mb,0,none⟩),.pointer (some ⟨j.pb,i*14,none⟩),.pointer (some ⟨j.pr i,n*6,none⟩),.agg #[.int .i64 op,.int .i64 a]] w fun e w'=>e=.returned (.int .i64 (mQ i n a st).1)∧Mo w' j g (mQ i n a st).2 F∧aH (Dm j g st) w w':=by
 obtain⟨s,y⟩:∃s,s=w.alloc (.cells #[.int .i64 op,.int .i64 a] 210):=⟨_,rfl⟩;have z:Below w.heap.size w s:=aE y;have A:s.heap[w.heap.size]?=some (.cells #[.int .i64 op,.int .i64 a] 210 (0,0)):=aF y;have u:=h.mono z;have B:=u.mach.machAt 5;simp only[List.getElem?_toArray,List.getElem?_cons_succ,List.getElem?_cons_zero]at B;have p0:=u.mach.partAt i 0 P (by omega);simp only[fK,List.getElem?_cons_zero,Nat.add_zero]at p0;have H:s.cell? ⟨w.heap.size,1,none⟩=some (.int .i64 a):=aD A;have b8:=aN B;have b9:=aN p0;have c0:=aN H;obtain⟨ι,d5,f,m,v⟩:=lA s;have Q:Hid (∃i,s.drew=f i):=v _ (Below.refl _ _).drew;have c1:∀d,(f d).cell? ⟨w.heap.size,1,none⟩=some (.int .i64 a):=fun d=>((m d).cell (p:=⟨w.heap.size,1,none⟩) c0).trans H
 have c2:∀d,(f d).cell? ⟨j.mb,5,none⟩=some (.slice (some ⟨j.cb,0,none⟩) st.cf.chans.length st.cf.chans.length):=fun d=>((m d).cell (p:=⟨j.mb,5,none⟩) b8).trans B
 have d6:∀d,(f d).cell? ⟨j.pb,i*14,none⟩=some (.int .i64 i):=fun d=>((m d).cell (p:=⟨j.pb,i*14,none⟩) b9).trans p0
 have L:Hid (∀d,Below w.heap.size w (f d)):=fun d=>z.trans ((m d).mono z.size)
 have l:Hid (∀d,Mo (f d) j g st F):=fun d=>u.mono (m d)
 have C:Hid (∀d,Calls Tryz.prog 216 #[.agg #[.slice (some ⟨j.cb,0,none⟩) st.cf.chans.length st.cf.chans.length],.int .i64 a] (f d) fun e w'=>e=.returned (.bool (decide (0≤(a:Int))&&decide ((a:Int)<st.cf.chans.length)))∧∃k,w'=f k):=fun d=>Calls.inClass m v d (uZ j.cb _ a _)
 have M:(decide (0≤(a:Int))&&decide ((a:Int)<st.cf.chans.length))=decide (a<st.cf.chans.length):=by simp
 rw[M]at C;obtain⟨q,r⟩:∃q,q=mQ i n a st:=⟨_,rfl⟩;rw[←r];have R:=aI y
 by_cases o:a<st.cf.chans.length
 ·have T:=u.mach.chanC a 0 o (by omega);have d7:=aN T;have U:Hid (∀d,Calls Tryz.prog 210 #[.agg #[.slice (some ⟨j.cb,0,none⟩) st.cf.chans.length st.cf.chans.length],.int .i64 a] (f d) fun e w'=>e=.returned (.pointer (some ⟨j.cb,a*3,none⟩))∧∃k,w'=f k):=fun d=>Calls.inClass m v d (sB j.cb _ a _ o)
  have c3:∀d,(f d).cell? ⟨j.cb,a*3,none⟩=some (.int .i64 (st.cf.chans.getD a default).src):=fun d=>by
   have:=(l.out d).mach.chanC a 0 o (by omega)
   simpa[jS]using this
  have c4:∀d,(f d).cell? ⟨j.cb,a*3+1,none⟩=some (.int .i64 (st.cf.chans.getD a default).dst):=fun d=>by
   have:=(l.out d).mach.chanC a 1 o (by omega)
   simpa[jS]using this
  have c5:∀d,(f d).cell? ⟨j.cb,a*3+2,none⟩=some (.chan (some (j.ch a))):=fun d=>by
   have:=(l.out d).mach.chanC a 2 o (by omega)
   simpa[jS]using this
  have c6:∀d,(f d).cell? ⟨j.pr i,n*6+2,none⟩=some (.int .i64 (st.proc i n).acc):=fun d=>tP (l.out d).mach i n P b7
  rw[decide_eq_true o]at C
  by_cases D:(st.cf.chans.getD a default).src=i
  ·have V:fI st i a=true:=by unfold fI;simp only[decide_eq_true_eq];exact⟨by omega,by simpa using D⟩
   have c7:((st.cf.chans.getD a default).src != (i:Int))=false:=by rw[D];simp
   obtain⟨S,N⟩:∃S:World→Prop,S=fun W=>W.cell? ⟨j.mb,5,none⟩=some (.slice (some ⟨j.cb,0,none⟩) st.cf.chans.length st.cf.chans.length)∧W.cell? ⟨w.heap.size,1,none⟩=some (.int .i64 a)∧W.cell? ⟨j.cb,a*3,none⟩=some (.int .i64 (st.cf.chans.getD a default).src)∧W.cell? ⟨j.cb,a*3+1,none⟩=some (.int .i64 (st.cf.chans.getD a default).dst)∧W.cell? ⟨j.cb,a*3+2,none⟩=some (.chan (some (j.ch a)))∧W.cell? ⟨j.pr i,n*6+2,none⟩=some (.int .i64 (st.proc i n).acc):=⟨_,rfl⟩
   have X:Hid (∀W,S W→W.cell? ⟨j.mb,5,none⟩=some (.slice (some ⟨j.cb,0,none⟩) st.cf.chans.length st.cf.chans.length)∧W.cell? ⟨w.heap.size,1,none⟩=some (.int .i64 a)∧W.cell? ⟨j.cb,a*3,none⟩=some (.int .i64 (st.cf.chans.getD a default).src)∧W.cell? ⟨j.cb,a*3+1,none⟩=some (.int .i64 (st.cf.chans.getD a default).dst)∧W.cell? ⟨j.cb,a*3+2,none⟩=some (.chan (some (j.ch a)))∧W.cell? ⟨j.pr i,n*6+2,none⟩=some (.int .i64 (st.proc i n).acc)):=fun W h=>by rw[N]at h;exact h
   have Y:Hid (∀k,S (f k)):=fun k=>by rw[N];exact⟨c2 k,c1 k,c3 k,c4 k,c5 k,c6 k⟩
   have c8:Hid (∀d,∃k,(f d).drew=f k):=fun d=>v _ ((m d).drew)
   have a4:Hid (∀k,Calls Tryz.prog 224 #[.agg #[.int .i64 (st.cf.chans.getD a default).src,.int .i64 (st.cf.chans.getD a default).dst,.chan (some (j.ch a))],.int .i64 (st.proc i n).acc] (f k) fun e w'=>e=.returned (.tuple #[])∧S w'∧Mo w' j g q.2 F∧aH (Dm j g st) w w'):=fun k=>by
    obtain⟨Z,a0,a1⟩:=(l.out k).mach.queue a o;have c9:q.2={ st with queues:=if((st.queues.getD a []).length:Int)<(st.cf.chans.getD a default).depth then st.queues.set a (st.queues.getD a []++[(st.proc i n).acc])else st.queues }:=by rw[r];unfold mQ;rw[if_pos V]
    rw[c9];have a5:∀W,(∀b c t,(f k).heap[b]?=some (Obj.cells c t (0,0))→W.heap[b]?=(f k).heap[b]?)→S W:=fun W E=>by
     have x:=Y.out k;rw[N]at x ⊢;have d0:(f k).heap[w.heap.size]?=some (.cells #[.int .i64 op,.int .i64 a] 210 (0,0)):=((m k).block _ (lt_of_block A)).trans A;exact⟨(World.cell?_of_block (E _ _ _ (l.out k).mach.mach)).trans x.1,(World.cell?_of_block (E _ _ _ d0)).trans x.2.1,(World.cell?_of_block (E _ _ _ (l.out k).mach.chans)).trans x.2.2.1,(World.cell?_of_block (E _ _ _ (l.out k).mach.chans)).trans x.2.2.2.1,(World.cell?_of_block (E _ _ _ (l.out k).mach.chans)).trans x.2.2.2.2.1,(World.cell?_of_block (E _ _ _ ((l.out k).mach.procs i P))).trans x.2.2.2.2.2⟩
    have d8:=(l.out k).ok.good.chans (st.cf.chans.getD a default) (dB o)
    by_cases a6:((st.queues.getD a []).length:Int)<(st.cf.chans.getD a default).depth
    ·rw[if_pos a6];refine(Lo (j.ch a) _ Z a0 (st.proc i n).acc _ _ _ (f k) a1 (by simp only[List.size_toArray,List.length_map];omega)).mono ?_;rintro e w' ⟨rfl,I,J⟩;have a7:=(l.out k).setQueue a o J (st.queues.getD a []++[(st.proc i n).acc]) ⟨Z+1,a0,by rw[I];simp⟩;exact⟨rfl,a5 w' (fun b c t O=>J.block b (lt_of_block O) (fun e=>fX O a1 e)),a7.1,(aH.ofBelow (L.out k)).andThen a7.2⟩
    ·rw[if_neg a6];refine(Iq (j.ch a) _ Z a0 (st.proc i n).acc _ _ _ (f k) a1 (by simp only[List.size_toArray,List.length_map];omega)).mono ?_;rintro e w' ⟨rfl,I⟩;exact⟨rfl,a5 w' (fun b c t O=>I.block b (lt_of_block O)),(l.out k).mono I,(aH.ofBelow (L.out k)).andThen (aH.ofBelow I)⟩
   have a8:Hid (q.1=-1):=by show _=_;rw[r];unfold mQ;rw[if_pos V]
   obtain⟨r1,d9⟩:=q;simp only at a8 a4;generalize (st.cf.chans.getD a default).src=a9 at *;generalize (st.cf.chans.getD a default).dst=b0 at *;generalize st.cf.chans.length=G at *;generalize (st.proc i n).acc=b1 at *;clear h u r m v B p0 H T M D z A y V N
   go_enter Tryz.func218,Tryz.ntmps218
   go_wp2_with fail
   rw[←R.out];go_wp2_with fail
   refine bV f (by kernel_rfl) (by kernel_rfl) Q.out ?_
   repeat (go_big_quiet_step (first| (go_at_call 216;with_reducible exact C.out _)| (go_at_call 210;with_reducible exact U.out _)))
   refine wpQuiet_nil ?_;rintro _ ⟨d,rfl⟩;obtain⟨b2,a2⟩:=c8.out d;have d1:=aI (X.out _ (by rw[a2];exact Y.out b2:S (f d).drew));have d2:Hid (Calls Tryz.prog 210 #[.agg #[.slice (some ⟨j.cb,0,none⟩) G G],.int .i64 a] (f d).drew fun e w'=>e=.returned (.pointer (some ⟨j.cb,a*3,none⟩))∧∃k,w'=f k):=by rw[a2];exact U.out b2
   clear a2;go_wp2_with fail
   go_region_held (fun W:World=>W.cell? ⟨j.mb,5,none⟩=some (.slice (some ⟨j.cb,0,none⟩) G G)∧W.cell? ⟨w.heap.size,1,none⟩=some (.int .i64 a)∧W.cell? ⟨j.cb,a*3,none⟩=some (.int .i64 a9)∧W.cell? ⟨j.cb,a*3+1,none⟩=some (.int .i64 b0)∧W.cell? ⟨j.cb,a*3+2,none⟩=some (.chan (some (j.ch a)))∧W.cell? ⟨j.pr i,n*6+2,none⟩=some (.int .i64 b1))
    ((first| (with_reducible assumption)| (with_reducible exact d1.out)))
    (first
    | (go_at_call 210;refine d2.out.mono ?_;rintro e d3 ⟨rfl,k,rfl⟩;have e0:=X.out _ (Y.out k))
    | (go_at_call 224;refine(a4.out _).mono ?_;rintro e d3 ⟨rfl,b3,b4,b5⟩;have e1:=X.out _ b3))
   all_goals (
    have b6:=aI (And.intro b4 b5);clear b4 b5 b3;go_wp2
    go_ret
    exact⟨(by have d4:=a8.out;subst d4;rfl),b6.out.1,b6.out.2⟩)
  ·have a3:Hid (q=(4,st)):=by
    show _=_
    rw[r];unfold mQ;rw[if_neg];unfold fI;simp only[decide_eq_true_eq];rintro⟨_,J⟩;exact D (by simpa using J)
   have c7:((st.cf.chans.getD a default).src != (i:Int))=true:=by rw[bne_iff_ne];exact D
   generalize (st.cf.chans.getD a default).src=a9 at *;generalize (st.cf.chans.getD a default).dst=b0 at *;generalize st.cf.chans.length=G at *;generalize (st.proc i n).acc=b1 at *;clear h u r m v B p0 H T M D z A y
   go_enter Tryz.func218,Tryz.ntmps218
   go_wp2_with fail
   rw[←R.out];go_wp2_with fail
   refine bV f (by kernel_rfl) (by kernel_rfl) Q.out ?_
   repeat (go_big_quiet_step (first| (go_at_call 216;with_reducible exact C.out _)| (go_at_call 210;with_reducible exact U.out _)))
   refine wpQuiet_nil ?_;rintro _ ⟨d,rfl⟩;go_wp2
   go_ret
   rw[a3.out];exact⟨rfl,l.out d,aH.ofBelow (L.out d)⟩
 ·have a3:Hid (q=(4,st)):=by
   show _=_
   rw[r];unfold mQ;rw[if_neg];unfold fI;simp only[decide_eq_true_eq];rintro⟨J,_⟩;omega
  rw[decide_eq_false o]at C;generalize st.cf.chans.length=G at *;clear h u r m v B p0 H M z A y
  go_enter Tryz.func218,Tryz.ntmps218
  go_wp2_with fail
  rw[←R.out];go_wp2_with fail
  refine bV f (by kernel_rfl) (by kernel_rfl) Q.out ?_
  repeat (go_big_quiet_step (first| (go_at_call 216;with_reducible exact C.out _)))
  refine wpQuiet_nil ?_;rintro _ ⟨d,rfl⟩;go_wp2
  go_ret
  rw[a3.out];exact⟨rfl,l.out d,aH.ofBelow (L.out d)⟩
end Go.Proofs.YtnjlbgolnbdkaaaGreat
