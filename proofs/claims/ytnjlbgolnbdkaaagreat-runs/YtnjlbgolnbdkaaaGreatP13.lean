/- All, with short names -/
import Derived.Test.YtnjlbgolnbdkaaaGreatP12
import Derived.Deep.AppendLies
set_option maxRecDepth 100000
set_option maxHeartbeats 16000000
namespace Go.Proofs.YtnjlbgolnbdkaaaGreat
open Go Go.RowKit
section
open Go.RowKit
instance:Inhabited Pt:=⟨⟨false,0,0,[],[]⟩⟩
instance:Inhabited Pr:=⟨⟨0,[]⟩⟩
instance:Inhabited Ch:=⟨⟨0,0,0⟩⟩
instance:Inhabited cQ:=⟨dC⟩
instance:Inhabited fF:=⟨⟨0,[],[],0⟩⟩
def eH(n:Nat)(f:Nat→List Value):List Value:=(List.range n).flatMap f
theorem jQ(n:Nat)(f:Nat→List Value):eH (n+1) f=eH n f++f n:=by
 unfold eH;rw[List.range_succ,List.flatMap_append];simp
theorem mG(n a:Nat)(f:Nat→List Value)(b:∀i,i<n→(f i).length=a):(eH n f).length=n*a:=by
 induction n with
 | zero=>simp[eH]
 | succ n ih=>rw[jQ,List.length_append,ih (fun i c=>b i (by omega)),b n (by omega),Nat.add_mul];omega
theorem jI(n a:Nat)(f:Nat→List Value)(b:∀i,i<n→(f i).length=a)(i k:Nat)(c:i<n)(l:k<a):(eH n f)[i*a+k]?=(f i)[k]?:=by
 induction n with
 | zero=>omega
 | succ n ih=>
  have d:=mG n a f (fun i c=>b i (by omega));rw[jQ]
  by_cases h:i<n
  ·have j:(i+1)*a≤n*a:=Nat.mul_le_mul_right a h;rw[Nat.add_mul]at j;rw[List.getElem?_append_left (by omega)];exact ih (fun i c=>b i (by omega)) h
  ·obtain rfl:i=n:=by omega
   rw[List.getElem?_append_right (by omega),d,show i*a+k-i*a=k from by omega]
theorem dV(n:Nat)(f g:Nat→List Value)(h:∀i,i<n→f i=g i):eH n f=eH n g:=by
 induction n with
 | zero=>rfl
 | succ n ih=>rw[jQ,jQ,ih (fun i a=>h i (by omega)),h n (by omega)]
theorem rA(n b:Nat)(f:Nat→List Value)(d:∀i,i<n→(f i).length=b)(i k:Nat)(v:Value)(l:i<n)(s:k<b):(eH n f).set (i*b+k) v=eH n (fun c=>if c=i then(f i).set k v else f c):=by
 have m:∀c,c<n→(if c=i then(f i).set k v else f c).length=b:=fun c u=>by
  split
  ·rw[List.length_set];exact d i l
  ·exact d c u
 apply List.ext_getElem?
 intro a
 by_cases o:a<n*b
 ·have x:0<b:=by omega
  have e:a=a / b*b+a % b:=by have:=Nat.div_add_mod a b;rw[Nat.mul_comm]at this;omega
  have h:a / b<n:=Nat.div_lt_of_lt_mul (by rw[Nat.mul_comm];exact o);have j:a % b<b:=Nat.mod_lt _ x;generalize a / b=p at e h;generalize a % b=q at e j;subst e;rw[jI n b _ m p q h j]
  by_cases r:p=i
  ·subst r;rw[if_pos rfl]
   by_cases y:q=k
   ·subst y;rw[List.getElem?_set_self (by rw[mG n b f d];exact o),List.getElem?_set_self (by rw[d p l];exact s)]
   ·rw[List.getElem?_set_ne (by omega),List.getElem?_set_ne (by omega),jI n b f d p q h j]
  ·rw[if_neg r,List.getElem?_set_ne,jI n b f d p q h j];intro A;rcases Nat.lt_or_ge p i with z| B
   ·have:(p+1)*b≤i*b:=Nat.mul_le_mul_right b z;rw[Nat.add_mul]at this;omega
   ·have:(i+1)*b≤p*b:=Nat.mul_le_mul_right b (by omega);rw[Nat.add_mul]at this;omega
 ·rw[List.getElem?_eq_none (by rw[List.length_set,mG n b f d];omega),List.getElem?_eq_none (by rw[mG n b _ m];omega)]
structure bN where
 mb:Nat
 pb:Nat
 wb:Nat
 cb:Nat
 wd:Nat→Nat
 pr:Nat→Nat
 tn:Nat→Nat
 code:Nat→Nat→Value
 ch:Nat→Nat
def fD(p:Pt)(k:Nat):Int:=(p.procs.getD k default).prio
def fK(a b d:Nat)(i:Nat)(c:Pt)(p:fF):List Value:=
 [.int .i64 i,.bool c.sys,.int .i64 c.limit,.int .i64 (c.acts.getD 0 0),.int .i64 (c.acts.getD 1 0),.int .i64 (c.acts.getD 2 0),.int .i64 (c.acts.getD 3 0),.int .i64 (c.acts.getD 4 0),.int .i64 (c.acts.getD 5 0),.int .i64 p.mode,
  .slice (some ⟨a,0,none⟩) p.words.length p.words.length,.slice (some ⟨b,0,none⟩) p.procs.length p.procs.length,.slice (some ⟨d,0,none⟩) p.procs.length p.procs.length,.int .i64 p.watch]
abbrev lF(L:bN)(i:Nat)(c:Pt)(p:fF):List Value:=fK (L.wd i) (L.pr i) (L.tn i) i c p
def jS(L:bN)(a:Nat)(c:Ch):List Value:=[.int .i64 c.src,.int .i64 c.dst,.chan (some (L.ch a))]
def eX(x:Wn):List Value:=[.int .i64 x.part,.int .i64 x.first,.int .i64 x.many]
def rE(L:bN)(g:Nat)(st:aQ):Obj:=.cells #[.pointer (some ⟨g,0,none⟩),.int .i64 st.cf.frame,.int .i64 st.cf.watch,.slice (some ⟨L.pb,0,none⟩) st.parts.length st.parts.length,.slice (some ⟨L.wb,0,none⟩) st.cf.wins.length st.cf.wins.length,.slice (some ⟨L.cb,0,none⟩) st.cf.chans.length st.cf.chans.length,.int .i64 st.now,.bool st.dead] 145 (0,0)
structure aU(w:World)(L:bN)(g:Nat)(st:aQ):Prop where
 mach:w.heap[L.mb]?=some (rE L g st)
 parts:w.heap[L.pb]?=some (.cells (eH st.parts.length fun i=>lF L i (st.cf.parts.getD i default) (st.parts.getD i default)).toArray 120 (0,0))
 words:∀i,i<st.parts.length→w.heap[L.wd i]?=some (.cells ((st.parts.getD i default).words.map (Value.int .i64)).toArray 3 (0,0))
 procs:∀i,i<st.parts.length→w.heap[L.pr i]?=some (.cells (eH (st.parts.getD i default).procs.length fun k=>aY (L.code i k) ((st.parts.getD i default).procs.getD k default)).toArray 166 (0,0))
 turns:∀i,i<st.parts.length→w.heap[L.tn i]?=some (.cells ((fM (st.parts.getD i default).procs.length (fD (st.cf.parts.getD i default))).map (Value.int .i64)).toArray 3 (0,0))
 wins:w.heap[L.wb]?=some (.cells (st.cf.wins.flatMap eX).toArray 131 (0,0))
 chans:w.heap[L.cb]?=some (.cells (eH st.cf.chans.length fun j=>jS L j (st.cf.chans.getD j default)).toArray 139 (0,0))
 queue:∀j,j<st.cf.chans.length→∃s r,w.heap[L.ch j]?=some (.chan (st.cf.chans.getD j default).depth.toNat ((st.queues.getD j []).map (Value.int .i64)).toArray false s r false)
 code:∀i k,i<st.parts.length→k<(st.parts.getD i default).procs.length→iV 0 (L.code i k) ((st.cf.parts.getD i default).procs.getD k default).code w
theorem aU.keep{w w':World}{L:bN}{g:Nat}{st:aQ}(h:aU w L g st)(a:∀ (b:Nat) (o:Obj),w.heap[b]?=some o→w'.heap[b]?=some o):aU w' L g st:=by
 refine⟨a _ _ h.mach,a _ _ h.parts,fun i c=>a _ _ (h.words i c),fun i c=>a _ _ (h.procs i c),fun i c=>a _ _ (h.turns i c),a _ _ h.wins,a _ _ h.chans,fun j d=>?_,fun i k c d=>?_⟩
 ·obtain⟨s,r,f⟩:=h.queue j d;exact⟨s,r,a _ _ f⟩
 ·refine aO (h.code i k c d) (fun b e=>?_);obtain⟨cur,f⟩:=cV (h.code i k c d) e;rw[f];exact a _ _ f
structure nI(L:bN)(n m:Nat):Prop where
 wdwd:∀i j,i<n→j<n→L.wd i=L.wd j→i=j
 prpr:∀i j,i<n→j<n→L.pr i=L.pr j→i=j
 wdtn:∀i j,i<n→j<n→L.wd i≠L.tn j
 chch:∀i j,i<m→j<m→L.ch i=L.ch j→i=j
structure eA(st:aQ):Prop where
 good:tR st.cf
 len:st.parts.length=st.cf.parts.length
 part:∀i,i<st.parts.length→(st.parts.getD i default).words.length=(st.cf.parts.getD i default).words.toNat∧(st.parts.getD i default).procs.length=(st.cf.parts.getD i default).procs.length
 qlen:st.queues.length=st.cf.chans.length
end
section
open Go.RowKit
theorem rZ(x n i:Nat)(w:World)(b:i<n):
 Calls Tryz.prog 73 #[.agg #[.slice (some ⟨x,0,none⟩) n n],.int .i64 i] w fun e w'=>e=.returned (.pointer (some ⟨x,i*14,none⟩))∧Below w.heap.size w w':=by
 have a:Hid (Below w.heap.size w (w.alloc (.cells #[.slice (some ⟨x,0,none⟩) n n] 111))):=aG _ _
 go_enter Tryz.func73,Tryz.ntmps73
 go_wp2
 go_ret
 exact⟨by simp,a.out⟩
theorem pX(x n:Nat)(i:Int)(w:World):
 Calls Tryz.prog 72 #[.agg #[.slice (some ⟨x,0,none⟩) n n],.int .i64 i] w fun e w'=>e=.returned (.bool (decide (0≤i)&&decide (i<n)))∧Below w.heap.size w w':=by
 have a:Hid (Below w.heap.size w (w.alloc (.cells #[.slice (some ⟨x,0,none⟩) n n] 111))):=aG _ _
 by_cases h:0≤i
 ·go_enter Tryz.func72,Tryz.ntmps72
  go_wp2
  go_ret
  exact⟨by simp[h],a.out⟩
 ·go_enter Tryz.func72,Tryz.ntmps72
  go_wp2
  go_ret
  exact⟨by rw[decide_eq_false (show ¬ 0≤i by omega)];rfl,a.out⟩
theorem sD(x n i:Nat)(w:World)(b:i<n):
 Calls Tryz.prog 79 #[.agg #[.slice (some ⟨x,0,none⟩) n n],.int .i64 i] w fun e w'=>e=.returned (.pointer (some ⟨x,i*6,none⟩))∧Below w.heap.size w w':=by
 have a:Hid (Below w.heap.size w (w.alloc (.cells #[.slice (some ⟨x,0,none⟩) n n] 118))):=aG _ _
 go_enter Tryz.func79,Tryz.ntmps79
 go_wp2
 go_ret
 exact⟨by simp,a.out⟩
theorem Gc(x n:Nat)(i:Int)(w:World):
 Calls Tryz.prog 76 #[.agg #[.slice (some ⟨x,0,none⟩) n n],.int .i64 i] w fun e w'=>e=.returned (.bool (decide (0≤i)&&decide (i<n)))∧Below w.heap.size w w':=by
 have a:Hid (Below w.heap.size w (w.alloc (.cells #[.slice (some ⟨x,0,none⟩) n n] 118))):=aG _ _
 by_cases h:0≤i
 ·go_enter Tryz.func76,Tryz.ntmps76
  go_wp2
  go_ret
  exact⟨by simp[h],a.out⟩
 ·go_enter Tryz.func76,Tryz.ntmps76
  go_wp2
  go_ret
  exact⟨by rw[decide_eq_false (show ¬ 0≤i by omega)];rfl,a.out⟩
theorem Gh(x n:Nat)(w:World):
 Calls Tryz.prog 109 #[.agg #[.slice (some ⟨x,0,none⟩) n n]] w fun e w'=>e=.returned (.int .i64 n)∧Below w.heap.size w w':=by
 have a:Hid (Below w.heap.size w (w.alloc (.cells #[.slice (some ⟨x,0,none⟩) n n] 118))):=aG _ _
 go_enter Tryz.func109,Tryz.ntmps109
 go_wp2
 go_ret
 exact⟨by simp,a.out⟩
theorem zK(x n:Nat)(a:List Value)(w:World)(f:a.length=n*1)(k:∀h∈a,h.oneCell'=true)(C:1≤n)(D:n≤16)(c:w.heap[x]?=some (.cells a.toArray 3 (0,0))):
 Calls Tryz.prog 150 #[.slice (some ⟨x,0,none⟩) n n] w fun e w'=>∃b cap,e=.returned (.slice (some ⟨b,0,none⟩) n cap)∧w'.ownsRow w.heap.size 3 1 (.slice (some ⟨b,0,none⟩) n cap) n a∧Below w.heap.size w w':=by
 obtain⟨l,m,o,p,q⟩:=info_parts Tryz.info3;have E:∀W:World,(binOp .eql 40 (.slice (some ⟨x,0,none⟩) n n) (.slice none 0 0)).run Tryz.prog W=.ok (.bool false) W:=fun _=>by rfl
 have r:=aI c;have s:=aI f;have u:Hid ((w.alloc (.cells #[] 3)).ownsRow w.heap.size 3 1 (.slice (some ⟨w.heap.size,0,none⟩) 0 0) 0 []):=⟨rfl,.inr ⟨w.heap.size,0,#[],rfl,Nat.le_refl _,heap_alloc_new w _,Nat.le_refl _,by decide,rfl,rfl⟩⟩;have v:=aR c;clear c f
 go_enter Tryz.func150,Tryz.ntmps150
 go_wp2_with (at_builtin;go_must (refine wpList_append_lies _ rfl (.tmp 5) (.tmp 6) 40 rfl w.heap.size 3 l (.int .i64 0) 1 8 Tryz.underlying40 m o p q rfl (by decide) (.slice (some ⟨w.heap.size,0,none⟩) 0 0) 0 [] rfl u.out ⟨x,0,none⟩ n n a (by rfl) s.out (fun y h z=>?_) k (by omega) (by unfold maxLen;omega) (by omega) (by simp) _ rfl ?_))
 ·rw[Addr.add_mid,Nat.zero_add,aT (Below.heap_alloc w _ x v) y,cell_of_row _ _ _ _ _ _ r.out]
  simpa using z
 ·intro b cap d i j _ _;have A:Hid (d.ownsRow w.heap.size 3 1 (.slice (some ⟨b,0,none⟩) n cap) n a):=(by simpa using i:d.ownsRow w.heap.size 3 1 (.slice (some ⟨b,0,none⟩) n cap) n a);have B:Hid (Below w.heap.size w d):=(Below.refl _ _).grown (aZ j) (Nat.le_refl _) (by simp[Value.ownBlock]);clear i j;go_wp2
  go_ret
  exact⟨b,cap,by simp,A.out,B.out⟩
theorem vU(x n:Nat)(a:List Value)(w:World)(f:a.length=n*3)(k:∀h∈a,h.oneCell'=true)(C:1≤n)(D:n≤16)(c:w.heap[x]?=some (.cells a.toArray 47 (0,0))):
 Calls Tryz.prog 151 #[.slice (some ⟨x,0,none⟩) n n] w fun e w'=>∃b cap,e=.returned (.slice (some ⟨b,0,none⟩) n cap)∧w'.ownsRow w.heap.size 47 3 (.slice (some ⟨b,0,none⟩) n cap) n a∧Below w.heap.size w w':=by
 obtain⟨l,m,o,p,q⟩:=info_parts Tryz.info47;have E:∀W:World,(binOp .eql 41 (.slice (some ⟨x,0,none⟩) n n) (.slice none 0 0)).run Tryz.prog W=.ok (.bool false) W:=fun _=>by rfl
 have r:=aI c;have s:=aI f;have u:Hid ((w.alloc (.cells #[] 47)).ownsRow w.heap.size 47 3 (.slice (some ⟨w.heap.size,0,none⟩) 0 0) 0 []):=⟨rfl,.inr ⟨w.heap.size,0,#[],rfl,Nat.le_refl _,heap_alloc_new w _,Nat.le_refl _,by decide,rfl,rfl⟩⟩;have v:=aR c;clear c f
 go_enter Tryz.func151,Tryz.ntmps151
 go_wp2_with (at_builtin;go_must (refine wpList_append_lies _ rfl (.tmp 5) (.tmp 6) 41 rfl w.heap.size 47 l _ 3 24 Tryz.underlying41 m o p q rfl (by decide) (.slice (some ⟨w.heap.size,0,none⟩) 0 0) 0 [] rfl u.out ⟨x,0,none⟩ n n a (by rfl) s.out (fun y h z=>?_) k (by omega) (by unfold maxLen;omega) (by omega) (by simp) _ rfl ?_))
 ·rw[Addr.add_mid,Nat.zero_add,aT (Below.heap_alloc w _ x v) y,cell_of_row _ _ _ _ _ _ r.out]
  simpa using z
 ·intro b cap d i j _ _;have A:Hid (d.ownsRow w.heap.size 47 3 (.slice (some ⟨b,0,none⟩) n cap) n a):=(by simpa using i:d.ownsRow w.heap.size 47 3 (.slice (some ⟨b,0,none⟩) n cap) n a);have B:Hid (Below w.heap.size w d):=(Below.refl _ _).grown (aZ j) (Nat.le_refl _) (by simp[Value.ownBlock]);clear i j;go_wp2
  go_ret
  exact⟨b,cap,by simp,A.out,B.out⟩
theorem Br(x n:Nat)(a:List Value)(w:World)(l:a.length=n*1)(d:∀u∈a,u.oneCell'=true)(m:1≤n)(o:n≤16)(f:w.heap[x]?=some (.cells a.toArray 3 (0,0))):
 Calls Tryz.prog 111 #[.agg #[.slice (some ⟨x,0,none⟩) n n]] w fun e w'=>∃b cap,e=.returned (.slice (some ⟨b,0,none⟩) n cap)∧w'.ownsRow w.heap.size 3 1 (.slice (some ⟨b,0,none⟩) n cap) n a∧Below w.heap.size w w':=by
 have c:Below w.heap.size w (w.alloc (.cells #[.slice (some ⟨x,0,none⟩) n n] 115)):=aG _ _;have h:=aI (zK x n a _ l d m o (eT c f));have p:=aI c;clear f c d
 go_enter Tryz.func111,Tryz.ntmps111
 go_wp2_with fail
 refine h.out.mono ?_;rintro e i ⟨b,cap,rfl,j,k⟩;have q:Hid (i.ownsRow w.heap.size 3 1 (.slice (some ⟨b,0,none⟩) n cap) n a∧Below w.heap.size w i):=⟨bI j (by simp),p.out.trans (k.mono (by simp))⟩;clear j k h;go_wp2
 go_ret
 exact⟨b,cap,rfl,q.out⟩
theorem wY(x n:Nat)(a:List Value)(w:World)(l:a.length=n*3)(d:∀u∈a,u.oneCell'=true)(m:1≤n)(o:n≤16)(f:w.heap[x]?=some (.cells a.toArray 47 (0,0))):
 Calls Tryz.prog 112 #[.agg #[.slice (some ⟨x,0,none⟩) n n]] w fun e w'=>∃b cap,e=.returned (.slice (some ⟨b,0,none⟩) n cap)∧w'.ownsRow w.heap.size 47 3 (.slice (some ⟨b,0,none⟩) n cap) n a∧Below w.heap.size w w':=by
 have c:Below w.heap.size w (w.alloc (.cells #[.slice (some ⟨x,0,none⟩) n n] 213)):=aG _ _;have h:=aI (vU x n a _ l d m o (eT c f));have p:=aI c;clear f c d
 go_enter Tryz.func112,Tryz.ntmps112
 go_wp2_with fail
 refine h.out.mono ?_;rintro e i ⟨b,cap,rfl,j,k⟩;have q:Hid (i.ownsRow w.heap.size 47 3 (.slice (some ⟨b,0,none⟩) n cap) n a∧Below w.heap.size w i):=⟨bI j (by simp),p.out.trans (k.mono (by simp))⟩;clear j k h;go_wp2
 go_ret
 exact⟨b,cap,rfl,q.out⟩
end
section
open Go.RowKit
theorem Sb{α:Type}(l:List α)(a:α)(i:Nat)(h:i<l.length):l.getD i a=l[i]:=by rw[List.getD_eq_getElem?_getD,List.getElem?_eq_getElem h];rfl
section
variable {w w':World} {L:bN} {g:Nat} {st:aQ}
theorem aU.cellP(h:aU w L g st)(i k:Nat)(a:i<st.parts.length)(b:k<14):w.cell? ⟨L.pb,i*14+k,none⟩=(lF L i (st.cf.parts.getD i default) (st.parts.getD i default))[k]?:=by
 rw[cell_of_row _ _ _ _ _ _ h.parts,List.getElem?_toArray];exact jI _ 14 _ (fun _ _=>rfl) i k a b
theorem aU.cellQ(h:aU w L g st)(i k f:Nat)(a:i<st.parts.length)(b:k<(st.parts.getD i default).procs.length)(c:f<6):w.cell? ⟨L.pr i,k*6+f,none⟩=(aY (L.code i k) ((st.parts.getD i default).procs.getD k default))[f]?:=by
 rw[cell_of_row _ _ _ _ _ _ (h.procs i a),List.getElem?_toArray];exact jI _ 6 _ (fun _ _=>rfl) k f b c
theorem aU.below(h:aU w L g st)(a:Below w.heap.size w w'):aU w' L g st:=h.keep (fun _ _ b=>eT a b)
theorem eA.few(h:eA st):1≤st.parts.length∧st.parts.length≤4:=by rw[h.len];exact h.good.few
theorem eA.getD(h:eA st)(i:Nat)(a:i<st.parts.length):sE (st.cf.parts.getD i default):=by
 rw[h.len]at a;rw[List.getD_eq_getElem?_getD,List.getElem?_eq_getElem a];exact h.good.parts _ (List.getElem_mem a)
theorem eA.np(h:eA st)(i:Nat)(a:i<st.parts.length):1≤(st.parts.getD i default).procs.length∧(st.parts.getD i default).procs.length≤2:=by
 rw[(h.part i a).2];exact(h.getD i a).few
theorem eA.nw(h:eA st)(i:Nat)(a:i<st.parts.length):1≤(st.parts.getD i default).words.length∧(st.parts.getD i default).words.length≤16:=by
 have:=(h.getD i a).words;rw[(h.part i a).1];omega
end
def cU(p:cQ):List Value:=[.int .i64 p.next,.int .i64 p.acc,.bool p.stopped]
def elS(p:cQ):El:=⟨fun| 0=>p.next| _=>p.acc,p.stopped,fun _=>none,fun _=>0,fun _=>0,none⟩
theorem Ek(cb:Nat)(L:bN)(g:Nat)(st:aQ)(i k:Nat)(w:World)(h:aU w L g st)(s:eA st)(j:i<st.parts.length)(l:k<(st.parts.getD i default).procs.length)(y:w.cell? ⟨cb,0,none⟩=some (.pointer (some ⟨L.pb,i*14,none⟩))):
 Calls Tryz.prog 110 #[.int .i64 k,.pointer (some ⟨cb,0,none⟩)] w fun e w'=>e=.returned (.agg #[.int .i64 ((st.parts.getD i default).procs.getD k default).next,.int .i64 ((st.parts.getD i default).procs.getD k default).acc,.bool ((st.parts.getD i default).procs.getD k default).stopped])∧Below w.heap.size w w':=by
 have G:=(s.np i j).2;have z:w.cell? ⟨L.pb,i*14+11,none⟩=some (.slice (some ⟨L.pr i,0,none⟩) (st.parts.getD i default).procs.length (st.parts.getD i default).procs.length):=by rw[h.cellP i 11 j (by omega)];rfl
 have c1:w.cell? ⟨L.pr i,k*6+1,none⟩=some (.int .i64 ((st.parts.getD i default).procs.getD k default).next):=by rw[h.cellQ i k 1 j l (by omega)];rfl
 have c2:w.cell? ⟨L.pr i,k*6+2,none⟩=some (.int .i64 ((st.parts.getD i default).procs.getD k default).acc):=by rw[h.cellQ i k 2 j l (by omega)];rfl
 have A:w.cell? ⟨L.pr i,k*6+3,none⟩=some (.bool ((st.parts.getD i default).procs.getD k default).stopped):=by rw[h.cellQ i k 3 j l (by omega)];rfl
 have H:=aN y;have I:=aN z;have r:=aN c1;have u:Below w.heap.size w (w.alloc (.cells #[.int .i64 0,.int .i64 0,.bool false] 47)):=aG _ _;have x:=aI (sD (L.pr i) (st.parts.getD i default).procs.length k (w.alloc (.cells #[.int .i64 0,.int .i64 0,.bool false] 47)) l);have B:=aI u;clear h s u;generalize (st.parts.getD i default).procs.length=np at *;generalize ((st.parts.getD i default).procs.getD k default).next=a at *;generalize ((st.parts.getD i default).procs.getD k default).acc=b at *;generalize ((st.parts.getD i default).procs.getD k default).stopped=c at *
 go_enter Tryz.func110,Tryz.ntmps110
 go_wp2_with fail
 refine x.out.mono ?_;rintro e f ⟨rfl,m⟩;have C:=m.size;simp at C;have n:Hid (Below w.heap.size w f):=B.out.trans (m.mono (by simp));have J:=(n.out.cell (p:=⟨L.pr i,k*6+1,none⟩) r).trans c1;have M:=(n.out.cell (p:=⟨L.pr i,k*6+2,none⟩) r).trans c2;have N:=(n.out.cell (p:=⟨L.pr i,k*6+3,none⟩) r).trans A;have d:f.heap[w.heap.size]?=some (.cells #[.int .i64 0,.int .i64 0,.bool false] 47 (0,0)):=(m.block _ (by simp)).trans (cG rfl);have z0:f.cell? ⟨w.heap.size,0,none⟩=some (.int .i64 0):=aD d;have z1:f.cell? ⟨w.heap.size,1,none⟩=some (.int .i64 0):=aD d;have z2:f.cell? ⟨w.heap.size,2,none⟩=some (.bool false):=aD d;have O:=aJ d 0;have P:=aJ d 1;have Q:=aJ d 2;obtain⟨o,q⟩:∃o,o=((f.setCell ⟨w.heap.size,0,none⟩ (.int .i64 a)).setCell ⟨w.heap.size,1,none⟩ (.int .i64 b)).setCell ⟨w.heap.size,2,none⟩ (.bool c):=⟨_,rfl⟩;have D:Hid (o.heap[w.heap.size]?=some (.cells #[.int .i64 a,.int .i64 b,.bool c] 47 (0,0))):=by show _=_;rw[q];exact aK (aK (aK d 0 _) 1 _) 2 _
 have E:Hid (Below w.heap.size w o):=by
  show Below _ _ _
  rw[q]
  iterate 3 refine Below.thenSet ?_ (Nat.le_refl _) _ _
  exact n.out
 have F:=aI q;clear m d q x;go_wp2
 rw[←F.out];exact bodyPost_ret (v:=.agg #[.int .i64 a,.int .i64 b,.bool c]) (qI Tryz.results110 _ _ _ (by rfl) D.out Tryz.underlying47 (by kernel_rfl)) rfl ⟨rfl,E.out⟩
theorem Hr(cb:Nat)(L:bN)(g:Nat)(st:aQ)(i:Nat)(w:World)(q:aU w L g st)(m:eA st)(f:i<st.parts.length)(n:w.cell? ⟨cb,0,none⟩=some (.pointer (some ⟨L.pb,i*14,none⟩))):
 Calls Tryz.prog 108 #[.int .i64 (st.parts.getD i default).procs.length,.func (.func 110) #[] #[.pointer (some ⟨cb,0,none⟩)]] w fun e w'=>∃d,e=.returned (.agg #[.slice (some ⟨d,0,none⟩) (st.parts.getD i default).procs.length (st.parts.getD i default).procs.length])∧w.heap.size≤d∧w'.heap[d]?=some (.cells ((st.parts.getD i default).procs.flatMap cU).toArray 47 (0,0))∧Below w.heap.size w w':=by
 have A:=(m.np i f).2;refine(zY cb (st.parts.getD i default).procs.length (by omega) (fun _=>False) w (fun _ h=>h.elim) (fun a r W=>r.flatMap Tm=((st.parts.getD i default).procs.take a).flatMap cU∧aH (fun b=>w.heap.size≤b) w W) (fun a r W B c t=>⟨c.1,c.2.trans t (fun i f=>.inl f.1)⟩) (fun a r W j c C=>?_) ⟨by simp,aH.refl _ _⟩).mono ?_
 ·have o:Below w.heap.size w W:=c.2.below (Nat.le_refl _) (fun k l=>l);refine(Ek cb L g st i a W (q.below o) m f j ((aT (o.block cb (aN n)) 0).trans n)).mono ?_;rintro e w' ⟨rfl,p⟩;refine⟨elS ((st.parts.getD i default).procs.getD a default),rfl,⟨?_,c.2.trans (aH.ofBelow (S:=fun _=>False) p) (fun _ h=>h.elim)⟩,aH.ofBelow p⟩;have s:(st.parts.getD i default).procs.getD a default=(st.parts.getD i default).procs[a]:=Sb _ _ _ j;rw[List.flatMap_append,c.1,List.take_add_one,List.getElem?_eq_getElem j,List.flatMap_append,s];rfl
 ·rintro e w' ⟨d,r,rfl,⟨u,v⟩,_,x⟩;obtain⟨y,z⟩:=jW x;refine⟨d,rfl,y,?_,v.below (Nat.le_refl _) (fun k l=>l)⟩;rw[z,show Ku r=_ from u,List.take_length]
end
def eL{S:Type}(r:Bool×S)(f:S→Bool×S):Bool×S:=if r.1=true then f r.2 else r
def loopB{S:Type}(f:Nat→S→Bool×S):Nat→S→Bool×S
 | 0,s=>(true,s)
 | k+1,s=>eL (loopB f k s) (f k)
theorem vY{S:Type}(s:S)(f:S→Bool×S):eL (false,s) f=(false,s):=rfl
theorem kQ{S:Type}(s:S)(f:S→Bool×S):eL (true,s) f=f s:=rfl
theorem iB{S:Type}(f:Nat→S→Bool×S)(s:S)(k n:Nat)(h:k≤n)(a:(loopB f k s).1=false):loopB f n s=loopB f k s:=by
 induction n with
 | zero=>
  obtain rfl:k=0:=by omega
  rfl
 | succ n ih=>
  by_cases e:k=n+1
  ·subst e;rfl
  ·show eL (loopB f n s) (f n)=_
   rw[ih (by omega)];unfold eL;rw[a];simp
structure Fl where
 bs:List Int
 left:Int
 res:Int
 dead:Bool
 done:Int
abbrev fO(w:World)(g:Nat)(F:Fl):Prop:=aS w g F.bs F.left F.res F.dead F.done
structure gU(F:Fl):Prop where
 len:F.bs.length=256
 bytes:cT F.bs
 left:-1≤F.left∧F.left≤1000000
 res:0≤F.res∧F.res≤255
def nA(x a:Int):Int:=bits .and .u8 x a
def vN(x a:Int):Int:=bits .or .u8 x a
theorem Bj(x:Int):0≤IntKind.u8.wrap x∧IntKind.u8.wrap x≤255:=by
 have h:IntKind.u8.wrap x=x % 256:=by simp[IntKind.wrap,IntKind.signed,IntKind.bits]
 rw[h];omega
theorem rD(x a:Int):0≤nA x a∧nA x a≤255:=by
 unfold nA bits;exact Bj _
theorem Dx(x a:Int):0≤vN x a∧vN x a≤255:=by
 unfold vN bits;exact Bj _
def Fl.tally(F:Fl):Fl:={ F with done:=IntKind.i64.wrap (F.done+1),left:=if 0<F.left then F.left-1 else F.left }
def Fl.prog(F:Fl)(a:Nat)(v:Int):Bool×Fl:=
 if F.dead=true then(false,F)
 else if F.left=0 then(false,{ F with bs:=F.bs.set a (nA (F.bs.getD a 0) (vN v F.res)),dead:=true })
 else(true,({ F with bs:=F.bs.set a (nA (F.bs.getD a 0) v) }:Fl).tally)
def qQ(f:Int→Int)(a:Nat)(bs:List Int):Nat→List Int
 | 0=>bs
 | k+1=>(qQ f a bs k).set (a+k) (f ((qQ f a bs k).getD (a+k) 0))
def Fl.erase(F:Fl)(s:Nat):Bool×Fl:=
 if F.dead=true then(false,F)
 else if F.left=0 then(false,{ F with bs:=qQ (fun x=>vN x F.res) (128*s) F.bs 128,dead:=true })
 else(true,({ F with bs:=qQ (fun _=>255) (128*s) F.bs 128 }:Fl).tally)
def Fl.lay(F:Fl)(a:Nat)(sl:List Int):Bool×Fl:=eL (loopB (fun k F=>F.prog (a+(k+1)) (sl.getD (k+1) 0)) 15 F) (fun F=>F.prog a (sl.getD 0 0))
theorem cT.set{bs:List Int}(h:cT bs)(a:Nat)(v:Int)(c:0≤v∧v≤255):cT (bs.set a v):=by
 intro z b;rcases List.mem_or_eq_of_mem_set b with b| rfl
 ·exact h z b
 ·omega
theorem gU.tally{F:Fl}(h:gU F):gU F.tally:=by
 refine⟨h.len,h.bytes,?_,h.res⟩;have:=h.left;simp only[Fl.tally];split<;>omega
theorem gU.prog{F:Fl}(h:gU F)(a:Nat)(v:Int):gU (F.prog a v).2:=by
 unfold Fl.prog;split
 ·exact h
 ·split
  ·exact⟨by simp[h.len],h.bytes.set _ _ (rD _ _),h.left,h.res⟩
  ·exact gU.tally ⟨by simp[h.len],h.bytes.set _ _ (rD _ _),h.left,h.res⟩
theorem Ez(f:Int→Int)(b:∀x,0≤f x∧f x≤255)(a:Nat)(bs:List Int)(h:cT bs)(k:Nat):(qQ f a bs k).length=bs.length∧cT (qQ f a bs k):=by
 induction k with
 | zero=>exact⟨rfl,h⟩
 | succ k ih=>exact⟨by rw[qQ,List.length_set,ih.1],ih.2.set _ _ (b _)⟩
theorem gU.erase{F:Fl}(h:gU F)(s:Nat):gU (F.erase s).2:=by
 have a:=Ez (fun x=>vN x F.res) (fun x=>Dx _ _) (128*s) F.bs h.bytes 128;have b:=Ez (fun _=>255) (fun x=>⟨by decide,by decide⟩) (128*s) F.bs h.bytes 128;unfold Fl.erase;generalize qQ (fun x=>vN x F.res) (128*s) F.bs 128=c at *;generalize qQ (fun _=>255) (128*s) F.bs 128=B at *;split
 ·exact h
 ·split
  ·exact⟨a.1.trans h.len,a.2,h.left,h.res⟩
  ·exact gU.tally ⟨b.1.trans h.len,b.2,h.left,h.res⟩
theorem jO{S:Type}(P:S→Prop){r:Bool×S}{f:S→Bool×S}(h:P r.2)(a:∀s,P s→P (f s).2):P (eL r f).2:=by
 unfold eL;split
 ·exact a _ h
 ·exact h
theorem sR{S:Type}(P:S→Prop)(f:Nat→S→Bool×S)(a:∀k s,P s→P (f k s).2)(k:Nat)(s:S)(h:P s):P (loopB f k s).2:=by
 induction k with
 | zero=>exact h
 | succ k ih=>exact jO P ih (a k)
theorem gU.lay{F:Fl}(h:gU F)(a:Nat)(sl:List Int):gU (F.lay a sl).2:=
 jO gU (sR gU _ (fun _ _ hF=>hF.prog _ _) 15 F h) (fun _ hF=>hF.prog _ _)
def fQ(l:List (Nat→Int)):Int:=l.foldl (fun n r=>max n (r 3)) 0
def lU(bs:List Int)(s:Nat):Nat→Nat
 | 0=>0
 | k+1=>if gQ bs s k=0 then lU bs s k else k+1
def nW(bs:List Int)(s:Nat):Nat:=lU bs s 8
def kE(bs:List Int):Int:=16777216*aX bs 0+65536*aX bs 1+256*aX bs 2+aX bs 3
def Fl.app(F:Fl)(part code act:Int):Bool×Fl:=
 if cH F.bs (bE F.bs).1=true∧nW F.bs (bE F.bs).1<8 then F.lay (128*(bE F.bs).1+16*nW F.bs (bE F.bs).1) (dN 1 part code (fQ (bT F.bs)+1) act)
 else eL (F.erase (bE F.bs).2) fun a=>eL (a.lay (128*(bE F.bs).2) (dN 2 0 0 (fG F.bs (bE F.bs).1 3+1) (kE F.bs))) fun b=>b.lay (128*(bE F.bs).2+16) (dN 1 part code (fQ (bT F.bs)+1) act)
theorem gU.app{F:Fl}(h:gU F)(part code act:Int):gU (F.app part code act).2:=by
 unfold Fl.app;split
 ·exact h.lay _ _
 ·exact jO gU (h.erase _) fun _ a=>jO gU (a.lay _ _) fun _ b=>b.lay _ _
abbrev SF:=aQ×Fl
def aQ.part(st:aQ)(i:Nat):fF:=st.parts.getD i default
def aQ.proc(st:aQ)(i n:Nat):cQ:=(st.part i).procs.getD n default
def aQ.cpart(st:aQ)(i:Nat):Pt:=st.cf.parts.getD i default
def aQ.codeOf(st:aQ)(i n:Nat):List (Int×Int):=((st.cpart i).procs.getD n default).code
def aQ.setPart(st:aQ)(i:Nat)(p:fF):aQ:={ st with parts:=st.parts.set i p }
def aQ.setProc(st:aQ)(i n:Nat)(x:cQ):aQ:=st.setPart i { st.part i with procs:=(st.part i).procs.set n x }
def gI(mode now:Int)(p:fF):fF:=⟨mode,if mode=1 then List.replicate p.words.length 0 else p.words,List.replicate p.procs.length dC,now⟩
def aQ.restart(st:aQ)(i:Nat)(mode:Int):aQ:=st.setPart i (gI mode st.now (st.part i))
def aQ.reset(st:aQ):aQ:={ st with parts:=st.parts.map fun p=>if p.mode=3 then p else gI 1 st.now p }
def eR(st:aQ)(bs:List Int)(i code:Nat):Int:=
 if((st.cpart i).acts.getD code 0=4∨(st.cpart i).acts.getD code 0=5)∧(st.cpart i).limit≤aX bs i then 6 else(st.cpart i).acts.getD code 0
def aQ.act(st:aQ)(i n:Nat)(a:Int):aQ:=
 if a=2 then st.setProc i n { st.proc i n with stopped:=true }
 else if a=3 then st.setProc i n dC
 else if a=4 then st.restart i 2
 else if a=5 then st.restart i 1
 else if a=6 then st.setPart i { st.part i with mode:=3 }
 else if a=7 then st.reset
 else st
def cK(i n code:Nat)(s:SF):Bool×SF:=
 if(s.2.app i code (eR s.1 s.2.bs i code)).1=true then(true,s.1.act i n (eR s.1 s.2.bs i code),(s.2.app i code (eR s.1 s.2.bs i code)).2)
 else(false,s.1,(s.2.app i code (eR s.1 s.2.bs i code)).2)
def dT(i n:Nat)(s:SF):Bool×SF:=
 if(s.1.part i).mode=3∨(s.1.proc i n).stopped=true∨(s.1.proc i n).dl<0∨s.1.now<(s.1.proc i n).dl then(true,s)
 else cK i n 2 (s.1.setProc i n { s.1.proc i n with dl:=-1 },s.2)
def dF(i:Nat)(s:SF):Bool×SF:=loopB (dT i) (s.1.part i).procs.length s
def kV(s:SF):Bool×SF:=loopB dF s.1.parts.length s
def cF(i:Nat)(s:SF):Bool×SF:=
 if(s.1.part i).mode=3∨s.1.now-(s.1.part i).watch<s.1.cf.watch then(true,s)
 else cK i 0 5 (s.1.setPart i { s.1.part i with watch:=s.1.now },s.2)
def dW(s:SF):Bool×SF:=if s.1.cf.watch=0 then(true,s)else loopB cF s.1.parts.length s
def cZ(st:aQ)(i:Nat)(c:Int):Bool:=decide (c<st.cf.chans.length∧(st.cf.chans.getD c.toNat default).dst=i)
def fI(st:aQ)(i:Nat)(c:Int):Bool:=decide (c<st.cf.chans.length∧(st.cf.chans.getD c.toNat default).src=i)
def dE(st:aQ)(i n:Nat):Int×Int:=(st.codeOf i n).getD (st.proc i n).next.toNat (0,0)
def dO(st:aQ)(i n:Nat):Bool:=
 decide (¬ ((st.part i).mode=3∨(st.proc i n).stopped=true∨st.now<(st.proc i n).til))&&(decide ((dE st i n).1≠7)||!cZ st i (dE st i n).2||decide (0<(st.queues.getD (dE st i n).2.toNat []).length))
def kX(a b:Int):Int:=IntKind.i64.wrap (Int.tdiv a b)
def aQ.follow(st:aQ)(i n:Nat)(a:Int):cQ:={ st.proc i n with next:=a,stopped:=decide (((st.codeOf i n).length:Int)≤a) }
def dU(l:List (Nat→Int))(a:Int):Int:=l.foldl (fun n r=>if r 1=a then n+1 else n) 0
def fR(bs:List Int)(i n:Nat)(st:aQ):Int×aQ:=
 let op:=(dE st i n).1
 let a:=(dE st i n).2
 let x:cQ:=st.follow i n (if op=4∧(st.proc i n).acc≠0 then a else(st.proc i n).next+1)
 let b:=st.setProc i n x
 if op=1 then(-1,st.setProc i n { x with acc:=IntKind.i64.wrap (x.acc+(if a>127 then a-256 else a)) })
 else if op=2 then if a<(st.part i).words.length then(-1,b.setPart i { b.part i with words:=(st.part i).words.set a.toNat x.acc })else(0,b)
 else if op=3 then if a<(st.part i).words.length then(-1,st.setProc i n { x with acc:=(st.part i).words.getD a.toNat 0 })else(0,b)
 else if op=12 then if a<(st.part i).words.length then(if(st.part i).words.getD a.toNat 0=0 then(1,b)else(-1,st.setProc i n { x with acc:=kX x.acc ((st.part i).words.getD a.toNat 0) }))else(0,b)
 else if op=5 then(-1,st.setProc i n { x with til:=st.now+a })
 else if op=6 then if fI st i a=true then(-1,{ b with queues:=if((st.queues.getD a.toNat []).length:Int)<(st.cf.chans.getD a.toNat default).depth then st.queues.set a.toNat (st.queues.getD a.toNat []++[x.acc])else st.queues })else(4,b)
 else if op=7 then if cZ st i a=true then(-1,{ st.setProc i n { x with acc:=(st.queues.getD a.toNat []).headD 0 }with queues:=st.queues.set a.toNat (st.queues.getD a.toNat []).tail })else(4,b)
 else if op=8 then(3,b)
 else if op=9 then(-1,b.setPart i { b.part i with watch:=st.now })
 else if op=10 then(-1,st.setProc i n { x with stopped:=true })
 else if op=11 then(-1,st.setProc i n { x with dl:=if a=0 then -1 else st.now+a })
 else if op=13 then if(st.cpart i).sys=true then(-1,st.setProc i n { x with acc:=dU (bT bs) a })else(4,b)
 else(-1,b)
def iD(st:aQ)(i:Nat):Nat→Option Nat
 | 0=>none
 | k+1=>if(dO st i k&&(match iD st i k with | none=>true | some b=>decide (fD (st.cpart i) b<fD (st.cpart i) k)))=true then some k else iD st i k
def vK(st:aQ)(i:Nat):Option Nat:=iD st i (st.cpart i).procs.length
def pP(i:Nat)(s:SF):Bool×SF:=
 match vK s.1 i with
 | none=>(true,s)
 | some n=>if(fR s.2.bs i n s.1).1<0 then(true,(fR s.2.bs i n s.1).2,s.2)else cK i n (fR s.2.bs i n s.1).1.toNat ((fR s.2.bs i n s.1).2,s.2)
def kR(now:Int)(a:Int)(x:Wn):Bool:=decide (x.first≤now % a∧now % a<x.first+x.many)
def Ie(s:SF):Bool×SF:=
 match s.1.cf.wins.find? (kR s.1.now s.1.cf.frame)with
 | none=>(true,s)
 | some x=>pP x.part.toNat s
def lK(s:SF):Bool×SF:=eL (eL (kV s) dW) Ie
def lY(s:SF):Bool×SF:=eL (lK s) fun s=>(true,{ s.1 with now:=s.1.now+1 },s.2)
def dR:Nat→SF→Bool×SF:=loopB (fun _=>lY)
def lV(s:SF):Nat→Nat
 | 0=>0
 | k+1=>if(dR (k+1) s).1=true then k+1 else lV s k
def iR(r:Bool×SF):SF:=({ r.2.1 with dead:=!r.1 },r.2.2)
def bW(n:Int)(s:SF):(Int×Int)×SF:=
 if n<0∨1000<n then((0,1),s)
 else if s.1.dead=true then((0,6),s)
 else((lV s n.toNat,if(dR n.toNat s).1=true then 0 else 6),iR (dR n.toNat s))
def dD(i n c:Int)(s:SF):Int×SF:=
 if i<0∨s.1.parts.length≤i∨c<0∨4<c∨n<0∨(s.1.part i.toNat).procs.length≤n then(1,s)
 else if s.1.dead=true then(6,s)
 else if(s.1.part i.toNat).mode=3 then(0,s)
 else(if(cK i.toNat n.toNat c.toNat s).1=true then 0 else 6,iR (cK i.toNat n.toNat c.toNat s))
section
open Go.RowKit
section
variable {st:aQ} {i j n:Nat} {p:fF}
theorem aQ.part_set(h:i<st.parts.length):(st.setPart i p).part i=p:=by
 simp[aQ.part,aQ.setPart,List.getD_eq_getElem?_getD,h]
theorem aQ.part_other(h:i≠j):(st.setPart i p).part j=st.part j:=by
 simp[aQ.part,aQ.setPart,List.getD_eq_getElem?_getD,List.getElem?_set_ne h]
theorem aQ.setPart_self(st:aQ)(i:Nat):st.setPart i (st.part i)=st:=by
 unfold aQ.setPart aQ.part;rw[List.getD_eq_getElem?_getD]
 by_cases h:i<st.parts.length
 ·rw[List.getElem?_eq_getElem h];simp
 ·rw[List.set_eq_of_length_le (by omega)]
theorem aQ.setPart_set(st:aQ)(i:Nat)(p q:fF):(st.setPart i p).setPart i q=st.setPart i q:=by simp[aQ.setPart]
theorem aQ.setPart_len(st:aQ)(i:Nat)(p:fF):(st.setPart i p).parts.length=st.parts.length:=by simp[aQ.setPart]
end
theorem bG{w:World}{a b:Nat}{c f:Array Value}{s t:TypeId}(g:w.heap[a]?=some (.cells c s (0,0)))(d:w.heap[b]?=some (.cells f t (0,0)))(h:s≠t):a≠b:=by
 rintro rfl;rw[g]at d;simp at d;exact h d.2
theorem fX{w:World}{a b:Nat}{c f:Array Value}{s:TypeId}{n r q:Nat}{x g:Bool}(h:w.heap[a]?=some (.cells c s (0,0)))(d:w.heap[b]?=some (.chan n f x r q g)):a≠b:=by
 rintro rfl;rw[h]at d;simp at d
theorem aU.parts'{w w':World}{d:bN}{g:Nat}{st:aQ}(h:aU w d g st)(v:aH (·=d.pb) w w')(f:List fF)(m:f.length=st.parts.length)
 (x:w'.heap[d.pb]?=some (.cells (eH f.length fun i=>lF d i (st.cf.parts.getD i default) (f.getD i default)).toArray 120 (0,0)))
 (y:∀i,i<st.parts.length→(f.getD i default).words=(st.parts.getD i default).words) (q:∀i,i<st.parts.length→(f.getD i default).procs=(st.parts.getD i default).procs):aU w' d g { st with parts:=f }:=by
 have keep:∀b,b<w.heap.size→d.pb≠b→w'.heap[b]?=w.heap[b]?:=fun b z A=>v.block b z (fun e=>A e.symm)
 have kc:∀ {b:Nat} {c:Array Value} {s:TypeId},w.heap[b]?=some (.cells c s (0,0))→(120:TypeId)≠s→w'.heap[b]?=some (.cells c s (0,0)):=fun u B=>(keep _ (lt_of_block u) (bG h.parts u B)).trans u
 refine⟨?_,?_,fun i a=>?_,fun i a=>?_,fun i a=>?_,kc h.wins (by decide),kc h.chans (by decide),fun j C=>?_,fun i k a o=>?_⟩
 ·rw[kc h.mach (by decide)];simp only[rE,m]
 ·exact x
 ·simp only[m]at a ⊢;rw[y i a];exact kc (h.words i a) (by decide)
 ·simp only[m]at a ⊢;rw[q i a];exact kc (h.procs i a) (by decide)
 ·simp only[m]at a ⊢;rw[q i a];exact kc (h.turns i a) (by decide)
 ·obtain⟨s,r,l⟩:=h.queue j C;exact⟨s,r,(keep _ (lt_of_block l) (fX h.parts l)).trans l⟩
 ·simp only[m]at a o ⊢;rw[q i a]at o;refine aO (h.code i k a o) (fun b e=>?_);obtain⟨cur,l⟩:=cV (h.code i k a o) e;exact keep b (lt_of_block l) (bG h.parts l (by decide))
theorem aU.partCell{w:World}{a:bN}{g:Nat}{st:aQ}(h:aU w a g st)(i k:Nat)(v:Value)(p:fF)(c:i<st.parts.length)(f:k<14)
 (l:(lF a i (st.cf.parts.getD i default) (st.part i)).set k v=lF a i (st.cf.parts.getD i default) p) (m:p.words=(st.part i).words) (o:p.procs=(st.part i).procs):
 aU (w.setCell ⟨a.pb,i*14+k,none⟩ v) a g (st.setPart i p):=by
 have b:∀j,(st.parts.set i p).getD j default=if j=i then p else st.parts.getD j default:=fun j=>by
  simp only[List.getD_eq_getElem?_getD]
  by_cases e:j=i
  ·subst e;rw[if_pos rfl,List.getElem?_set_self c];rfl
  ·rw[if_neg e,List.getElem?_set_ne (fun h=>e h.symm)]
 refine h.parts' (aH.ofSet w a.pb _ v rfl) (st.parts.set i p) (by simp) ?_ (fun j d=>?_) (fun j d=>?_)
 ·rw[aK h.parts _ _]
  congr 2
  apply Array.ext'
  rw[Array.toList_setIfInBounds];show(eH _ _).set _ _=eH _ _
  rw[rA st.parts.length 14 _ (fun j _=>rfl) i k v c f,List.length_set];refine dV _ _ _ (fun j d=>?_);rw[b j]
  by_cases e:j=i
  ·subst e;simp only[if_true];exact l
  ·simp only[if_neg e]
 ·rw[b j]
  by_cases e:j=i
  ·subst e;simp only[if_true];exact m
  ·simp only[if_neg e]
 ·rw[b j]
  by_cases e:j=i
  ·subst e;simp only[if_true];exact o
  ·simp only[if_neg e]
theorem aU.setMode{w:World}{a:bN}{g:Nat}{st:aQ}(h:aU w a g st)(i:Nat)(b:Int)(c:i<st.parts.length):aU (w.setCell ⟨a.pb,i*14+9,none⟩ (.int .i64 b)) a g (st.setPart i { st.part i with mode:=b }):=
 h.partCell i 9 _ _ c (by omega) rfl rfl rfl
theorem aU.setWatch{w:World}{a:bN}{g:Nat}{st:aQ}(h:aU w a g st)(i:Nat)(b:Int)(c:i<st.parts.length):aU (w.setCell ⟨a.pb,i*14+13,none⟩ (.int .i64 b)) a g (st.setPart i { st.part i with watch:=b }):=
 h.partCell i 13 _ _ c (by omega) rfl rfl rfl
theorem aU.procs'{w w':World}{f:bN}{g:Nat}{st:aQ}(h:aU w f g st)(y:nI f st.parts.length st.cf.chans.length)(i:Nat)(m:i<st.parts.length)(z:aH (·=f.pr i) w w')(d:List cQ)(v:d.length=(st.part i).procs.length)
 (A:w'.heap[f.pr i]?=some (.cells (eH d.length fun k=>aY (f.code i k) (d.getD k default)).toArray 166 (0,0))):aU w' f g (st.setPart i { st.part i with procs:=d }):=by
 have keep:∀b,b<w.heap.size→f.pr i≠b→w'.heap[b]?=w.heap[b]?:=fun b B C=>z.block b B (fun e=>C e.symm)
 have kc:∀ {b:Nat} {c:Array Value} {s:TypeId},w.heap[b]?=some (.cells c s (0,0))→(166:TypeId)≠s→w'.heap[b]?=some (.cells c s (0,0)):=fun q D=>(keep _ (lt_of_block q) (bG (h.procs i m) q D)).trans q
 have o:∀j,(st.parts.set i { st.part i with procs:=d }).getD j default=if j=i then{ st.part i with procs:=d }else st.parts.getD j default:=fun j=>by
  simp only[List.getD_eq_getElem?_getD]
  by_cases e:j=i
  ·subst e;rw[if_pos rfl,List.getElem?_set_self m];rfl
  ·rw[if_neg e,List.getElem?_set_ne (fun h=>e h.symm)]
 have E:∀j,((st.parts.set i { st.part i with procs:=d }).getD j default).words=(st.parts.getD j default).words:=fun j=>by
  rw[o j];split
  ·rename_i e;subst e;rfl
  ·rfl
 have x:∀j,((st.parts.set i { st.part i with procs:=d }).getD j default).procs.length=(st.parts.getD j default).procs.length:=fun j=>by
  rw[o j];split
  ·rename_i e;subst e;exact v
  ·rfl
 unfold aQ.setPart;refine⟨?_,?_,fun j a=>?_,fun j a=>?_,fun j a=>?_,kc h.wins (by decide),kc h.chans (by decide),fun j a=>?_,fun j k a u=>?_⟩
 ·rw[kc h.mach (by decide)];simp only[rE,List.length_set]
 ·simp only[List.length_set];rw[kc h.parts (by decide)]
  congr 3
  refine dV _ _ _ (fun j a=>?_);rw[o j];split
  ·rename_i e;subst e;simp only[fK,v];rfl
  ·rfl
 ·simp only[List.length_set]at a ⊢;rw[E j];exact kc (h.words j a) (by decide)
 ·simp only[List.length_set]at a ⊢;rw[o j]
  by_cases e:j=i
  ·subst e;simp only[if_true];exact A
  ·simp only[if_neg e];rw[keep _ (lt_of_block (h.procs j a)) (fun F=>e (y.prpr i j m a F).symm)];exact h.procs j a
 ·simp only[List.length_set]at a ⊢;rw[x j];exact kc (h.turns j a) (by decide)
 ·obtain⟨s,r,l⟩:=h.queue j a;exact⟨s,r,(keep _ (lt_of_block l) (fX (h.procs i m) l)).trans l⟩
 ·simp only[List.length_set]at a ⊢;rw[x j]at u;refine aO (h.code j k a u) (fun b e=>?_);obtain⟨cur,l⟩:=cV (h.code j k a u) e;exact keep b (lt_of_block l) (bG (h.procs i m) l (by decide))
theorem aU.procCell{w:World}{a:bN}{g:Nat}{st:aQ}(h:aU w a g st)(f:nI a st.parts.length st.cf.chans.length)(i n k:Nat)(v:Value)(x:cQ)(c:i<st.parts.length)(d:n<(st.part i).procs.length)(l:k<6)
 (m:(aY (a.code i n) (st.proc i n)).set k v=aY (a.code i n) x):aU (w.setCell ⟨a.pr i,n*6+k,none⟩ v) a g (st.setProc i n x):=by
 refine h.procs' f i c (aH.ofSet w _ _ v rfl) ((st.part i).procs.set n x) (by simp) ?_;rw[aK (h.procs i c) _ _]
 congr 2
 apply Array.ext'
 rw[Array.toList_setIfInBounds];show(eH (st.part i).procs.length fun k=>aY (a.code i k) ((st.part i).procs.getD k default)).set _ _=eH _ _
 rw[rA (st.part i).procs.length 6 _ (fun j _=>rfl) n k v d l,List.length_set];refine dV _ _ _ (fun j o=>?_)
 by_cases e:j=n
 ·subst e;simp only[if_true];have b:((st.part i).procs.set j x).getD j default=x:=by simp[List.getD_eq_getElem?_getD,d]
  rw[b];exact m
 ·simp only[if_neg e];have b:((st.part i).procs.set n x).getD j default=(st.part i).procs.getD j default:=by
   simp only[List.getD_eq_getElem?_getD];rw[List.getElem?_set_ne (fun h=>e h.symm)]
  rw[b]
theorem aU.wordCell{w:World}{d:bN}{g:Nat}{st:aQ}(h:aU w d g st)(x:nI d st.parts.length st.cf.chans.length)(i:Nat)(f:i<st.parts.length)(l:List Int)(w':World)(y:aH (·=d.wd i) w w')(z:l.length=(st.part i).words.length)
 (A:w'.heap[d.wd i]?=some (.cells (l.map (Value.int .i64)).toArray 3 (0,0))):aU w' d g (st.setPart i { st.part i with words:=l }):=by
 have keep:∀b,b<w.heap.size→d.wd i≠b→w'.heap[b]?=w.heap[b]?:=fun b B C=>y.block b B (fun e=>C e.symm)
 have kc:∀ {b:Nat} {c:Array Value} {s:TypeId},w.heap[b]?=some (.cells c s (0,0))→(3:TypeId)≠s→w'.heap[b]?=some (.cells c s (0,0)):=fun o D=>(keep _ (lt_of_block o) (bG (h.words i f) o D)).trans o
 have q:∀j,(st.parts.set i { st.part i with words:=l }).getD j default=if j=i then{ st.part i with words:=l }else st.parts.getD j default:=fun j=>by
  simp only[List.getD_eq_getElem?_getD]
  by_cases e:j=i
  ·subst e;rw[if_pos rfl,List.getElem?_set_self f];rfl
  ·rw[if_neg e,List.getElem?_set_ne (fun h=>e h.symm)]
 have u:∀j,((st.parts.set i { st.part i with words:=l }).getD j default).procs=(st.parts.getD j default).procs:=fun j=>by
  rw[q j];split
  ·rename_i e;subst e;rfl
  ·rfl
 unfold aQ.setPart;refine⟨?_,?_,fun j a=>?_,fun j a=>?_,fun j a=>?_,kc h.wins (by decide),kc h.chans (by decide),fun j a=>?_,fun j k a v=>?_⟩
 ·rw[kc h.mach (by decide)];simp only[rE,List.length_set]
 ·simp only[List.length_set];rw[kc h.parts (by decide)]
  congr 3
  refine dV _ _ _ (fun j a=>?_);rw[q j];split
  ·rename_i e;subst e;simp only[fK,z];rfl
  ·rfl
 ·simp only[List.length_set]at a ⊢;rw[q j]
  by_cases e:j=i
  ·subst e;simp only[if_true];exact A
  ·simp only[if_neg e];rw[keep _ (lt_of_block (h.words j a)) (fun E=>e (x.wdwd i j f a E).symm)];exact h.words j a
 ·simp only[List.length_set]at a ⊢;rw[u j];exact kc (h.procs j a) (by decide)
 ·simp only[List.length_set]at a ⊢;rw[u j,keep _ (lt_of_block (h.turns j a)) (x.wdtn i j f a)];exact h.turns j a
 ·obtain⟨s,r,m⟩:=h.queue j a;exact⟨s,r,(keep _ (lt_of_block m) (fX (h.words i f) m)).trans m⟩
 ·simp only[List.length_set]at a ⊢;rw[u j]at v;refine aO (h.code j k a v) (fun b e=>?_);obtain⟨cur,m⟩:=cV (h.code j k a v) e;exact keep b (lt_of_block m) (bG (h.words i f) m (by decide))
theorem aU.setWord{w:World}{b:bN}{g:Nat}{st:aQ}(h:aU w b g st)(d:nI b st.parts.length st.cf.chans.length)(i a:Nat)(z:Int)(c:i<st.parts.length):aU (w.setCell ⟨b.wd i,a,none⟩ (.int .i64 z)) b g (st.setPart i { st.part i with words:=(st.part i).words.set a z }):=by
 refine h.wordCell d i c _ _ (aH.ofSet w _ _ _ rfl) (by simp) ?_;rw[aK (h.words i c) _ _]
 congr 2
 apply Array.ext'
 rw[Array.toList_setIfInBounds];show List.set (List.map _ _) _ _=List.map _ _
 rw[List.map_set];rfl
theorem aU.mach'{w w':World}{d:bN}{g:Nat}{st:aQ}(h:aU w d g st)(o:aH (·=d.mb) w w')(now:Int)(dead:Bool)(q:w'.heap[d.mb]?=some (rE d g { st with now:=now,dead:=dead })):aU w' d g { st with now:=now,dead:=dead }:=by
 have keep:∀b,b<w.heap.size→d.mb≠b→w'.heap[b]?=w.heap[b]?:=fun b u v=>o.block b u (fun e=>v e.symm)
 have kc:∀ {b:Nat} {c:Array Value} {s:TypeId},w.heap[b]?=some (.cells c s (0,0))→(145:TypeId)≠s→w'.heap[b]?=some (.cells c s (0,0)):=fun l x=>(keep _ (lt_of_block l) (bG h.mach l x)).trans l
 refine⟨q,kc h.parts (by decide),fun j a=>kc (h.words j a) (by decide),fun j a=>kc (h.procs j a) (by decide),fun j a=>kc (h.turns j a) (by decide),kc h.wins (by decide),kc h.chans (by decide),fun j a=>?_,fun j k a m=>?_⟩
 ·obtain⟨s,r,f⟩:=h.queue j a;exact⟨s,r,(keep _ (lt_of_block f) (fX h.mach f)).trans f⟩
 ·refine aO (h.code j k a m) (fun b e=>?_);obtain⟨cur,f⟩:=cV (h.code j k a m) e;exact keep b (lt_of_block f) (bG h.mach f (by decide))
theorem aU.setNow{w:World}{a:bN}{g:Nat}{st:aQ}(h:aU w a g st)(x:Int):aU (w.setCell ⟨a.mb,6,none⟩ (.int .i64 x)) a g { st with now:=x }:=
 h.mach' (aH.ofSet w _ _ _ rfl) x st.dead (by rw[aK h.mach 6 _];rfl)
theorem aU.setLost{w:World}{a:bN}{g:Nat}{st:aQ}(h:aU w a g st)(x:Bool):aU (w.setCell ⟨a.mb,7,none⟩ (.bool x)) a g { st with dead:=x }:=
 h.mach' (aH.ofSet w _ _ _ rfl) st.now x (by rw[aK h.mach 7 _];rfl)
theorem aU.setQueue{w w':World}{d:bN}{g:Nat}{st:aQ}(h:aU w d g st)(x:nI d st.parts.length st.cf.chans.length)(j:Nat)(a:j<st.cf.chans.length)(C:st.queues.length=st.cf.chans.length)(y:aH (·=d.ch j) w w')(q:List Int)
 (o:∃s r,w'.heap[d.ch j]?=some (.chan (st.cf.chans.getD j default).depth.toNat (q.map (Value.int .i64)).toArray false s r false)):aU w' d g { st with queues:=st.queues.set j q }:=by
 obtain⟨D,E,u⟩:=h.queue j a;have keep:∀b,b<w.heap.size→b≠d.ch j→w'.heap[b]?=w.heap[b]?:=fun b z A=>y.block b z A
 have kc:∀ {b:Nat} {c:Array Value} {s:TypeId},w.heap[b]?=some (.cells c s (0,0))→w'.heap[b]?=some (.cells c s (0,0)):=fun m=>(keep _ (lt_of_block m) (fX m u)).trans m
 refine⟨kc h.mach,kc h.parts,fun j a=>kc (h.words j a),fun j a=>kc (h.procs j a),fun j a=>kc (h.turns j a),kc h.wins,kc h.chans,fun k l=>?_,fun i k v l=>?_⟩
 ·by_cases e:k=j
  ·subst e;simp only[List.getD_eq_getElem?_getD]at o ⊢;rw[List.getElem?_set_self (by omega)];exact o
  ·obtain⟨s,r,f⟩:=h.queue k l;refine⟨s,r,?_⟩;simp only[List.getD_eq_getElem?_getD]at f ⊢;rw[List.getElem?_set_ne (fun h=>e h.symm)];exact(keep _ (lt_of_block f) (fun B=>e (x.chch k j l a B))).trans f
 ·refine aO (h.code i k v l) (fun b e=>?_);obtain⟨cur,f⟩:=cV (h.code i k v l) e;exact keep b (lt_of_block f) (fX f u)
end
end Go.Proofs.YtnjlbgolnbdkaaaGreat
