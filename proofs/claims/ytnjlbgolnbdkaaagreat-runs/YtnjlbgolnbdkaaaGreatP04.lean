/- All, with short names -/
import Derived.Test.YtnjlbgolnbdkaaaGreatP03
import Derived.Deep.RegionLaw
import Derived.Deep.CutRange
set_option maxRecDepth 100000
set_option maxHeartbeats 16000000
namespace Go.Proofs.YtnjlbgolnbdkaaaGreat
open Go Go.RowKit
section
open Go.RowKit
def cH(bs:List Int)(s:Nat):Bool:=gQ bs s 0 == 3&&cY bs s 0 0 == 2
def jD(bs:List Int)(s:Nat):Int:=cY bs s 0 3
def tZ(bs:List Int)(s:Nat):Int:=cY bs s 0 4
theorem rG(bs:List Int)(s i k:Nat)(hb:cT bs):0≤cY bs s i k∧cY bs s i k<4294967296:=by
 unfold cY dL;split
 ·have b:cT (eG bs s i):=(hb.drop _).take _;have a:=fun c=>b.getD c
  match k with
  | 0=>have:=a 1;simp only[xK];omega
  | 1=>have:=a 2;simp only[xK];omega
  | 2=>have:=a 3;simp only[xK];omega
  | 3=>have:=mU (((eG bs s i).drop 4).take 4) 0 (by omega);simp only[xK];omega
  | k+4=>have:=mU (((eG bs s i).drop 8).take 4) 0 (by omega);simp only[xK];omega
 ·omega
structure Gv(x cap:Nat)(bs:List Int)(w:World):Prop where
 len:bs.length=256
 bytes:cT bs
 row:jG w x 0 bs
 c1:256≤cap
 c2:cap≤9223372036854775807
theorem Gv.below{x cap:Nat}{bs:List Int}{w w':World}(h:Gv x cap bs w)(hb:Below w.heap.size w w'):Gv x cap bs w':=⟨h.len,h.bytes,h.row.below hb (Hp h.row (by rw[h.len];omega)),h.c1,h.c2⟩
theorem yT{w:World}{base x cap:Nat}{bs:List Int}(h:w.ownsRow base 5 1 (.slice (some ⟨x,0,none⟩) 256 cap) 256 (bZ bs))(hb:cT bs):Gv x cap bs w:=by
 have b:bs.length=256:=by have:=h.1;rw[bX]at this;omega
 rcases h.2 with⟨c,_⟩| ⟨g,j,cur,a,_,_,d,i,_⟩
 ·cases c
 ·simp at a;obtain⟨rfl,rfl⟩:=a;exact⟨b,hb,iS h,d,by unfold maxLen at i;omega⟩
theorem nN(x cap:Nat)(bs:List Int)(s:Nat)(w:World)(k:s<2)(h:Gv x cap bs w):
 Calls Tryz.prog 176 #[.slice (some ⟨x,0,none⟩) 256 cap,.int .i64 s] w fun e w'=>e=.returned (.tuple #[.bool (cH bs s),.int .i64 (jD bs s),.int .i64 (tZ bs s)])∧Below w.heap.size w w':=by
 have d:=aI (qN x cap bs s 0 w k (by omega) h.len h.bytes h.row h.c1 h.c2);clear h
 go_enter Tryz.func176,Tryz.ntmps176
 go_wp2_with fail
 refine d.out.mono ?_;rintro e l ⟨rfl,b⟩;have q:=aI b;have r:=b.size;have a:Hid (cH bs s=(gQ bs s 0 == 3&&cY bs s 0 0 == 2)∧jD bs s=cY bs s 0 3∧tZ bs s=cY bs s 0 4):=⟨rfl,rfl,rfl⟩;clear b d;simp only[jZ];generalize gQ bs s 0=kk at a ⊢;generalize cY bs s 0 0=u at a ⊢;generalize cY bs s 0 1=r1 at a ⊢;generalize cY bs s 0 2=y at a ⊢;generalize cY bs s 0 3=z at a ⊢;generalize cY bs s 0 4=B at a ⊢;have i:Hid (∀m,Below w.heap.size w ((l.alloc (.cells #[.int .i64 u,.int .i64 r1,.int .i64 y,.int .i64 z,.int .i64 B] 52)).drewN m)):=fun m=>below_drewN (q.out.alloc r _) m
 by_cases j:kk=3
 ·have c:(kk == 3)=true:=by simp[j]
  go_wp2
  go_quiet (fail)
  go_wp2
  go_ret3
  exact⟨by rw[a.out.1,a.out.2.1,a.out.2.2];simp[c],i.out _⟩
 ·have c:(kk == 3)=false:=by simp[j]
  go_wp2
  go_quiet (fail)
  go_wp2
  go_ret3
  exact⟨by rw[a.out.1,a.out.2.1,a.out.2.2];simp[c],i.out _⟩
def lB(x a:Bool)(m n:Int):Int×Int:=
 if x&&a&&m == n+1 then(0,1)else if x&&a&&n == m+1 then(1,0)else if x&&(!a||decide (n≤m))then(0,-1)else if a then(1,-1)else(-1,-1)
theorem Dg(m n:Int)(a:m=n+1):lB true true m n=(0,1):=by
 unfold lB;rw[if_pos (by simp[a])]
theorem Dq(m n:Int)(a:¬m=n+1)(b:n=m+1):lB true true m n=(1,0):=by
 unfold lB;rw[if_neg (by simp[a]),if_pos (by simp[b])]
theorem Ct(m n:Int)(a:¬m=n+1)(b:¬n=m+1)(c:n≤m):lB true true m n=(0,-1):=by
 unfold lB;rw[if_neg (by simp[a]),if_neg (by simp[b]),if_pos (by simp[c])]
theorem Dd(m n:Int)(a:¬m=n+1)(b:¬n=m+1)(c:¬n≤m):lB true true m n=(1,-1):=by
 unfold lB;rw[if_neg (by simp[a]),if_neg (by simp[b]),if_neg (by simp;omega)];rfl
def bD(bs:List Int):Int×Int:=lB (cH bs 0) (cH bs 1) (jD bs 0) (jD bs 1)
theorem oX(x cap:Nat)(bs:List Int)(w:World)(h:Gv x cap bs w):
 Calls Tryz.prog 137 #[.slice (some ⟨x,0,none⟩) 256 cap] w fun e w'=>e=.returned (.tuple #[.int .i64 (bD bs).1,.int .i64 (bD bs).2])∧Below w.heap.size w w':=by
 have i:=aI (nN x cap bs 0 w (by omega) h);have j:Hid (∀W,Below w.heap.size w W→Calls Tryz.prog 176 #[.slice (some ⟨x,0,none⟩) 256 cap,.int .i64 1] W fun e w'=>e=.returned (.tuple #[.bool (cH bs 1),.int .i64 (jD bs 1),.int .i64 (tZ bs 1)])∧Below w.heap.size w w'):=fun W l=>(nN x cap bs 1 W (by omega) (h.below l)).mono (fun e w' ⟨b,c⟩=>⟨b,l.trans (c.mono l.size)⟩)
 have s:=rG bs 0 0 3 h.bytes;have u:=rG bs 1 0 3 h.bytes
 change 0≤jD bs 0∧jD bs 0<_ at s
 change 0≤jD bs 1∧jD bs 1<_ at u
 have a:Hid (bD bs=lB (cH bs 0) (cH bs 1) (jD bs 0) (jD bs 1)):=rfl;clear h;generalize cH bs 0=D at i a;generalize cH bs 1=y at j a;generalize jD bs 0=m at i a s;generalize jD bs 1=n at j a u;generalize tZ bs 0=r at i;generalize tZ bs 1=q at j
 go_enter Tryz.func137,Tryz.ntmps137
 go_wp2_with fail
 refine i.out.mono ?_;rintro e w1 ⟨rfl,z⟩;have B:=aI (j.out w1 z);clear z i j;go_wp2_with fail
 refine B.out.mono ?_;rintro e H ⟨rfl,C⟩;have d:=aI C;clear C B;cases D with
 | false=>
  cases y with
  | false=>
   go_wp2
   go_ret2
   exact⟨by rw[a.out];rfl,d.out⟩
  | true=>
   go_wp2
   go_ret2
   exact⟨by rw[a.out];rfl,d.out⟩
 | true=>
  cases y with
  | false=>
   go_wp2
   go_ret2
   exact⟨by rw[a.out];rfl,d.out⟩
  | true=>
   by_cases b:m=n+1
   ·have E:(m == n+1)=true:=by simp[b]
    go_wp2
    go_ret2
    exact⟨by rw[a.out,Dg m n b];rfl,d.out⟩
   ·have E:(m == n+1)=false:=by simp[b]
    by_cases c:n=m+1
    ·have F:(n == m+1)=true:=by simp[c]
     go_wp2
     go_ret2
     exact⟨by rw[a.out,Dq m n b c];rfl,d.out⟩
    ·have F:(n == m+1)=false:=by simp[c]
     by_cases k:n≤m
     ·have G:decide (n≤m)=true:=by simp[k]
      go_wp2
      go_ret2
      exact⟨by rw[a.out,Ct m n b c k];rfl,d.out⟩
     ·have G:decide (n≤m)=false:=by simp[k]
      go_wp2
      go_ret2
      exact⟨by rw[a.out,Dd m n b c (Int.not_le.2 k)];rfl,d.out⟩
end
section
open Go.RowKit
theorem Qv(g:Nat)(bs:List Int)(left res:Int)(dead:Bool)(done:Int)(i:Nat)(w:World)(a:i<256)(h:aS w g bs left res dead done):
 Calls Tryz.prog 198 #[.pointer (some ⟨g,0,none⟩),.int .i64 i] w fun e w'=>e=.returned (.int .u8 (bs.getD i 0))∧w'=w:=by
 have c:=h.byte i a;clear h
 go_enter Tryz.func198,Tryz.ntmps198
 go_wp2
 go_ret
 exact⟨rfl,rfl⟩
theorem xM(s i:Nat)(w:World)(a:s<2)(b:i<8):
 Calls Tryz.prog 192 #[.int .i64 s,.int .i64 i] w fun e w'=>e=.returned (.int .i64 ((128*s+16*i:Nat):Int))∧w'=w:=by
 go_enter Tryz.func192,Tryz.ntmps192
 go_wp2
 go_ret
 exact⟨by simp;omega,rfl⟩
theorem Jf(bs:List Int)(s i k:Nat)(a:bs.length=256)(b:s<2)(c:i<8)(d:k<16):(eG bs s i).take (k+1)=(eG bs s i).take k++[bs.getD (128*s+16*i+k) 0]:=by
 have h:=mE bs s i a b c;rw[List.take_add_one,List.getElem?_eq_getElem (by omega)]
 congr 1
 simp only[eG,List.getElem_take,List.getElem_drop,List.getD_eq_getElem?_getD];rw[List.getElem?_eq_getElem (by omega)];rfl
theorem Hh(g:Nat)(bs:List Int)(left res:Int)(dead:Bool)(done:Int)(s i:Nat)(w:World)(r:s<2)(u:i<8)(h:aS w g bs left res dead done):
 Calls Tryz.prog 169 #[.agg #[.pointer (some ⟨g,0,none⟩)],.int .i64 s,.int .i64 i] w fun e w'=>∃x cap,e=.returned (.slice (some ⟨x,0,none⟩) 16 cap)∧w'.ownsRow w.heap.size 5 1 (.slice (some ⟨x,0,none⟩) 16 cap) 16 (bZ (eG bs s i))∧Below w.heap.size w w':=by
 obtain⟨P,Q,R,S,T⟩:=info_parts Tryz.info5;have U:=aI h;have V:=aI (mE bs s i h.len r u);have X:=aI (fun k E=>Jf bs s i k h.len r u E);clear h
 go_enter Tryz.func169,Tryz.ntmps169
 go_wp2
 go_loopw [7,9] (fun v t wr=>∃k:Nat,k≤16∧t=.int .i64 k∧wr.ownsRow w.heap.size 5 1 v k (bZ ((eG bs s i).take k))∧wr.heap[w.heap.size]?=some (.cells #[.pointer (some ⟨g,0,none⟩)] 107 (0,0))∧Below w.heap.size w wr) (fun _ t _=>16-(intOf t).toNat)
 case atStart=>exact⟨0,by omega,rfl,World.ownsRow_nil _ _ _ _,heap_alloc_new w _,aG _ _⟩
 case round=>
  obtain⟨k,E,rfl,a,l,d⟩:=hrel
  by_cases Y:k<16
  ·obtain⟨ad,c,Z⟩:=bL a;subst Z;have b2:=d.size;have a0:=lt_of_block l;have b3:wr.cell? ⟨w.heap.size,0,none⟩=some (.pointer (some ⟨g,0,none⟩)):=aD l;have y:Hid (∀W:World,W.heap=wr.heap→Calls Tryz.prog 198 #[.pointer (some ⟨g,0,none⟩),.int .i64 ((128*s+16*i+k:Nat):Int)] W fun e w'=>e=.returned (.int .u8 (bs.getD (128*s+16*i+k) 0))∧w'=W):=fun W a1=>Qv g bs left res dead done (128*s+16*i+k) W (by omega) ((U.out.below d).keep (by rw[a1]))
   have F:=aI (fun W=>xM s i W r u);have B:=aI a;have a2:=aI d;have G:=aI l;have H:=aI (X.out k Y);clear a d l;have I:((128*s+16*i:Nat):Int)+(k:Int)=((128*s+16*i+k:Nat):Int):=by omega
   have a3:IntKind.i64.wrap ((128*s+16*i+k:Nat):Int)=((128*s+16*i+k:Nat):Int):=by rw[IntKind.wrap_i64];omega
   generalize bs.getD (128*s+16*i+k) 0=z at y H;generalize 128*s+16*i+k=b4 at y I a3;generalize 128*s+16*i=b5 at F I;go_wp2_with fail
   go_region_law (first| (go_simp;with_reducible (show Calls Tryz.prog 192 _ _ _);refine(F.out _).mono ?_;rintro e a4 ⟨rfl,rfl⟩)| (go_simp;with_reducible (show Calls Tryz.prog 198 _ _ _);refine(y.out (World.drew wr) rfl).mono ?_;rintro e a4 ⟨rfl,rfl⟩)| (refine step_append_lies _ rfl (.tmp 12) (.tmp 21) 22 rfl w.heap.size 5 P (.int .u8 0) 1 1 Tryz.underlying22 Q R S T rfl (by decide) (.slice ad k c) k (bZ ((eG bs s i).take k)) (by rfl) (by exact B.out.alloc _) ⟨wr.heap.size,0,none⟩ 1 1 [.int .u8 z] (by rfl) rfl (by exact dA wr #[.int .u8 z] 5) (jM [z]) (by omega) (by unfold maxLen;omega) (by omega) (by simp;omega) (wr.heap.size+1) (by simp) ?_;intro a5 a6 q J j _ _))
   all_goals (
    have C:wr.grownBy q (Value.slice ad k c).ownBlock:=aZ (o:=.cells #[.int .u8 z] 5) ⟨j.os,j.tape,j.output,j.size,j.block⟩;have D:Hid (q.ownsRow w.heap.size 5 1 (.slice (some ⟨a5,0,none⟩) (k+1) a6) (k+1) (bZ ((eG bs s i).take (k+1)))∧q.heap[w.heap.size]?=some (.cells #[.pointer (some ⟨g,0,none⟩)] 107 (0,0))∧Below w.heap.size w q):=by
     refine⟨?_,?_,a2.out.grown C (by omega) (fun b e=>(World.ownsRow.lt B.out b e).1)⟩
     ·rw[H.out,iQ];exact J
     ·refine(C.block _ a0 (fun e=>?_)).trans G.out;obtain⟨cur,O⟩:=cV B.out e.symm;rw[G.out]at O;simp at O
    clear J j C;go_wp2
    go_roundw
    case rel=>exact⟨k+1,by omega,by go_num,D.out.1,D.out.2.1,D.out.2.2⟩
    case measure=>simp[intOf];omega)
  ·obtain rfl:k=16:=by omega
   have a7:Hid (wr.ownsRow w.heap.size 5 1 u7 16 (bZ (eG bs s i))∧Below w.heap.size w wr):=by
    rw[List.take_of_length_le (by rw[V.out];omega)]at a;exact⟨a,d⟩
   obtain⟨x,cp,a8⟩:∃x cp,u7=.slice (some ⟨x,0,none⟩) 16 cp:=by obtain⟨a9,b0,b1,_⟩:=a.form (by omega);exact⟨a9,b0,b1⟩
   subst a8;clear a d l;go_wp2
   go_ret
   exact⟨x,cp,rfl,a7.out⟩
end
section
open Go.RowKit
def nT(n:Nat)(x:List Value):List Value:=(List.replicate n ()).flatMap fun _=>x
theorem uK(n:Nat)(x:List Value):nT (n+1) x=nT n x++x:=by
 unfold nT;rw[List.replicate_succ',List.flatMap_append];simp
theorem lJ(n:Nat)(x:List Value):(nT n x).length=n*x.length:=by
 induction n with
 | zero=>simp[nT]
 | succ n ih=>rw[uK,List.length_append,ih,Nat.add_mul,Nat.one_mul]
theorem Fy(a b:Nat)(x:List Value):nT (a+b) x=nT a x++nT b x:=by
 unfold nT;rw[←List.flatMap_append,List.replicate_append_replicate]
theorem Mv{k n:Nat}(h:k≤n)(x:List Value):(nT n x).take (k*x.length)=nT k x:=by
 obtain⟨a,rfl⟩:=Nat.exists_eq_add_of_le h;rw[Fy,←lJ k x,List.take_left'];rfl
theorem Ru(n:Nat)(x:List Value)(i c:Nat)(a:i<n)(b:c<x.length):(nT n x)[i*x.length+c]?=x[c]?:=by
 obtain⟨d,rfl⟩:=Nat.exists_eq_add_of_le (show i+1≤n from a);rw[Fy,uK,List.getElem?_append_left (by rw[List.length_append,lJ];omega),List.getElem?_append_right (by rw[lJ];omega),lJ]
 congr 1
 omega
def eB:Nat→TypeId| 0=>22| 1=>40| 2=>49| 3=>41| 4=>67| 5=>122| 6=>162| 7=>68| _=>69
def eM:Nat→TypeId| 0=>5| _=>3
def mvK:Nat→Int→Value| 0=>Value.int .u8| _=>Value.int .i64
def ety:Nat→TypeId| 0=>5| 1=>3| 2=>52| 3=>47| 4=>124| 5=>190| 6=>210| 7=>131| _=>142
def mF:Nat→Nat| 0=>1| 1=>1| 2=>5| 3=>3| 4=>10| 5=>2| 6=>2| 7=>3| _=>3
def nG(f:Nat)(m:Int):List Value:=
 match f with
 | 0=>[.int .u8 m]
 | 1=>[.int .i64 m]
 | 2=>[.int .i64 m,.int .i64 0,.int .i64 0,.int .i64 0,.int .i64 0]
 | 3=>[.int .i64 0,.int .i64 m,.bool false]
 | 4=>[.bool false,.int .i64 m,.int .i64 0,.int .i64 0,.int .i64 0,.int .i64 0,.int .i64 0,.int .i64 0,.int .i64 0,.slice none 0 0]
 | 5=>[.int .i64 m,.slice none 0 0]
 | 6=>[.int .i64 m,.int .i64 0]
 | 7=>[.int .i64 m,.int .i64 0,.int .i64 0]
 | _=>[.int .i64 m,.int .i64 0,.int .i64 0]
theorem gY(f:Nat)(m:Int):(nG f m).length=mF f:=by
 rcases f with _| _| _| _| _| _| _| _| f<;>rfl
theorem Bw(f:Nat)(m:Int):∀a∈nG f m,a.oneCell'=true:=by
 have b:(nG f m).all (fun a=>a.oneCell')=true:=by rcases f with _| _| _| _| _| _| _| _| f<;>rfl
 exact fun a c=>List.all_eq_true.1 b a c
def KC(f:Nat)(w:World)(k:eI):Prop:=∃n,n≤1000000∧w.ownsRow 0 (ety f) (mF f) k.v n (nT n (nG f k.mark))
theorem iW(f:Nat):Kr (KC f):=fun _ _ _ a ⟨n,b,h⟩=>⟨n,b,aO h a⟩
def Ih(L:Nat→Nat)(vs:Nat→Value)(A M:Nat→List eI)(w:World):Prop:=
 ∀f,f<9→Hb (eB f) (eM f) (mvK f) (KC f) (3*f) L 0 (vs (3+2*f)) (vs (4+2*f)) (A f) (M f) w
structure jJ(p:Nat→Value)(L:Nat→Nat)(hb:Nat)(n:Int)(vs:Nat→Value)(A M:Nat→List eI)(w:World):Prop where
 blk:w.heap[hb]?=some (.cells (bU p (.slice none 0 0) (.slice none 0 0) n vs) 94 (0,0))
 lab:L hb=0
 fam:Ih L vs A M w
def pL(vs:Nat→Value)(i:Nat)(v:Value):Nat→Value:=fun a=>if a=i then v else vs a
def zQ(A:Nat→List eI)(f:Nat)(l:List eI):Nat→List eI:=fun a=>if a=f then l else A a
theorem wM(A:Nat→List eI)(f:Nat)(l:List eI):zQ A f l f=l:=by simp[zQ]
theorem yK(A:Nat→List eI){f g:Nat}(l:List eI)(h:g≠f):zQ A f l g=A g:=by simp[zQ,h]
theorem Dv(p:Nat→Value)(a vW:Value)(n:Int)(vs:Nat→Value)(i:Nat)(v:Value)(b:3≤i)(c:i≤20):(bU p a vW n vs).setIfInBounds (i+5) v=bU p a vW n (pL vs i v):=by
 rcases(show i=3∨i=4∨i=5∨i=6∨i=7∨i=8∨i=9∨i=10∨i=11∨i=12∨i=13∨i=14∨i=15∨i=16∨i=17∨i=18∨i=19∨i=20 from by omega)with rfl| rfl| rfl| rfl| rfl| rfl| rfl| rfl| rfl| rfl| rfl| rfl| rfl| rfl| rfl| rfl| rfl| rfl<;>rfl
theorem Ri(p:Nat→Value)(a vW:Value)(n:Int)(vs:Nat→Value)(i:Nat)(b:3≤i)(c:i≤20):(bU p a vW n vs)[i+5]?=some (vs i):=by
 rcases(show i=3∨i=4∨i=5∨i=6∨i=7∨i=8∨i=9∨i=10∨i=11∨i=12∨i=13∨i=14∨i=15∨i=16∨i=17∨i=18∨i=19∨i=20 from by omega)with rfl| rfl| rfl| rfl| rfl| rfl| rfl| rfl| rfl| rfl| rfl| rfl| rfl| rfl| rfl| rfl| rfl| rfl<;>rfl
theorem Hb.relabel2{eB eM:TypeId}{d:Int→Value}{C:World→eI→Prop}{a:Nat}{L L':Nat→Nat}{base:Nat}{i j:Value}{A M:List eI}{w:World}(h:Hb eB eM d C a L base i j A M w)(c:∀k,k<w.heap.size→a+1≤L k→L k≤a+3→L' k=L k):Hb eB eM d C a L' base i j A M w:=by
 refine⟨h.own,fun b e=>?_,h.ownM,fun b e=>?_,fun k l=>⟨fun b e=>?_,(h.kept k l).2⟩⟩
 ·have:=h.lab b e;rw[c b (h.own.lt b e).2 (by omega) (by omega)];exact this
 ·have:=h.labM b e;rw[c b (h.ownM.lt b e).2 (by omega) (by omega)];exact this
 ·have:=(h.kept k l).1 b e;rw[c b this.2.2 (by omega) (by omega)];exact this
section
variable {p:Nat→Value} {L L':Nat→Nat} {hb:Nat} {n:Int} {vs:Nat→Value} {A M:Nat→List eI} {w w':World}
theorem Ih.touch{S:Nat→Prop}(h:Ih L vs A M w)(t:aH S w w')(a:∀k,k<w.heap.size→S k→L k=0∨28≤L k):Ih L vs A M w':=
 fun f b=>(h f b).touch (iW f) t (fun k c d=>by have:=a k c d;omega)
theorem Ih.relabel(h:Ih L vs A M w)(a:∀k,k<w.heap.size→1≤L k→L k≤27→L' k=L k):Ih L' vs A M w:=
 fun f b=>(h f b).relabel2 (fun k c d i=>a k c (by omega) (by omega))
theorem jJ.touch{S:Nat→Prop}(h:jJ p L hb n vs A M w)(t:aH S w w')(b:∀k,k<w.heap.size→S k→28≤L k):jJ p L hb n vs A M w':=
 ⟨(t.block hb (lt_of_block h.blk) (fun a=>by have:=b hb (lt_of_block h.blk) a;rw[h.lab]at this;omega)).trans h.blk,h.lab,h.fam.touch t (fun k c a=>.inr (b k c a))⟩
theorem jJ.relabel(h:jJ p L hb n vs A M w)(a:∀k,k<w.heap.size→L k≤27→L' k=L k):jJ p L' hb n vs A M w:=
 ⟨h.blk,by rw[a hb (lt_of_block h.blk) (by rw[h.lab];omega)];exact h.lab,h.fam.relabel (fun k b _ c=>a k b c)⟩
theorem jJ.cell(h:jJ p L hb n vs A M w)(i:Nat)(a:3≤i)(b:i≤20):w.cell? ⟨hb,i+5,none⟩=some (vs i):=by rw[cell_of_row _ _ _ _ _ _ h.blk];exact Ri _ _ _ _ _ i a b
structure xP(f:Nat)(L:Nat→Nat)(A:Nat→List eI)(w:World)(v:Value)(N:Nat)(m:Int):Prop where
 own:w.ownsRow 0 (ety f) (mF f) v N (nT N (nG f m))
 lab:∀b,v.ownBlock=some b→L b=3*f+3
 mine:∀k∈A f,∀b,v.ownBlock=some b→k.v.ownBlock=some b→k.mark=m∧∃nn cl,k.v=.slice (some ⟨b,0,none⟩) nn cl∧v=.slice (some ⟨b,0,none⟩) N cl∧nn≤N
variable {v:Value} {N f:Nat} {m:Int} {w1:World} {g cap:Nat} {o:Obj}
theorem xP.keep{a:Nat→List eI}(h:xP f L A w v N m)(c:∀b,v.ownBlock=some b→w'.heap[b]?=w.heap[b]?∧L' b=L b)(d:a f=A f):xP f L' a w' v N m:=
 ⟨aO h.own (fun b e=>(c b e).1),fun b e=>by rw[(c b e).2];exact h.lab b e,by rw[d];exact h.mine⟩
theorem xP.lt(h:xP f L A w v N m):∀b,v.ownBlock=some b→b<w.heap.size:=fun b e=>(World.ownsRow.lt h.own b e).2
structure rX(f:Nat)(L L':Nat→Nat)(w w':World):Prop where
 lab:∀k,k<w.heap.size→L' k=L k
 t:aH (fun k=>L k=0∨(3*f+1≤L k∧L k≤3*f+3)) w w'
theorem xP.step{a:Nat}{c:Nat→List eI}(h:xP f L A w v N m)(s:rX a L L' w w')(i:f≠a)(d:c f=A f):xP f L' c w' v N m:=
 h.keep (fun b e=>⟨s.t.block b (h.lt b e) (fun j=>by have:=h.lab b e;omega),s.lab b (h.lt b e)⟩) d
theorem rX.trans{a:Nat→Nat}{b:World}(s:rX f L L' w w')(c:rX f L' a w' b):rX f L a w b:=
 ⟨fun k d=>(c.lab k (Nat.lt_of_lt_of_le d s.t.size)).trans (s.lab k d),s.t.trans c.t (fun i j=>by
  by_cases h:i<w.heap.size
  ·left;rw[s.lab i h]at j;exact j
  ·right;omega)⟩
theorem jJ.row(B:f<9)(h:jJ p L hb n vs A M w)(c:xP f L A w v N m)(C:N≤1000000)
 (D:w1.ownsRow 0 (eB f) 1 (.slice (some ⟨g,0,none⟩) ((A f).length+1) cap) ((A f).length+1) ((A f).map eI.v++[v])) (E:(w.alloc o).grownBy w1 (vs (3+2*f)).ownBlock) (F:(vs (3+2*f)).ownBlock=some g∨g=w.heap.size+1):
 w1.heap[hb]?=some (.cells (bU p (.slice none 0 0) (.slice none 0 0) n vs) 94 (0,0))∧∃L' G s,jJ p L' hb n G s M (w1.setCell ⟨hb,3+2*f+5,none⟩ (.slice (some ⟨g,0,none⟩) ((A f).length+1) cap))∧
  xP f L' s (w1.setCell ⟨hb,3+2*f+5,none⟩ (.slice (some ⟨g,0,none⟩) ((A f).length+1) cap)) v N m∧s=zQ A f (A f++[⟨v,m⟩])∧rX f L L' w (w1.setCell ⟨hb,3+2*f+5,none⟩ (.slice (some ⟨g,0,none⟩) ((A f).length+1) cap)):=by
 obtain⟨L',l,H,q⟩:=(h.fam f B).more (k0:=⟨v,m⟩) (iW f) ⟨fun b e=>⟨c.lab b e,Nat.zero_le _,c.lt b e⟩,N,C,c.own⟩ D E F;have y:=lt_of_block h.blk;have z:w1.heap[hb]?=some (.cells (bU p (.slice none 0 0) (.slice none 0 0) n vs) 94 (0,0)):=(q.block hb y (by rw[h.lab];omega)).trans h.blk;have r:aH (·=hb) w1 (w1.setCell ⟨hb,3+2*f+5,none⟩ (.slice (some ⟨g,0,none⟩) ((A f).length+1) cap)):=aH.ofSet w1 hb _ _ rfl;have u:L' hb=0:=by rw[l hb y];exact h.lab
 have I:aH (fun k=>L k=0∨(3*f+1≤L k∧L k≤3*f+3)) w (w1.setCell ⟨hb,3+2*f+5,none⟩ (.slice (some ⟨g,0,none⟩) ((A f).length+1) cap)):=aH.trans (q.mono (fun k d=>.inr (by omega))) r (fun i J=>.inl (.inl (by rw[J];exact h.lab)));refine⟨z,L',pL vs (3+2*f) (.slice (some ⟨g,0,none⟩) ((A f).length+1) cap),_,⟨?_,u,?_⟩,?_,rfl,l,I⟩
 ·rw[←Dv _ _ _ _ _ _ _ (by omega) (by omega)];exact aK z _ _
 ·intro a O
  by_cases e:a=f
  ·subst e;rw[wM,show pL vs (3+2*a) (.slice (some ⟨g,0,none⟩) ((A a).length+1) cap) (3+2*a)=(.slice (some ⟨g,0,none⟩) ((A a).length+1) cap)from by simp[pL],show pL vs (3+2*a) (.slice (some ⟨g,0,none⟩) ((A a).length+1) cap) (4+2*a)=vs (4+2*a)from by simp[pL]];exact H.touch (iW a) r (fun k _ d=>.inl (by rw[d,u];omega))
  ·rw[yK _ _ e,show pL vs (3+2*f) (.slice (some ⟨g,0,none⟩) ((A f).length+1) cap) (3+2*a)=vs (3+2*a)from by simp[pL];omega,show pL vs (3+2*f) (.slice (some ⟨g,0,none⟩) ((A f).length+1) cap) (4+2*a)=vs (4+2*a)from by simp[pL];omega];refine(((h.fam a O).relabel l).touch (iW a) q (fun k d T=>?_)).touch (iW a) r (fun k _ d=>.inl (by rw[d,u];omega));rw[l k d];omega
 ·refine⟨aO c.own (fun b e=>?_),fun b e=>by rw[l b (c.lt b e)];exact c.lab b e,?_⟩
  ·have:=c.lab b e;exact(r.block b (Nat.lt_of_lt_of_le (c.lt b e) q.size) (fun P=>by rw[P,h.lab]at this;omega)).trans (q.block b (c.lt b e) (by omega))
  ·rw[wM];intro k d b j Q;rcases List.mem_append.1 d with d| d
   ·exact c.mine k d b j Q
   ·obtain rfl:=List.mem_singleton.1 d;refine⟨rfl,?_⟩;rcases c.own.2 with⟨R,_⟩| ⟨U,S,cur,x,_⟩
    ·rw[R]at j;simp[Value.ownBlock]at j
    ·rw[x]at j;simp[Value.ownBlock]at j;subst j;exact⟨N,S,x,x,Nat.le_refl _⟩
theorem jJ.mark(y:f<9)(h:jJ p L hb n vs A M w)(c:xP f L A w v N m)
 (z:w1.ownsRow 0 (eM f) 1 (.slice (some ⟨g,0,none⟩) ((M f).length+1) cap) ((M f).length+1) (((M f).map fun k=>mvK f k.mark)++[mvK f m])) (B:(w.alloc o).grownBy w1 (vs (4+2*f)).ownBlock) (C:(vs (4+2*f)).ownBlock=some g∨g=w.heap.size+1):
 w1.heap[hb]?=some (.cells (bU p (.slice none 0 0) (.slice none 0 0) n vs) 94 (0,0))∧∃L' D s,jJ p L' hb n D A s (w1.setCell ⟨hb,4+2*f+5,none⟩ (.slice (some ⟨g,0,none⟩) ((M f).length+1) cap))∧
  xP f L' A (w1.setCell ⟨hb,4+2*f+5,none⟩ (.slice (some ⟨g,0,none⟩) ((M f).length+1) cap)) v N m∧s=zQ M f (M f++[⟨v,m⟩])∧rX f L L' w (w1.setCell ⟨hb,4+2*f+5,none⟩ (.slice (some ⟨g,0,none⟩) ((M f).length+1) cap)):=by
 obtain⟨L',j,E,l⟩:=(h.fam f y).moreM (k0:=⟨v,m⟩) (iW f) z B C;have u:=lt_of_block h.blk;have x:w1.heap[hb]?=some (.cells (bU p (.slice none 0 0) (.slice none 0 0) n vs) 94 (0,0)):=(l.block hb u (by rw[h.lab];omega)).trans h.blk;have q:aH (·=hb) w1 (w1.setCell ⟨hb,4+2*f+5,none⟩ (.slice (some ⟨g,0,none⟩) ((M f).length+1) cap)):=aH.ofSet w1 hb _ _ rfl;have r:L' hb=0:=by rw[j hb u];exact h.lab
 have F:aH (fun k=>L k=0∨(3*f+1≤L k∧L k≤3*f+3)) w (w1.setCell ⟨hb,4+2*f+5,none⟩ (.slice (some ⟨g,0,none⟩) ((M f).length+1) cap)):=aH.trans (l.mono (fun k d=>.inr (by omega))) q (fun i G=>.inl (.inl (by rw[G];exact h.lab)));refine⟨x,L',pL vs (4+2*f) (.slice (some ⟨g,0,none⟩) ((M f).length+1) cap),_,⟨?_,r,?_⟩,?_,rfl,j,F⟩
 ·rw[←Dv _ _ _ _ _ _ _ (by omega) (by omega)];exact aK x _ _
 ·intro a H
  by_cases e:a=f
  ·subst e;rw[wM,show pL vs (4+2*a) (.slice (some ⟨g,0,none⟩) ((M a).length+1) cap) (3+2*a)=vs (3+2*a)from by simp[pL],show pL vs (4+2*a) (.slice (some ⟨g,0,none⟩) ((M a).length+1) cap) (4+2*a)=(.slice (some ⟨g,0,none⟩) ((M a).length+1) cap)from by simp[pL]];exact E.touch (iW a) q (fun k _ d=>.inl (by rw[d,r];omega))
  ·rw[yK _ _ e,show pL vs (4+2*f) (.slice (some ⟨g,0,none⟩) ((M f).length+1) cap) (3+2*a)=vs (3+2*a)from by simp[pL];omega,show pL vs (4+2*f) (.slice (some ⟨g,0,none⟩) ((M f).length+1) cap) (4+2*a)=vs (4+2*a)from by simp[pL];omega];refine(((h.fam a H).relabel j).touch (iW a) l (fun k d J=>?_)).touch (iW a) q (fun k _ d=>.inl (by rw[d,r];omega));rw[j k d];omega
 ·refine c.keep (fun b e=>⟨?_,j b (c.lt b e)⟩) rfl;have:=c.lab b e;exact(q.block b (Nat.lt_of_lt_of_le (c.lt b e) l.size) (fun I=>by rw[I,h.lab]at this;omega)).trans (l.block b (c.lt b e) (by omega))
theorem Eg{base:Nat}{e:TypeId}{s:Nat}{b:List Value}(h:w.ownsRow base e s (.slice (some ⟨g,0,none⟩) N cap) N b)(k:Nat)(d:k≤N):w.ownsRow base e s (.slice (some ⟨g,0,none⟩) k cap) k (b.take (k*s)):=by
 obtain⟨i,a⟩:=h;have j:k*s≤N*s:=Nat.mul_le_mul_right s d;rcases a with⟨a,_⟩| ⟨x,y,cur,c,hb,l,z,q,r,u⟩
 ·cases a
 ·simp at c;obtain⟨rfl,rfl⟩:=c;refine⟨by rw[List.length_take,i];omega,.inr ⟨g,cap,cur,rfl,hb,l,by omega,q,r,?_⟩⟩;rw[←u,List.take_take,Nat.min_eq_left j]
def Grew(w w':World)(v:Value)(n g cap:Nat):Prop:=(v=.slice (some ⟨g,0,none⟩) n cap∧w.grownBy w' (some g))∨(w.heap.size≤g∧w.grownBy w' none)
theorem jJ.list(O:f<9)(h:jJ p L hb n vs A M w)(c:xP f L A w v N m){F:World}(x:aH (fun _=>False) w F)
 (s:w1.ownsRow 0 (ety f) (mF f) (.slice (some ⟨g,0,none⟩) (N+1) cap) (N+1) (nT N (nG f m)++nG f m))
 (r:Grew F w1 v N g cap):
 ∃L',jJ p L' hb n vs A M w1∧xP f L' A w1 (.slice (some ⟨g,0,none⟩) (N+1) cap) (N+1) m∧rX f L L' w w1:=by
 rw[←uK]at s;have V:=x.size;rcases r with⟨rfl,r⟩| ⟨W,r⟩
 ·have j:=c.lab g rfl;have X:=c.lt g rfl;have t:aH (·=g) w w1:=aH.trans (x.mono (fun _ h=>h.elim)) (aH.ofGrown r (fun k e=>.inl (by simpa using e.symm))) (fun i y=>.inl y);refine⟨L,⟨(t.block hb (lt_of_block h.blk) (fun e=>by rw[←e,h.lab]at j;omega)).trans h.blk,h.lab,?_⟩,⟨s,fun b e=>by simp[Value.ownBlock]at e;subst e;exact j,?_⟩,fun _ _=>rfl,t.mono (fun k a=>.inr (by rw[a,j];omega))⟩
  ·intro l G
   by_cases e:l=f
   ·subst e;have hF:=h.fam l G;have z:∀b,b<w.heap.size→b≠g→w1.heap[b]?=w.heap[b]?:=fun b hb P=>t.block b hb P
    refine⟨aO hF.own fun b e=>z b (hF.own.lt b e).2 (fun hb=>by have:=hF.lab b e;rw[hb,j]at this;omega),hF.lab,aO hF.ownM fun b e=>z b (hF.ownM.lt b e).2 (fun hb=>by have:=hF.labM b e;rw[hb,j]at this;omega),hF.labM,?_⟩;intro k a;obtain⟨q,u⟩:=hF.kept k a;refine⟨fun b e=>⟨(q b e).1,(q b e).2.1,Nat.lt_of_lt_of_le (q b e).2.2 t.size⟩,?_⟩
    by_cases H:k.v.ownBlock=some g
    ·obtain⟨Q,B,R,C,I,Y⟩:=c.mine k a g rfl H;simp at I;subst I;obtain⟨D,S,T⟩:=u;have U:D=B:=by
      rcases T.2 with⟨d,_⟩| ⟨Z,a0,cur,d,_⟩
      ·rw[C]at d;cases d
      ·rw[C]at d;simp at d;exact d.2.1.symm
     subst U;refine⟨D,S,?_⟩;have:=Eg s D (by omega);rw[C,Q]
     rwa [←gY l m,Mv (by omega),gY]at this
    ·exact iW l w w1 k (fun b e=>z b (q b e).2.2 (fun hb=>H (by rw[e,hb]))) u
   ·exact(h.fam l G).touch (iW l) t (fun k _ a=>by rw[a,j];omega)
  ·intro k a b d E;simp[Value.ownBlock]at d;subst d;obtain⟨q,B,R,u,J,a1⟩:=c.mine k a g rfl E;simp at J;subst J;exact⟨q,B,cap,u,rfl,by omega⟩
 ·have t:aH (fun _=>False) w w1:=aH.trans x (aH.ofGrown r (by simp)) (fun i y=>.inl y);refine⟨fun k=>if k<w.heap.size then L k else 3*f+3,(h.relabel (L':=fun k=>if k<w.heap.size then L k else 3*f+3) (fun k a _=>if_pos a)).touch t (fun _ _ h=>h.elim),⟨s,fun b e=>?_,?_⟩,fun k a=>if_pos a,t.mono (fun _ h=>h.elim)⟩
  ·simp[Value.ownBlock]at e;subst e;exact if_neg (by omega)
  ·intro k a b d E;simp[Value.ownBlock]at d;subst d;have:=((h.fam f O).kept k a).1 g E;omega
end
theorem jV{P:Program}{w:World}{y:Array Oper}{B:List Oper}{o:Oper}{a:Act}{Q:Exit→Act→World→Prop}(D:o.guard=none)(s x:Operand)(t:TypeId)
 (E:o.op=Op.call { callee:=Callee.builtin Builtin.append,args:=#[s,x],argTypes:=#[t,t] })
 (e:TypeId) (i:TypeInfo) (z:Value) (size bytes:Nat) (F:P.underlying t=some (.slice e)) (G:P.info? e=some i) (U:i.zero=some z)
 (H:i.size=size) (V:i.bytes=bytes) (W:z.cells.size=size) (X:0<size)
 (v:Value) (n:Nat) (r:List Value) (C:a.eval s=v) (l:w.ownsRow 0 e size v n r)
 (ad:Addr) (m c:Nat) (q:List Value) (I:a.eval x=.slice (some ad) m c) (J:q.length=m*size) (O:∀k d,q[k]?=some d→w.cell? (ad.add k)=some d) (R:∀d∈q,d.oneCell'=true)
 (b3:0<m) (Y:n+m≤maxLen) (Z:(n+m)*bytes≤140737488355328)
 (h:∀g cap w',w'.ownsRow 0 e size (.slice (some ⟨g,0,none⟩) (n+m) cap) (n+m) (r++q)→Grew w w' v n g cap→wpList P y Q B (a.put o.dst (.slice (some ⟨g,0,none⟩) (n+m) cap)) w'):wpList P y Q (o::B) a w:=by
 have S:∀ (u:Option Addr) (cap:Nat),v=.slice u n cap→(u=none→n=0∧cap=0)→(∀b,u=some b→∀k d,r[k]?=some d→w.cell? (b.add k)=some d)→cap<n+m→wpList P y Q (o::B) a w:=by
  intro u cap j a0 a1 a2;refine wpList_append_grows w D s x t E e i z size bytes F G U H V W X u n cap r (C.trans j) a0 l.1 a1 ad m c q I J O R a2 Y Z (fun b4 w' T a3=>?_);obtain⟨a4,a5,rfl,a6,b5⟩:=T.form (by omega);exact h a4 a5 w' (bI T (Nat.zero_le _)) (.inr ⟨a6,a3⟩)
 rcases l.2 with⟨j,a7⟩| ⟨g,cap,cur,j,_⟩
 ·subst a7;exact S none 0 j (fun _=>⟨rfl,rfl⟩) (fun b hb=>by simp at hb) (by omega)
 ·by_cases a8:n+m≤cap
  ·rw[j]at C l;exact wpList_append_fits w D s x t E 0 e i size F G H g n cap r C l ad m c q I J O R a8 (fun w' a9 b0=>h g cap w' a9 (.inl ⟨j,b0⟩))
  ·rw[j]at l;exact S _ cap j (fun b1=>by simp at b1) (fun b hb k d b2=>by obtain rfl:b=⟨g,0,none⟩:=(by simpa using hb.symm);exact l.cells rfl k d b2) (by omega)
end
theorem Tryz.info3:(Tryz.prog.info? 3).map (fun i=>(i.zero,i.size,i.bytes))=some (some (.int .i64 0),1,8):=by kernel_rfl
theorem Tryz.info40:(Tryz.prog.info? 40).map (fun i=>(i.zero,i.size,i.bytes))=some (some (.slice none 0 0),1,24):=by kernel_rfl
theorem Tryz.info49:(Tryz.prog.info? 49).map (fun i=>(i.zero,i.size,i.bytes))=some (some (.slice none 0 0),1,24):=by kernel_rfl
theorem Tryz.info41:(Tryz.prog.info? 41).map (fun i=>(i.zero,i.size,i.bytes))=some (some (.slice none 0 0),1,24):=by kernel_rfl
theorem Tryz.info52:(Tryz.prog.info? 52).map (fun i=>(i.zero,i.size,i.bytes))=some (some (.agg #[.int .i64 0,.int .i64 0,.int .i64 0,.int .i64 0,.int .i64 0]),5,40):=by kernel_rfl
theorem Tryz.info47:(Tryz.prog.info? 47).map (fun i=>(i.zero,i.size,i.bytes))=some (some (.agg #[.int .i64 0,.int .i64 0,.bool false]),3,24):=by kernel_rfl
theorem wZ(p:Nat→Value)(a:Nat)(c vW:Value)(n:Int)(d:Nat→Value)(w:World)(b:w.heap[a]?=some (.cells (bU p c vW n d) 94 (0,0)))(g:0≤n)(h:n≤1000000000000):
 Calls Tryz.prog 139 #[.pointer (some ⟨a,5,none⟩)] w fun e w'=>e=.returned (.int .i64 (-77000000-(n+1)))∧w'.heap[a]?=some (.cells (bU p c vW (n+1) d) 94 (0,0))∧aH (·=a) w w':=by
 have c2:w.cell? ⟨a,7,none⟩=some (.int .i64 n):=aD b;have i:=aJ b 7;have f:=aI b;clear b
 go_enter Tryz.func139,Tryz.ntmps139
 go_wp2
 go_ret
 exact⟨rfl,aK f.out 7 _,aH.ofSet w a 7 _ rfl⟩
def zO(w:World)(g:Nat):Nat→List Value→World
 | _,[]=>w
 | o,u::us=>zO (w.setCell ⟨g,o,none⟩ u) g (o+1) us
def Qo(a:List Value):Nat→List Value→List Value
 | _,[]=>a
 | o,u::us=>Qo (a.set o u) (o+1) us
theorem Fj(b:List Value)(o:Nat)(c:List Value)(h:o+c.length≤b.length)(a:Nat):(Qo b o c)[a]?=if o≤a∧a<o+c.length then c[a-o]? else b[a]?:=by
 induction c generalizing b o with
 | nil=>rw[if_neg (by simp)];rfl
 | cons d f ih=>
  show(Qo (b.set o d) (o+1) f)[a]?=_
  rw[List.length_cons]at h;rw[ih (b.set o d) (o+1) (by rw[List.length_set];omega)]
  by_cases g:o+1≤a∧a<o+1+f.length
  ·rw[if_pos g,if_pos (by simp;omega),show a-o=(a-(o+1))+1 from by omega];rfl
  ·rw[if_neg g]
   by_cases i:a=o
   ·subst i;rw[if_pos (by simp),Nat.sub_self,List.getElem?_set_self (by omega)];rfl
   ·rw[if_neg (by simp;omega),List.getElem?_set_ne (by omega)]
theorem sP{w:World}{base:Nat}{e:TypeId}{s g a cap:Nat}{d:List Value}(h:w.ownsRow base e s (.slice (some ⟨g,0,none⟩) a cap) a d)(o:Nat)(b:Value):(w.setCell ⟨g,o,none⟩ b).ownsRow base e s (.slice (some ⟨g,0,none⟩) a cap) a (d.set o b):=by
 obtain⟨i,c⟩:=h;rcases c with⟨c,_⟩| ⟨q,r,cur,f,j,k,l,m,n,p⟩
 ·cases c
 ·simp at f;obtain⟨rfl,rfl⟩:=f;refine⟨by rw[List.length_set];exact i,.inr ⟨g,cap,cur.setIfInBounds o b,rfl,j,aK k o b,l,m,by simp[n],?_⟩⟩;rw[←p,Array.toList_setIfInBounds,List.take_set]
theorem Fu{base:Nat}{e:TypeId}{s g a cap:Nat}(b:List Value):∀ (w:World) (c:List Value) (o:Nat),w.ownsRow base e s (.slice (some ⟨g,0,none⟩) a cap) a c→o+b.length≤a*s→(zO w g o b).ownsRow base e s (.slice (some ⟨g,0,none⟩) a cap) a (Qo c o b):=by
 induction b with
 | nil=>intro w c o h _;exact h
 | cons d i ih=>
  intro w c o h f;rw[List.length_cons]at f;exact ih _ _ _ (sP h o d) (by omega)
theorem xV(g:Nat)(a:List Value):∀ (w:World) (o:Nat),aH (·=g) w (zO w g o a):=by
 induction a with
 | nil=>intro w o;exact aH.refl _ _
 | cons b d ih=>intro w o;exact aH.trans (aH.ofSet w g o b rfl) (ih _ _) (fun i c=>.inl c)
structure rI(f:Nat)(w1:World)(v:Value)(N:Nat)(m:Int)(k:Nat)(wr:World):Prop where
 ex:∃xs,wr.ownsRow 0 (ety f) (mF f) v N xs∧∀j,j<k*mF f→xs[j]?=(nT N (nG f m))[j]?
 t:aH (fun b=>v.ownBlock=some b) w1 wr
theorem rI.start{f:Nat}{a:World}{v:Value}{b:Nat}{d:Int}{c:List Value}(h:a.ownsRow 0 (ety f) (mF f) v b c):rI f a v b d 0 a:=⟨⟨c,h,fun i g=>by simp at g⟩,aH.refl _ _⟩
theorem rI.step{f:Nat}{l wr:World}{g a c:Nat}{b:Int}{k:Nat}(h:rI f l (.slice (some ⟨g,0,none⟩) a c) a b k wr)(m:k<a):rI f l (.slice (some ⟨g,0,none⟩) a c) a b (k+1) (zO wr g (k*mF f) (nG f b)):=by
 obtain⟨o,n,p⟩:=h.ex;have j:(k+1)*mF f≤a*mF f:=Nat.mul_le_mul_right _ m;rw[Nat.add_mul,Nat.one_mul]at j;have q:=n.1;refine⟨⟨_,Fu (nG f b) wr o _ n (by rw[gY];exact j),fun d r=>?_⟩,aH.trans h.t (xV g _ wr _) (fun i s=>.inl (by rw[s];rfl))⟩;rw[Nat.add_mul,Nat.one_mul]at r;rw[Fj _ _ _ (by rw[gY,q];exact j),gY]
 by_cases u:d<k*mF f
 ·rw[if_neg (by omega)];exact p d u
 ·rw[if_pos (by omega)];have:=Ru a (nG f b) k (d-k*mF f) m (by rw[gY];omega);rw[gY,show k*mF f+(d-k*mF f)=d from by omega]at this;exact this.symm
theorem rI.full{f:Nat}{g wr:World}{v:Value}{a:Nat}{b:Int}(h:rI f g v a b a wr):wr.ownsRow 0 (ety f) (mF f) v a (nT a (nG f b)):=by
 obtain⟨i,c,j⟩:=h.ex;have e:i=nT a (nG f b):=by
  apply List.ext_getElem?
  intro d
  by_cases k:d<a*mF f
  ·exact j d k
  ·rw[List.getElem?_eq_none (by rw[c.1];omega),List.getElem?_eq_none (by rw[lJ,gY];omega)]
 rw[←e];exact c
theorem rI.at{f:Nat}{i wr:World}{ad:Option Addr}{a c:Nat}{j:Int}{k:Nat}(h:rI f i (.slice ad a c) a j k wr)(q:k<a):∃ (g:Nat) (l:Nat→Value),ad=some ⟨g,0,none⟩∧(∀o,o<mF f→wr.cell? ⟨g,k*mF f+o,none⟩=some (l o))∧∀o,wr.frozen? ⟨g,o,none⟩=false:=by
 obtain⟨r,m,_⟩:=h.ex;rcases m.2 with⟨_,s⟩| ⟨g,cap,cur,b,_,d,u,v,x,_⟩
 ·omega
 ·simp at b;have n:(k+1)*mF f≤cap*mF f:=Nat.mul_le_mul_right _ (by omega);rw[Nat.add_mul,Nat.one_mul]at n;refine⟨g,fun o=>cur[k*mF f+o]?.getD default,b.1,fun o y=>?_,fun o=>aJ d o⟩;have p:k*mF f+o<cur.size:=by omega
  show _=some (cur[k*mF f+o]?.getD default)
  rw[cell_of_row _ _ _ _ _ _ d];simp[p]
def uF(a:Nat→Nat)(f:Nat)(v:Value):Nat→Nat:=fun k=>if v.ownBlock=some k then 3*f+3 else a k
theorem jJ.begin{f:Nat}{p:Nat→Value}{c:Nat→Nat}{g:Nat}{n:Int}{i:Nat→Value}{a:Nat→List eI}{m wr:World}{v:Value}{j:Nat}{o:Int}(r:f<9)(h:jJ p c g n i a a m)(l:∀b,v.ownBlock=some b→100≤c b)(hF:rI f m v j o j wr):
 jJ p (uF c f v) g n i a a wr∧xP f (uF c f v) a wr v j o:=by
 have q:jJ p c g n i a a wr:=h.touch hF.t (fun k _ d=>by have:=l k d;omega);refine⟨q.relabel (fun k _ d=>if_neg (fun e=>by have:=l k e;omega)),hF.full,fun b e=>if_pos e,fun k d b s u=>?_⟩;have:=((q.fam f r).kept k d).1 b u;have:=l b s;omega
structure gX(p:Nat→Value)(f:Nat)(w:World)(L:Nat→Nat)(A:Nat→List eI)(v0:Value)(hb:Nat)(n:Int)(N:Nat)(m:Int)(j:Nat)(L':Nat→Nat)(vs':Nat→Value)(A':Nat→List eI)(v:Value)(wq:World):Prop where
 h:jJ p L' hb n vs' A' A' wq
 c:xP f L' A' wq v (N+j) m
 len:∀i,(A' i).length=(A i).length+if i=f then j else 0
 lab:∀k,k<w.heap.size→L' k=uF L f v0 k
 t:aH (fun k=>L k≤27∨v0.ownBlock=some k) w wq
theorem aH.alloc(w:World)(o:Obj):aH (fun _=>False) w (w.alloc o):=⟨rfl,rfl,rfl,by simp,fun k a _=>Below.heap_alloc w o k a⟩
theorem gX.next{p:Nat→Value}{f:Nat}{w:World}{r:Nat→Nat}{s:Nat→List eI}{u:Value}{j:Nat}{n:Int}{l:Nat}{c:Int}{m:Nat}{v d:Nat→Nat}{B x:Nat→Value}{o a:Nat→List eI}{y z:Value}{wr g:World}(G:f<9)(b:gX p f w r s u j n l c m v B o y wr)
 (C:a=zQ o f (o f++[⟨y,c⟩])) (A:rX f v d wr g) (D:jJ p d j n x a a g) (E:xP f d a g z (l+m+1) c):gX p f w r s u j n l c (m+1) d x a z g:=by
 have H:=b.t.size;refine⟨D,E,fun i=>?_,fun k F=>(A.lab k (by omega)).trans (b.lab k F),aH.trans b.t A.t (fun i q=>?_)⟩
 ·have:=b.len i;subst C
  by_cases e:i=f
  ·subst e;rw[wM,List.length_append,this,if_pos rfl,if_pos rfl];rfl
  ·rw[yK _ _ e,this,if_neg e,if_neg e]
 ·by_cases h:i<w.heap.size
  ·left
   rw[b.lab i h]at q;unfold uF at q;split at q
   ·exact .inr (by assumption)
   ·left;omega
  ·right;omega
def xB(e:Nat→Int):List Value:=[.int .i64 (e 0),.int .i64 (e 1),.int .i64 (e 2),.int .i64 (e 3),.int .i64 (e 4),.int .i64 (e 5)]
def cD(bs:List Int)(s i:Nat):Nat→Int
 | 0=>gQ bs s i
 | k+1=>cY bs s i k
theorem Je{w:World}{base x cap:Nat}{zs:List Int}(h:w.ownsRow base 5 1 (.slice (some ⟨x,0,none⟩) 16 cap) 16 (bZ zs)):jG w x 0 zs∧16≤cap∧cap≤9223372036854775807:=by
 rcases h.2 with⟨b,_⟩| ⟨g,f,cur,a,_,_,c,d,_⟩
 ·cases b
 ·simp at a;obtain⟨rfl,rfl⟩:=a;exact⟨iS h,c,by unfold maxLen at d;omega⟩
theorem Eh(r pb g:Nat)(bs:List Int)(left res:Int)(dead:Bool)(done:Int)(s i:Nat)(w:World)(z:s<2)(A:i<8)(h:aS w g bs left res dead done)
 (u:w.heap[r]?=some (.cells #[.pointer (some ⟨g,0,none⟩)] 107 (0,0))) (y:w.heap[pb]?=some (.cells #[.int .i64 s] 3 (0,0))):
 Calls Tryz.prog 167 #[.int .i64 i,.pointer (some ⟨r,0,none⟩),.pointer (some ⟨pb,0,none⟩)] w fun e w'=>e=.returned (.agg #[.int .i64 (cD bs s i 0),.int .i64 (cD bs s i 1),.int .i64 (cD bs s i 2),.int .i64 (cD bs s i 3),.int .i64 (cD bs s i 4),.int .i64 (cD bs s i 5)])∧Below w.heap.size w w':=by
 have a4:w.cell? ⟨r,0,none⟩=some (.pointer (some ⟨g,0,none⟩)):=aD u;have cp:w.cell? ⟨pb,0,none⟩=some (.int .i64 s):=aD y;have a5:=lt_of_block u;have a6:=lt_of_block y;have B:Hid (∀W:World,Below w.heap.size w W→Calls Tryz.prog 169 #[.agg #[.pointer (some ⟨g,0,none⟩)],.int .i64 s,.int .i64 i] W fun e w'=>∃x cap,e=.returned (.slice (some ⟨x,0,none⟩) 16 cap)∧w'.ownsRow W.heap.size 5 1 (.slice (some ⟨x,0,none⟩) 16 cap) 16 (bZ (eG bs s i))∧Below W.heap.size W w'):=fun W G=>Hh g bs left res dead done s i W z A (h.below G)
 have H:=aI (mE bs s i h.len z A);have I:Hid (cT (eG bs s i)):=(h.bytes.drop _).take _;have f:Hid (cD bs s i 0=dH (eG bs s i)∧cD bs s i 1=dL (eG bs s i) 0∧cD bs s i 2=dL (eG bs s i) 1∧cD bs s i 3=dL (eG bs s i) 2∧cD bs s i 4=dL (eG bs s i) 3∧cD bs s i 5=dL (eG bs s i) 4):=⟨rfl,rfl,rfl,rfl,rfl,rfl⟩;clear h u y;have C:=aI (B.out (w.alloc (.cells #[.int .i64 0,.int .i64 0,.int .i64 0,.int .i64 0,.int .i64 0,.int .i64 0] 259)) (aG _ _));clear B
 go_enter Tryz.func167,Tryz.ntmps167
 go_wp2_with fail
 refine C.out.mono ?_;rintro e n ⟨x,cap,rfl,D,o⟩;obtain⟨E,J,L⟩:=Je D;have c:=aI (Hu x 0 cap (eG bs s i) n H.out I.out E J L);have a7:w.heap.size+1≤n.heap.size:=by have:=o.size;simp at this;exact this
 have F:n.heap[w.heap.size]?=some (.cells #[.int .i64 0,.int .i64 0,.int .i64 0,.int .i64 0,.int .i64 0,.int .i64 0] 259 (0,0)):=(o.block _ (by simp)).trans (heap_alloc_new w _);have M:Hid (Below w.heap.size w n):=(aG _ _).trans (o.mono (by simp));have N:=aI F;clear D o E F C;simp only[jZ]at c;generalize dH (eG bs s i)=kk at c f;generalize dL (eG bs s i) 0=j at c f;generalize dL (eG bs s i) 1=r1 at c f;generalize dL (eG bs s i) 2=k at c f;generalize dL (eG bs s i) 3=l at c f;generalize dL (eG bs s i) 4=m at c f;go_wp2_with fail
 refine c.out.mono ?_;rintro e d ⟨rfl,p⟩;have a8:=p.size;have a:=(p.block _ (by omega)).trans N.out;have O:Hid (Below w.heap.size w d):=M.out.trans (p.mono (by omega));have z0:d.cell? ⟨w.heap.size,0,none⟩=some (.int .i64 0):=aD a;have z1:d.cell? ⟨w.heap.size,1,none⟩=some (.int .i64 0):=aD a;have z2:d.cell? ⟨w.heap.size,2,none⟩=some (.int .i64 0):=aD a;have z3:d.cell? ⟨w.heap.size,3,none⟩=some (.int .i64 0):=aD a;have a9:d.cell? ⟨w.heap.size,4,none⟩=some (.int .i64 0):=aD a;have b0:d.cell? ⟨w.heap.size,5,none⟩=some (.int .i64 0):=aD a;have b1:=aJ a 0;have b2:=aJ a 1;have b3:=aJ a 2;have b4:=aJ a 3;have f4:=aJ a 4;have b5:=aJ a 5;have b6:w.heap.size<d.heap.size:=by omega
 obtain⟨b,q⟩:∃b,b=World.alloc ((((((d.setCell ⟨w.heap.size,0,none⟩ (.int .i64 kk)).setCell ⟨w.heap.size,1,none⟩ (.int .i64 j)).setCell ⟨w.heap.size,2,none⟩ (.int .i64 r1)).setCell ⟨w.heap.size,3,none⟩ (.int .i64 k)).setCell ⟨w.heap.size,4,none⟩ (.int .i64 l)).setCell ⟨w.heap.size,5,none⟩ (.int .i64 m)) (.cells #[.int .i64 j,.int .i64 r1,.int .i64 k,.int .i64 l,.int .i64 m] 52):=⟨_,rfl⟩;have hF:b.heap[w.heap.size]?=some (.cells #[.int .i64 kk,.int .i64 j,.int .i64 r1,.int .i64 k,.int .i64 l,.int .i64 m] 259 (0,0)):=by
  rw[q,Below.heap_alloc _ _ _ (by simp;omega)];exact aK (aK (aK (aK (aK (aK a 0 _) 1 _) 2 _) 3 _) 4 _) 5 _
 have P:b.cell? ⟨w.heap.size,0,none⟩=some (.int .i64 kk):=aD hF;have Q:b.cell? ⟨w.heap.size,1,none⟩=some (.int .i64 j):=aD hF;have R:b.cell? ⟨w.heap.size,2,none⟩=some (.int .i64 r1):=aD hF;have S:b.cell? ⟨w.heap.size,3,none⟩=some (.int .i64 k):=aD hF;have T:b.cell? ⟨w.heap.size,4,none⟩=some (.int .i64 l):=aD hF;have U:b.cell? ⟨w.heap.size,5,none⟩=some (.int .i64 m):=aD hF;have V:Hid (Below w.heap.size w b):=by
  show Below _ _ _
  rw[q];refine Below.alloc ?_ (by simp;omega) _
  iterate 6 refine Below.thenSet ?_ (Nat.le_refl _) _ _
  exact O.out
 have X:=aI q;clear p a c hF q;go_wp2
 rw[←X.out];refine bodyPost_ret (v:=.agg #[.int .i64 kk,.int .i64 j,.int .i64 r1,.int .i64 k,.int .i64 l,.int .i64 m]) (by simp[results,Tryz.results167,go_sem,P,Q,R,S,T,U]) rfl ?_;obtain⟨Y,Z,a0,a1,a2,a3⟩:=f.out;rw[Y,Z,a0,a1,a2,a3];exact⟨rfl,V.out⟩
theorem Qk{b:Type}(C:b→List Value)(n:Nat)(c:∀x,(C x).length=n)(l:List b):(l.flatMap C).length=l.length*n:=by
 induction l with
 | nil=>simp
 | cons a l ih=>rw[List.flatMap_cons,List.length_append,ih,c,List.length_cons,Nat.succ_mul,Nat.add_comm]
theorem Lz{b:Type}(C:b→List Value)(n:Nat)(f:∀x,(C x).length=n)(l:List b)(e:b)(c:List Value)(h:n≤c.length):Qo (l.flatMap C++c) (l.length*n) (C e)=(l++[e]).flatMap C++c.drop n:=by
 apply List.ext_getElem?
 intro g;have d:=Qk C n f l;have a:=f e;rw[Fj _ _ _ (by rw[List.length_append,d,a];omega),a,show(l++[e]).flatMap C=l.flatMap C++C e from by simp,List.append_assoc];generalize l.length*n=q at *
 by_cases i:g<q
 ·rw[if_neg (by omega),List.getElem?_append_left (by omega),List.getElem?_append_left (by omega)]
 ·by_cases j:g<q+n
  ·rw[if_pos (by omega),List.getElem?_append_right (by omega),d,List.getElem?_append_left (by rw[a];omega)]
  ·rw[if_neg (by omega),List.getElem?_append_right (by omega),List.getElem?_append_right (by omega),d,List.getElem?_append_right (by rw[a];omega),a,List.getElem?_drop]
   congr 1
   omega
theorem nF(w:World)(T b:TypeId)(n many:Nat)(a:Array Value)(i:many≤255)(c:a.size=many*n):∀W,W=(((w.alloc (.cells #[.slice none 0 0] T)).alloc (.cells a b)).alloc (.cells #[.slice (some ⟨w.heap.size+1,0,none⟩) many many] T))→aH (fun _=>False) w W∧W.heap.size=w.heap.size+3∧W.heap[w.heap.size]?=some (.cells #[.slice none 0 0] T (0,0))∧W.heap[w.heap.size+2]?=some (.cells #[.slice (some ⟨w.heap.size+1,0,none⟩) many many] T (0,0))∧W.ownsRow w.heap.size b n (.slice (some ⟨w.heap.size+1,0,none⟩) many many) many a.toList:=by
 rintro W rfl;have d:(w.alloc (.cells #[.slice none 0 0] T)).heap.size=w.heap.size+1:=by simp
 have f:((w.alloc (.cells #[.slice none 0 0] T)).alloc (.cells a b)).heap.size=w.heap.size+2:=by simp
 refine⟨aH.trans (aH.trans (aH.alloc _ _) (aH.alloc _ _) (fun _ h=>.inl h)) (aH.alloc _ _) (fun _ h=>.inl h),by simp,?_,?_,?_⟩
 ·rw[Below.heap_alloc _ _ _ (by omega),Below.heap_alloc _ _ _ (by omega)];exact heap_alloc_new w _
 ·have:=heap_alloc_new ((w.alloc (.cells #[.slice none 0 0] T)).alloc (.cells a b)) (.cells #[.slice (some ⟨w.heap.size+1,0,none⟩) many many] T)
  rwa [f]at this
 ·have g:(((w.alloc (.cells #[.slice none 0 0] T)).alloc (.cells a b)).alloc (.cells #[.slice (some ⟨w.heap.size+1,0,none⟩) many many] T)).heap[w.heap.size+1]?=some (.cells a b (0,0)):=by
   rw[Below.heap_alloc _ _ _ (by omega)];have:=heap_alloc_new (w.alloc (.cells #[.slice none 0 0] T)) (.cells a b)
   rwa [d]at this
  exact⟨by simp[c],.inr ⟨w.heap.size+1,many,a,rfl,by omega,g,Nat.le_refl _,by unfold maxLen;omega,c,by rw[List.take_of_length_le (by simp[c])]⟩⟩
theorem lM{g:Type}(C:g→List Value)(n:Nat)(r:∀x,(C x).length=n)(T i:TypeId)(w:World)(many k:Nat)(S:Nat→Prop)(p:∀b,S b→b<w.heap.size)(j:Nat→List g→World→Prop)(B:∀s l wr w',j s l wr→aH (fun b=>w.heap.size≤b∧b<w.heap.size+3) wr w'→j s l w')
 (l:List g) (c:List Value) (wr:World) (D:k<many) (u:l.length=k) (R:w.heap.size+3≤wr.heap.size) (E:wr.heap[w.heap.size]?=some (.cells #[.slice none 0 0] T (0,0))) (F:wr.heap[w.heap.size+2]?=some (.cells #[.slice (some ⟨w.heap.size+1,0,none⟩) many many] T (0,0))) (q:wr.ownsRow w.heap.size i n (.slice (some ⟨w.heap.size+1,0,none⟩) many many) many (l.flatMap C++c)) (G:c.length=(many-k)*n):
 ∀ (x:g) (a:World),j (k+1) (l++[x]) a→aH S wr.drew a→a.cell? ⟨w.heap.size+2,0,none⟩=some (.slice (some ⟨w.heap.size+1,0,none⟩) many many)∧(∃H:Nat→Value,∀o,o<n→a.cell? ⟨w.heap.size+1,k*n+o,none⟩=some (H o))∧(∀o,a.frozen? ⟨w.heap.size+1,o,none⟩=false)∧
  (j (k+1) (l++[x]) (zO a (w.heap.size+1) (k*n) (C x))∧w.heap.size+3≤(zO a (w.heap.size+1) (k*n) (C x)).heap.size∧(zO a (w.heap.size+1) (k*n) (C x)).heap[w.heap.size]?=some (.cells #[.slice none 0 0] T (0,0))∧(zO a (w.heap.size+1) (k*n) (C x)).heap[w.heap.size+2]?=some (.cells #[.slice (some ⟨w.heap.size+1,0,none⟩) many many] T (0,0))∧(zO a (w.heap.size+1) (k*n) (C x)).ownsRow w.heap.size i n (.slice (some ⟨w.heap.size+1,0,none⟩) many many) many ((l++[x]).flatMap C++c.drop n)):=by
 intro x a I d;have J:k*n+n≤many*n:=by rw[←Nat.succ_mul];exact Nat.mul_le_mul_right n D
 have L:n≤c.length:=by rw[G];exact Nat.le_mul_of_pos_left n (by omega)
 have m:aH S wr a:=⟨d.os,d.tape,d.output,d.size,d.block⟩;have U:=m.size;have v:=(m.block _ (by omega) (fun f=>by have:=p _ f;omega)).trans F;have y:a.ownsRow w.heap.size i n (.slice (some ⟨w.heap.size+1,0,none⟩) many many) many (l.flatMap C++c):=aO q (fun b e=>m.block b (World.ownsRow.lt q b e).2 (fun f=>by have:=p _ f;have:=(World.ownsRow.lt q b e).1;omega));obtain⟨cur,z,V⟩:∃cur:Array Value,a.heap[w.heap.size+1]?=some (.cells cur i (0,0))∧cur.size=many*n:=by
  rcases y.2 with⟨h,_⟩| ⟨W,X,cur,A,_,M,_,_,N,_⟩
  ·cases h
  ·simp at A;obtain⟨rfl,rfl⟩:=A;exact⟨cur,M,N⟩
 have t:=xV (w.heap.size+1) (C x) a (k*n);have O:=(m.block _ (by omega) (fun f=>by have:=p _ f;omega)).trans E;refine⟨aD v,⟨fun o=>cur[k*n+o]?.getD default,fun o Y=>?_⟩,fun o=>aJ z o,B _ _ _ _ I (t.mono (fun b P=>by rw[P];omega)),by have:=t.size;omega,(t.block _ (by omega) (by omega)).trans O,(t.block _ (by omega) (by omega)).trans v,?_⟩
 ·have Q:k*n+o<cur.size:=by omega
  show _=some (cur[k*n+o]?.getD default)
  rw[cell_of_row _ _ _ _ _ _ z];simp[Q]
 ·have:=Fu (C x) a _ (k*n) y (by rw[r];exact J);rw[←u,Lz C n r l x c L]at this;rw[←u];exact this
theorem Tryz.info259:(Tryz.prog.info? 259).map (fun i=>(i.zero,i.size,i.bytes))=some (some (.agg #[.int .i64 0,.int .i64 0,.int .i64 0,.int .i64 0,.int .i64 0,.int .i64 0]),6,48):=by kernel_rfl
def mN(l:List (Nat→Int)):List Value:=l.flatMap xB
theorem Ga(B pb:Nat)(many:Nat)(O:many≤255)(S:Nat→Prop)(w:World)(C:∀b,S b→b<w.heap.size)(a:Nat→List (Nat→Int)→World→Prop)
 (D:∀c l wr w',a c l wr→aH (fun b=>w.heap.size≤b∧b<w.heap.size+3) wr w'→a c l w')
 (E:∀c l wr,c<many→a c l wr→w.heap.size≤wr.heap.size→Calls Tryz.prog 167 #[.int .i64 c,.pointer (some ⟨B,0,none⟩),.pointer (some ⟨pb,0,none⟩)] wr fun e w'=>∃x:Nat→Int,e=.returned (.agg #[.int .i64 (x 0),.int .i64 (x 1),.int .i64 (x 2),.int .i64 (x 3),.int .i64 (x 4),.int .i64 (x 5)])∧a (c+1) (l++[x]) w'∧aH S wr w')
 (F:a 0 [] w):Calls Tryz.prog 166 #[.int .i64 many,.func (.func 167) #[] #[.pointer (some ⟨B,0,none⟩),.pointer (some ⟨pb,0,none⟩)]] w fun e w'=>∃x l,e=.returned (.agg #[.slice (some ⟨x,0,none⟩) many many])∧a many l w'∧l.length=many∧w'.ownsRow w.heap.size 259 6 (.slice (some ⟨x,0,none⟩) many many) many (mN l):=by
 obtain⟨Q,R,T,U,V⟩:=info_parts Tryz.info259;have X:∀W:World,(Instr.makeSlice 179 (.int .i64 (many:Int)) (.int .i64 (many:Int))).run Tryz.prog W=.ok (.slice (some ⟨W.heap.size,0,none⟩) many many) (W.alloc (.cells (madeCells #[.int .i64 0,.int .i64 0,.int .i64 0,.int .i64 0,.int .i64 0,.int .i64 0] (many*6)) 259)):=by
  intro W;have:=run_make (P:=Tryz.prog) (w:=W) 179 259 Q _ Tryz.underlying179 R T .i64 .i64 (many:Int) (many:Int) (by omega) (by omega) (by rw[V];omega) (by omega)
  simpa[U,Value.cells]using this
 generalize G:madeCells #[.int .i64 0,.int .i64 0,.int .i64 0,.int .i64 0,.int .i64 0,.int .i64 0] (many*6)=z at X;have H:z.size=many*6:=by rw[←G];simp[madeCells]
 have q:=aI D;have Y:=aI C;have Z:=aI E;have a0:=aI F;clear D C E F G;have a1:=aI (nF w 181 259 6 many z O H)
 go_enter Tryz.func166,Tryz.ntmps166
 go_wp2
 go_loopw [13] (fun t wr=>∃ (k:Nat) (l:List (Nat→Int)) (d:List Value),k≤many∧t=.int .i64 k∧l.length=k∧a k l wr∧w.heap.size+3≤wr.heap.size∧wr.heap[w.heap.size]?=some (.cells #[.slice none 0 0] 181 (0,0))∧wr.heap[w.heap.size+2]?=some (.cells #[.slice (some ⟨w.heap.size+1,0,none⟩) many many] 181 (0,0))∧wr.ownsRow w.heap.size 259 6 (.slice (some ⟨w.heap.size+1,0,none⟩) many many) many (mN l++d)∧d.length=(many-k)*6) (fun t _=>many-(intOf t).toNat)
 case atStart=>
  obtain⟨a2,b5,a3,a4,r⟩:=a1.out _ rfl;exact⟨0,[],z.toList,by omega,rfl,rfl,q.out _ _ _ _ a0.out (a2.mono (fun _ h=>h.elim)),by omega,a3,a4,r,by simp[H]⟩
 case round=>
  obtain⟨k,l,d,b6,rfl,n,s,a5,j,u,m,o⟩:=hrel;have b7:wr.cell? ⟨w.heap.size+2,0,none⟩=some (.slice (some ⟨w.heap.size+1,0,none⟩) many many):=aD u
  by_cases I:k<many
  ·have a6:=aI (Z.out k l wr.drew I (q.out _ _ _ _ s ⟨rfl,rfl,rfl,Nat.le_refl _,fun _ _ _=>rfl⟩) (by show w.heap.size≤wr.heap.size;omega));have a7:=aI (lM xB 6 (fun _=>rfl) 181 259 w many k S Y.out a q.out l d wr I n a5 j u m o);have a8:Hid ((d.drop 6).length=(many-(k+1))*6):=by show _=_;rw[List.length_drop,o];omega
   have a9:Hid (∀x:Nat→Int,(l++[x]).length=k+1):=fun x=>by rw[List.length_append,n];rfl
   clear s j u m n o;go_wp2_with fail
   go_region_law (go_simp;(with_reducible show Calls Tryz.prog 167 _ _ _);refine a6.out.mono ?_;rintro e J ⟨x,rfl,L,M⟩;obtain⟨b8,⟨b0,f⟩,g,r⟩:=a7.out x J L M;have p:=aI r;have b9:J.cell? ⟨w.heap.size+1,k*6,none⟩=some (b0 0):=f 0 (by omega);have c0:=f 1 (by omega);have c1:=f 2 (by omega);have c2:=f 3 (by omega);have c3:=f 4 (by omega);have c4:=f 5 (by omega);have c5:=g (k*6);have c6:=g (k*6+1);have c7:=g (k*6+2);have c8:=g (k*6+3);have f4:=g (k*6+4);have c9:=g (k*6+5);clear L M f g r)
   all_goals (
    go_wp2
    go_roundw
    case rel=>exact⟨k+1,l++[x],d.drop 6,by omega,by go_num,a9.out x,p.out.1,p.out.2.1,p.out.2.2.1,p.out.2.2.2.1,p.out.2.2.2.2,a8.out⟩
    case measure=>simp[intOf];omega)
  ·obtain rfl:k=many:=by omega
   obtain rfl:d=[]:=List.eq_nil_of_length_eq_zero (by rw[o,Nat.sub_self,Nat.zero_mul]);rw[List.append_nil]at m;have d0:wr.cell? ⟨w.heap.size,0,none⟩=some (.slice none 0 0):=aD j;have d1:=aJ j 0;obtain⟨i,y⟩:∃i,i=wr.setCell ⟨w.heap.size,0,none⟩ (.slice (some ⟨w.heap.size+1,0,none⟩) k k):=⟨_,rfl⟩;have N:i.heap[w.heap.size]?=some (.cells #[.slice (some ⟨w.heap.size+1,0,none⟩) k k] 181 (0,0)):=by rw[y];exact aK j 0 _
   have b1:i.cell? ⟨w.heap.size,0,none⟩=some (.slice (some ⟨w.heap.size+1,0,none⟩) k k):=aD N;have A:aH (·=w.heap.size) wr i:=by rw[y];exact aH.ofSet _ _ _ _ rfl
   have b2:Hid (a k l i∧l.length=k∧i.ownsRow w.heap.size 259 6 (.slice (some ⟨w.heap.size+1,0,none⟩) k k) k (mN l)):=⟨q.out _ _ _ _ s (A.mono (fun b b3=>by rw[b3];omega)),n,aO m (fun b e=>A.block b (World.ownsRow.lt m b e).2 (by simp[Value.ownBlock]at e;omega))⟩;have b4:=aI y;clear s j u m n o N A y;go_wp2
   rw[←b4.out];refine bodyPost_ret (v:=.agg #[.slice (some ⟨w.heap.size+1,0,none⟩) k k]) (by simp[results,Tryz.results166,go_sem,b1]) rfl ?_;exact⟨_,l,rfl,b2.out⟩
def uO(bs:List Int)(s:Nat):Nat→List (Nat→Int)
 | 0=>[]
 | k+1=>uO bs s k++[cD bs s k]
theorem Ny(g:Nat)(bs:List Int)(left res:Int)(dead:Bool)(done:Int)(s:Nat)(w:World)(H:s<2)(h:aS w g bs left res dead done):
 Calls Tryz.prog 124 #[.agg #[.pointer (some ⟨g,0,none⟩)],.int .i64 s] w fun e w'=>∃x,e=.returned (.agg #[.int .i64 s,.slice (some ⟨x,0,none⟩) 8 8])∧w'.ownsRow w.heap.size 259 6 (.slice (some ⟨x,0,none⟩) 8 8) 8 (mN (uO bs s 8))∧Below w.heap.size w w':=by
 obtain⟨a,j⟩:∃a,a=((w.alloc (.cells #[.pointer (some ⟨g,0,none⟩)] 107)).alloc (.cells #[.int .i64 s] 3)).alloc (.cells #[.int .i64 0,.slice none 0 0] 183):=⟨_,rfl⟩;have Y:a.heap.size=w.heap.size+3:=by rw[j];simp
 have u:aH (fun _=>False) w a:=by rw[j];exact aH.trans (aH.trans (aH.alloc _ _) (aH.alloc _ _) (fun _ h=>.inl h)) (aH.alloc _ _) (fun _ h=>.inl h)
 have B:a.heap[w.heap.size]?=some (.cells #[.pointer (some ⟨g,0,none⟩)] 107 (0,0)):=by rw[j,Below.heap_alloc _ _ _ (by simp;omega),Below.heap_alloc _ _ _ (by simp)];exact heap_alloc_new w _
 have y:a.heap[w.heap.size+1]?=some (.cells #[.int .i64 s] 3 (0,0)):=by
  rw[j,Below.heap_alloc _ _ _ (by simp)];have:=heap_alloc_new (w.alloc (.cells #[.pointer (some ⟨g,0,none⟩)] 107)) (.cells #[.int .i64 s] 3)
  rwa [show(w.alloc (.cells #[.pointer (some ⟨g,0,none⟩)] 107)).heap.size=w.heap.size+1 from by simp]at this
 have C:a.heap[w.heap.size+2]?=some (.cells #[.int .i64 0,.slice none 0 0] 183 (0,0)):=by
  rw[j];have:=heap_alloc_new ((w.alloc (.cells #[.pointer (some ⟨g,0,none⟩)] 107)).alloc (.cells #[.int .i64 s] 3)) (.cells #[.int .i64 0,.slice none 0 0] 183)
  rwa [show((w.alloc (.cells #[.pointer (some ⟨g,0,none⟩)] 107)).alloc (.cells #[.int .i64 s] 3)).heap.size=w.heap.size+2 from by simp]at this
 have I:=h.lt;have D:=aI (Ga w.heap.size (w.heap.size+1) 8 (by omega) (fun _=>False) a (fun _ h=>h.elim) (fun n l wr=>l=uO bs s n∧aH (fun b=>a.heap.size≤b) a wr)
  (fun n l wr w' f t=>⟨f.1,f.2.trans t (fun i o=>.inl o.1)⟩)
  (fun n l wr J f Z=>(Eh w.heap.size (w.heap.size+1) g bs left res dead done s n wr H J ((h.keep (u.block g I (fun h=>h))).keep (f.2.block g (by omega) (by omega))) ((f.2.block _ (by omega) (by omega)).trans B) ((f.2.block _ (by omega) (by omega)).trans y)).mono (fun e w' ⟨L,E⟩=>⟨cD bs s n,L,⟨by rw[f.1];rfl,f.2.trans (aH.ofBelow (S:=fun _=>False) E) (fun _ h=>h.elim)⟩,aH.ofBelow E⟩))
  ⟨rfl,aH.refl _ _⟩)
 have M:=aI C;have N:=aI y;have O:=aI u;have P:=aI j;clear h B y C u j
 go_enter Tryz.func124,Tryz.ntmps124
 go_wp2_with fail
 rw[←P.out];refine D.out.mono ?_;rintro e c ⟨x,l,rfl,⟨F,p⟩,Q,q⟩;have a0:=p.size;have G:=(p.block _ (by omega) (by omega)).trans N.out;have m:c.heap[w.heap.size+1+1]?=some (.cells #[.int .i64 0,.slice none 0 0] 183 (0,0)):=(p.block _ (by omega) (by omega)).trans M.out;have a1:w.heap.size+1<c.heap.size:=by omega
 have a2:w.heap.size+1+1<c.heap.size:=by omega
 have a3:c.cell? ⟨w.heap.size+1,0,none⟩=some (.int .i64 s):=aD G;have a4:c.cell? ⟨w.heap.size+1+1,0,none⟩=some (.int .i64 0):=aD m;have a5:c.cell? ⟨w.heap.size+1+1,1,none⟩=some (.slice none 0 0):=aD m;have a6:=aJ m 0;have a7:=aJ m 1;obtain⟨d,r⟩:∃d,d=World.alloc ((c.setCell ⟨w.heap.size+1+1,0,none⟩ (.int .i64 s)).setCell ⟨w.heap.size+1+1,1,none⟩ (.slice (some ⟨x,0,none⟩) 8 8)) (.cells #[.slice (some ⟨x,0,none⟩) 8 8] 181):=⟨_,rfl⟩;have z:d.heap[w.heap.size+1+1]?=some (.cells #[.int .i64 s,.slice (some ⟨x,0,none⟩) 8 8] 183 (0,0)):=by
  rw[r,Below.heap_alloc _ _ _ (by simp;omega)];exact aK (aK m 0 _) 1 _
 have R:d.cell? ⟨w.heap.size+1+1,0,none⟩=some (.int .i64 s):=aD z;have U:d.cell? ⟨w.heap.size+1+1,1,none⟩=some (.slice (some ⟨x,0,none⟩) 8 8):=aD z;have A:aH (·=w.heap.size+1+1) c d:=by
  rw[r];exact aH.trans (T:=fun _=>False) (aH.trans (T:=(·=w.heap.size+1+1)) (aH.ofSet c _ 0 _ rfl) (aH.ofSet _ _ 1 _ rfl) (fun i o=>.inl o)) (aH.alloc _ _) (fun _ h=>h.elim)
 have V:Hid (d.ownsRow w.heap.size 259 6 (.slice (some ⟨x,0,none⟩) 8 8) 8 (mN (uO bs s 8))∧Below w.heap.size w d):=by
  rw[F]at q;refine⟨bI (aO q (fun b e=>A.block b (World.ownsRow.lt q b e).2 (by have:=(World.ownsRow.lt q b e).1;omega))) (by omega),?_⟩;have t:aH (fun b=>w.heap.size≤b) w d:=aH.trans (aH.trans (O.out.mono (fun _ h=>h.elim)) p (fun i o=>.inl (by omega))) A (fun i o=>.inl (by omega));exact t.below (Nat.le_refl _) (fun k W=>W)
 have X:=aI r;clear p q Q F G m z A r D;go_wp2
 rw[←X.out];refine bodyPost_ret (v:=.agg #[.int .i64 s,.slice (some ⟨x,0,none⟩) 8 8]) (by simp[results,Tryz.results124,go_sem,R,U]) rfl ?_;exact⟨x,rfl,V.out⟩
end Go.Proofs.YtnjlbgolnbdkaaaGreat
