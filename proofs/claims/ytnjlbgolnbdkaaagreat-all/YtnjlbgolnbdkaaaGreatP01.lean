/- All, with short names -/
import Derived.Test.YtnjlbgolnbdkaaaGreatP00
set_option maxRecDepth 100000
set_option maxHeartbeats 16000000
namespace Go.Proofs.YtnjlbgolnbdkaaaGreat
open Go Go.RowKit
theorem Dy(v:Int)(w:World):
 Calls Tryz.prog 178 #[.int .i64 v] w fun e w'=>e=.returned (.slice (some ⟨w.heap.size,0,none⟩) 4 4)∧w'=w.alloc (.cells (bZ (oQ (v % 4294967296).toNat)).toArray 5):=by
 have a:Hid ((bZ (oQ (v % 4294967296).toNat)).toArray=#[Value.int .u8 (v / 16777216 % 256),.int .u8 (v / 65536 % 256),.int .u8 (v / 256 % 256),.int .u8 (v % 256)]):=by
  show _=_
  obtain⟨n,b⟩:=Int.eq_ofNat_of_zero_le (show 0≤v % 4294967296 from by omega);rw[b,Int.toNat_natCast];unfold bZ oQ;rw[show((n / 16777216 % 256:Nat):Int)=v / 16777216 % 256 from by omega,show((n / 65536 % 256:Nat):Int)=v / 65536 % 256 from by omega,show((n / 256 % 256:Nat):Int)=v / 256 % 256 from by omega,show((n % 256:Nat):Int)=v % 256 from by omega];rfl
 go_enter Tryz.func178,Tryz.ntmps178
 go_wp2
 go_ret
 rw[a.out];exact⟨rfl,rfl⟩
theorem Ad(a:Nat)(b:a<9223372036854775808):(BitVec.ofInt 64 (a:Int)).toNat=a:=by
 rw[BitVec.ofInt_natCast,BitVec.toNat_ofNat];exact Nat.mod_eq_of_lt (by omega)
theorem Ge(a b:Nat)(c:a<4294967296)(d:b<4294967296):bits .xor .i64 (a:Int) (b:Int)=((a ^^^ b:Nat):Int):=by
 have f:a ^^^ b<2 ^ 32:=Nat.xor_lt_two_pow (by omega) (by omega);show IntKind.i64.wrap ((BitVec.ofInt 64 (a:Int) ^^^ BitVec.ofInt 64 (b:Int)).toNat:Int)=_
 rw[BitVec.toNat_xor,Ad a (by omega),Ad b (by omega),IntKind.wrap_i64];omega
theorem Rc(a b:Nat):(a ^^^ b) / 2=a / 2 ^^^ b / 2:=by
 have:=Nat.shiftRight_xor_distrib (a:=a) (b:=b) (i:=1)
 simpa[Nat.shiftRight_eq_div_pow]using this
theorem Ho(a b:Nat):(a ^^^ b) % 2=(a+b) % 2:=by
 have:=Nat.xor_mod_two_eq_one (a:=a) (b:=b);omega
def rW(s c k:Nat):Nat:=iP k (s ^^^ c) ^^^ (c / 2 ^ k)
theorem Na(s c:Nat):rW s c 0=s:=by
 simp[rW,iP,Nat.xor_assoc]
theorem Jz(s c:Nat)(a:c<256):rW s c 8=nL s c:=by
 have:c / 2 ^ 8=0:=by omega
 simp[rW,this,nL]
theorem Sw(s c k:Nat)(a:s<4294967296)(b:c<256):rW s c k<4294967296:=by
 have d:=sJ k (s ^^^ c) (Nat.xor_lt_two_pow (n:=32) (by omega) (by omega));have f:c / 2 ^ k≤c:=Nat.div_le_self _ _;exact Nat.xor_lt_two_pow (n:=32) (by omega) (by omega)
theorem Le(s c k:Nat):rW s c (k+1)=if(rW s c k+c / 2 ^ k) % 2=1 then(rW s c k / 2) ^^^ 3988292384 else rW s c k / 2:=by
 have a:c / 2 ^ (k+1)=c / 2 ^ k / 2:=by rw[Nat.pow_succ,Nat.div_div_eq_div_mul]
 have b:(rW s c k+c / 2 ^ k) % 2=iP k (s ^^^ c) % 2:=by
  rw[←Ho];simp[rW,Nat.xor_assoc]
 have d:rW s c k / 2=iP k (s ^^^ c) / 2 ^^^ c / 2 ^ k / 2:=by unfold rW;rw[Rc]
 rw[b,d];show nU (iP k (s ^^^ c)) ^^^ c / 2 ^ (k+1)=_
 rw[a];unfold nU;split
 ·rw[Nat.xor_assoc,Nat.xor_comm 3988292384,←Nat.xor_assoc]
 ·rfl
theorem Oz(c k:Nat):c / 2 ^ k / 2=c / 2 ^ (k+1):=by rw[Nat.pow_succ,Nat.div_div_eq_div_mul]
theorem Td(x:Nat)(a:x<4294967296):bits .xor .i64 ((x:Int) / 2) 3988292384=((x / 2 ^^^ 3988292384:Nat):Int):=by
 have:=Ge (x / 2) 3988292384 (by omega) (by omega)
 simpa using this
theorem Jw(b h cap:Nat)(zs:List Int)(w:World)(j:cT zs)(r:jG w b h zs)(B:zs.length≤9223372036854775807):
 Calls Tryz.prog 136 #[.slice (some ⟨b,h,none⟩) zs.length cap] w fun e w'=>e=.returned (.int .i64 (eN zs:Nat))∧w'=w:=by
 go_enter Tryz.func136,Tryz.ntmps136
 go_wp2
 go_loop [3,4] (fun t i=>∃k:Nat,k≤zs.length∧i=.int .i64 k∧t=.int .i64 (jH 4294967295 (zs.take k):Nat)) (fun _ i=>zs.length-(intOf i).toNat)
 case atStart=>exact⟨0,by omega,rfl,rfl⟩
 case round=>
  obtain⟨k,C,rfl,rfl⟩:=hrel;have l:=xS (zs.take k) 4294967295 (by omega) (j.take k)
  by_cases m:k<zs.length
  ·have D:=r k m;have s:=j.getD k;have n:Hid (jH 4294967295 (zs.take (k+1))=nL (jH 4294967295 (zs.take k)) (zs.getD k 0).toNat):=by
    show _=_
    rw[oE zs k m,tD]
   generalize jH 4294967295 (zs.take k)=c at *;generalize zs.getD k 0=z at *;obtain⟨d,rfl⟩:=Int.eq_ofNat_of_zero_le s.1;have o:d<256:=by omega
   simp only[Int.toNat_natCast]at n;go_wp2
   go_loop [3,5,6] (fun t e i=>∃a:Nat,a≤8∧i=.int .i64 a∧t=.int .i64 (rW c d a:Nat)∧e=.int .i64 (d / 2 ^ a:Nat)) (fun _ _ i=>8-(intOf i).toNat)
   case atStart=>exact⟨0,by omega,rfl,mS (by rw[Na]),mS (by simp)⟩
   case round=>
    obtain⟨a,E,rfl,rfl,rfl⟩:=hrel;have p:=Sw c d a l o;have u:d / 2 ^ a≤d:=Nat.div_le_self _ _;have g:=aI (Le c d a);have f:=aI (Oz d a);have v:=aI (Jz c d o)
    by_cases F:a<8
    ·generalize rW c d a=x at p g ⊢;generalize d / 2 ^ a=q at u g f ⊢;go_wp2
     ·have y:((x:Int)+q) % 2=1:=beq_iff_eq.1 ‹_›
      go_round
      case rel=>exact⟨a+1,by omega,by go_num,mS (by rw[g.out,if_pos (by omega)];exact Td x p),mS (by rw[←f.out];simp)⟩
      case measure=>simp[intOf];omega
     ·have y:¬ ((x:Int)+q) % 2=1:=beq_eq_false_iff_ne.1 ‹_›
      go_round
      case rel=>exact⟨a+1,by omega,by go_num,mS (by rw[g.out,if_neg (by omega)];simp),mS (by rw[←f.out];simp)⟩
      case measure=>simp[intOf];omega
    ·obtain rfl:a=8:=by omega
     have A:=aI (v.out);go_wp2
     go_round
     case rel=>exact⟨k+1,by omega,by go_num,mS (by rw[n.out,←A.out])⟩
     case measure=>simp[intOf];omega
  ·have f:Hid (zs.take k=zs):=by
    show _=_
    rw[List.take_of_length_le (by omega)]
   go_wp2
   go_ret
   exact⟨rC (by rw[f.out];unfold eN;rw[f.out]at l;omega),rfl⟩
theorem pE(b c i a cap:Nat)(zs:List Int)(w:World)(d:cT zs)(f:jG w b c zs)(h:i+a≤zs.length)(j:a≤9223372036854775807):
 Calls Tryz.prog 136 #[.slice (some ⟨b,c+i,none⟩) a cap] w fun e w'=>e=.returned (.int .i64 (eN ((zs.drop i).take a):Nat))∧w'=w:=by
 have g:((zs.drop i).take a).length=a:=by simp;omega
 have:=Jw b (c+i) cap ((zs.drop i).take a) w ((d.drop i).take a) (f.piece i a) (by omega);rw[g]at this;exact this
theorem Dh(b a cap:Nat)(z0 z1 z2 z3:Int)(w:World)(c:0≤z0∧z0<256)(d:0≤z1∧z1<256)(f:0≤z2∧z2<256)(g:0≤z3∧z3<256)
 (h:w.cell? ⟨b,a,none⟩=some (.int .u8 z0)) (c1:w.cell? ⟨b,a+1,none⟩=some (.int .u8 z1)) (c2:w.cell? ⟨b,a+2,none⟩=some (.int .u8 z2)) (i:w.cell? ⟨b,a+3,none⟩=some (.int .u8 z3)):
 Calls Tryz.prog 135 #[.slice (some ⟨b,a,none⟩) 4 cap] w fun e w'=>e=.returned (.int .i64 (16777216*z0+65536*z1+256*z2+z3))∧∃n,w'=w.drewN n:=by
 go_enter Tryz.func135,Tryz.ntmps135
 go_wp2
 go_quiet (fail)
 go_wp2
 go_ret
 exact⟨rfl,_,rfl⟩
theorem Dj(z0 z1 z2 z3:Int)(a:0≤z0∧z0<256)(b:0≤z1∧z1<256)(c:0≤z2∧z2<256)(d:0≤z3∧z3<256):((bF 0 [z0,z1,z2,z3]:Nat):Int)=16777216*z0+65536*z1+256*z2+z3:=by
 simp only[bF,List.foldl];omega
theorem rM(b d i cap:Nat)(zs:List Int)(w:World)(a:cT zs)(c:jG w b d zs)(j:i+4≤zs.length):
 Calls Tryz.prog 135 #[.slice (some ⟨b,d+i,none⟩) 4 cap] w fun e w'=>e=.returned (.int .i64 (bF 0 ((zs.drop i).take 4):Nat))∧∃n,w'=w.drewN n:=by
 have e:(zs.drop i).take 4=[zs.getD i 0,zs.getD (i+1) 0,zs.getD (i+2) 0,zs.getD (i+3) 0]:=by
  apply List.ext_getElem
  ·simp;omega
  ·intro f k g;have h:f<4:=by simpa using g
   simp only[List.getElem_take,List.getElem_drop]
   match f,h with
   | 0,_=>simp[List.getD_eq_getElem?_getD,List.getElem?_eq_getElem (show i<zs.length by omega)]
   | 1,_=>simp[List.getD_eq_getElem?_getD,List.getElem?_eq_getElem (show i+1<zs.length by omega)]
   | 2,_=>simp[List.getD_eq_getElem?_getD,List.getElem?_eq_getElem (show i+2<zs.length by omega)]
   | 3,_=>simp[List.getD_eq_getElem?_getD,List.getElem?_eq_getElem (show i+3<zs.length by omega)]
 rw[e,Dj _ _ _ _ (a.getD _) (a.getD _) (a.getD _) (a.getD _)];exact Dh b (d+i) cap _ _ _ _ w (a.getD _) (a.getD _) (a.getD _) (a.getD _) (c i (by omega)) (c (i+1) (by omega)) (c (i+2) (by omega)) (c (i+3) (by omega))
theorem Sr(w:World)(zs:List Int)(n:Nat)(a:zs.length=n)(b:n≤maxLen):(w.alloc (.cells (bZ zs).toArray 5)).ownsRow w.heap.size 5 1 (.slice (some ⟨w.heap.size,0,none⟩) n n) n (bZ zs):=by
 refine⟨by simp[bX,a],.inr ⟨w.heap.size,n,(bZ zs).toArray,rfl,Nat.le_refl _,heap_alloc_new w _,Nat.le_refl _,b,by simp[bX,a],?_⟩⟩;simp[List.take_of_length_le,bX,a]
theorem Rr{w:World}{base base':Nat}{v:Value}{n:Nat}{b:List Value}(h:w.ownsRow base 5 1 v n b)(g:base'≤base):w.ownsRow base' 5 1 v n b:=by
 obtain⟨c,a⟩:=h;rcases a with a| ⟨d,cap,cur,f,i,r⟩
 ·exact⟨c,.inl a⟩
 ·exact⟨c,.inr ⟨d,cap,cur,f,by omega,r⟩⟩
theorem xD(v:Int)(w:World):
 Calls Tryz.prog 178 #[.int .i64 v] w fun e w'=>∃a,e=.returned (.slice (some ⟨a,0,none⟩) 4 4)∧(∀b c,(bZ (oQ (v % 4294967296).toNat))[b]?=some c→w'.cell? ((⟨a,0,none⟩:Addr).add b)=some c)∧w.grownBy w' none:=by
 refine(Dy v w).mono ?_;rintro e w' ⟨rfl,rfl⟩;exact⟨w.heap.size,rfl,dA w _ 5,aZ (World.grownBy.refl _ _)⟩
def Ko(a part code b c:Int):Obj:=.cells #[.int .i64 a,.int .i64 part,.int .i64 code,.int .i64 b,.int .i64 c] 52 (0,0)
theorem Ok(a part code d b:Int)(w:World):
 Calls Tryz.prog 207 #[.agg #[.int .i64 a,.int .i64 part,.int .i64 code,.int .i64 d,.int .i64 b]] w fun e w'=>∃g cap,16≤cap∧cap≤9223372036854775807∧e=.returned (.slice (some ⟨g,0,none⟩) 16 cap)∧
  w'.ownsRow w.heap.size 5 1 (.slice (some ⟨g,0,none⟩) 16 cap) 16 (bZ (dN a part code d b))∧Below w.heap.size w w':=by
 obtain⟨x,y,A,B,C⟩:=info_parts Tryz.info5
 go_enter Tryz.func207,Tryz.ntmps207
 go_wp2_with fail
 refine(xD d _).mono ?_;rintro e m ⟨b1,rfl,L,i⟩;have M:Hid (m.ownsRow (w.heap.size+1) 5 1 (.slice (some ⟨w.heap.size+1,0,none⟩) 4 4) 4 (bZ [0,a % 256,part % 256,code % 256])):=by
  have:=Sr (w.alloc (Ko a part code d b)) [0,a % 256,part % 256,code % 256] 4 rfl (by decide);rw[show(w.alloc (Ko a part code d b)).heap.size=w.heap.size+1 from by simp]at this;exact this.kept i (.inr (by simp[Value.ownBlock]))
 have N:Hid (m.heap[w.heap.size]?=some (Ko a part code d b)):=(i.block _ (by simp;omega) (by simp)).trans ((Below.heap_alloc _ _ _ (by simp)).trans (heap_alloc_new w _));have O:Hid (Below w.heap.size w m):=((aG _ _).alloc (by simp) _).grown i (by simp;omega) (by simp);have c2:w.heap.size+2≤m.heap.size:=by have:=i.size;simp at this;omega
 have P:=aI L;clear L i;go_wp2_with (at_builtin;go_must (refine wpList_append_lies _ rfl (.tmp 15) (.tmp 18) 22 rfl (w.heap.size+1) 5 x (.int .u8 0) 1 1 Tryz.underlying22 y A B C rfl (by decide) _ 4 (bZ [0,a % 256,part % 256,code % 256]) rfl M.out ⟨b1,0,none⟩ 4 4 (bZ (oQ (d % 4294967296).toNat)) (by rfl) rfl P.out (jM _) (by omega) (by decide) (by omega) (by omega) _ rfl ?_))
 intro Q cap2 n D o _ _;have c3:w.heap.size+1≤Q:=(D.lt Q rfl).1;have R:Hid (n.heap[w.heap.size]?=some (Ko a part code d b)):=(o.block _ (by omega) (by simp[Value.ownBlock])).trans N.out;have S:Hid (Below w.heap.size w n):=O.out.grown o (by omega) (by simp[Value.ownBlock]);have c4:w.heap.size+2≤n.heap.size:=by have:=o.size;omega
 have b2:n.cell? ⟨w.heap.size,4,none⟩=some (.int .i64 b):=aD R.out;have T:=aI D;clear D o M N O P;go_wp2_with fail
 refine(xD b _).mono ?_;rintro e U ⟨b3,rfl,V,p⟩;have X:=aI (T.out.kept p (.inr (by simp[Value.ownBlock])));have Y:Hid (Below w.heap.size w U):=S.out.grown p (by omega) (by simp);have c5:w.heap.size+2≤U.heap.size:=by have:=p.size;omega
 have Z:=aI V;clear V p T R S b2;go_wp2_with (at_builtin;go_must (refine wpList_append_lies _ rfl (.tmp 20) (.tmp 23) 22 rfl (w.heap.size+1) 5 x (.int .u8 0) 1 1 Tryz.underlying22 y A B C rfl (by decide) _ 8 _ rfl X.out ⟨b3,0,none⟩ 4 4 (bZ (oQ (b % 4294967296).toNat)) (by rfl) rfl Z.out (jM _) (by omega) (by decide) (by omega) (by omega) _ rfl ?_))
 intro f q j r E _ _;have c6:w.heap.size+1≤f:=(r.lt f rfl).1;have a0:Hid (Below w.heap.size w j):=Y.out.grown E (by omega) (by simp[Value.ownBlock];omega);have c7:w.heap.size+2≤j.heap.size:=by have:=E.size;omega
 have F:Hid (j.ownsRow (w.heap.size+1) 5 1 (.slice (some ⟨f,0,none⟩) 12 q) 12 (bZ (0::dX a part code d b))):=r;have a1:Hid (jG j f 0 (0::dX a part code d b)):=iS F.out;have c8:(12:Int)≤(q:Int)∧(q:Int)≤9223372036854775807:=by
  rcases r.2 with⟨k,_⟩| ⟨b4,b5,cur,l,_,_,k,G,_⟩
  ·simp at k
  ·simp at l;obtain⟨_,rfl⟩:=l;unfold maxLen at G;omega
 have c9:¬q=1:=by omega
 have b6:Hid (cT (0::dX a part code d b)):=by
  intro z b7;rcases List.mem_cons.1 b7 with h| h
  ·omega
  ·exact mY _ _ _ _ _ z h
 have H:Hid (∀W c,jG W f 0 (0::dX a part code d b)→Calls Tryz.prog 136 #[.slice (some ⟨f,1,none⟩) 11 c] W fun e w'=>e=.returned (.int .i64 (eN (dX a part code d b):Nat))∧w'=W):=fun W c h=>by
  have:=pE f 0 1 11 c (0::dX a part code d b) W b6.out h (Nat.le_refl 12) (by omega);rw[show List.take 11 (List.drop 1 (0::dX a part code d b))=dX a part code d b from rfl]at this;exact this
 clear r E X Y Z;have a2:Hid (dN a part code d b=0::dX a part code d b++oQ (eN (dX a part code d b))):=rfl;have b8:=Gj (dX a part code d b);generalize eN (dX a part code d b)=s at b8 H a2;go_wp2_with fail
 refine(H.out _ _ a1.out).mono ?_;rintro e j ⟨rfl,rfl⟩;go_wp2_with fail
 refine(xD s _).mono ?_;rintro e a3 ⟨b9,rfl,I,u⟩;rw[show(((s:Int) % 4294967296).toNat)=s from by omega]at I;have a4:=aI (F.out.kept u (.inr (by simp[Value.ownBlock])));have a5:Hid (Below w.heap.size w a3):=a0.out.grown u (by omega) (by simp);have d0:w.heap.size+2≤a3.heap.size:=by have:=u.size;omega
 have a6:=aI I;clear I u F a0 a1 H;go_wp2_with (at_builtin;go_must (refine wpList_append_lies _ rfl (.tmp 28) (.tmp 30) 22 rfl (w.heap.size+1) 5 x (.int .u8 0) 1 1 Tryz.underlying22 y A B C rfl (by decide) _ 12 _ rfl a4.out ⟨b9,0,none⟩ 4 4 (bZ (oQ s)) (by rfl) rfl a6.out (jM _) (by omega) (by decide) (by omega) (by omega) _ rfl ?_))
 intro a7 v a8 J a9 _ _;have c0:Hid (Below w.heap.size w a8):=a5.out.grown a9 (by omega) (by simp[Value.ownBlock];omega);have b0:16≤v∧v≤9223372036854775807:=by
  rcases J.2 with⟨k,_⟩| ⟨b4,b5,cur,l,_,_,k,G,_⟩
  ·simp at k
  ·simp at l;obtain⟨_,rfl⟩:=l;unfold maxLen at G;omega
 have c1:Hid (a8.ownsRow w.heap.size 5 1 (.slice (some ⟨a7,0,none⟩) 16 v) 16 (bZ (dN a part code d b))):=by
  rw[a2.out,iQ];exact Rr J (by omega)
 clear J a9 a4 a5 a6;go_wp2
 go_ret
 exact⟨a7,v,b0.1,b0.2,rfl,c1.out,c0.out⟩
theorem Ir(zs:List Int)(k:Nat)(h:k<zs.length):fW (zs.take (k+1))=(fW (zs.take k)&&(zs.getD k 0 == 255)):=by
 rw[oE zs k h];unfold fW;rw[List.all_append];simp
def sY:Obj:=.cells #[.int .i64 0,.int .i64 0,.int .i64 0,.int .i64 0,.int .i64 0] 52
theorem jG.setCell{w:World}{b a g:Nat}{zs:List Int}(c:jG w b a zs)(d:b≠g)(o:Nat)(v:Value):jG (w.setCell ⟨g,o,none⟩ v) b a zs:=fun i f=>(World.cell?_of_block (Below.heap_setCell w ⟨g,o,none⟩ v b d)).trans (c i f)
theorem qV{a b:Int}{r1 c:Nat→Int}(d:a=b)(f:r1=c):Ending.returned (.tuple #[.int .i64 a,jZ r1])=.returned (.tuple #[.int .i64 b,jZ c]):=by rw[d,f]
theorem Nw(b a cap:Nat)(zs:List Int)(w:World)(T:zs.length=16)(g:cT zs)(N:jG w b a zs)(a5:16≤cap)(a6:cap≤9223372036854775807):
 Calls Tryz.prog 202 #[.slice (some ⟨b,a,none⟩) 16 cap] w fun e w'=>e=.returned (.tuple #[.int .i64 (dH zs),jZ (dL zs)])∧Below w.heap.size w w':=by
 have l:Hid (jG w b a zs):=N;have I:Hid (dH zs≠3→(fun _=>0)=dL zs):=fun h=>by funext i;simp[dL,h]
 clear N
 go_enter Tryz.func202,Tryz.ntmps202
 go_wp2
 go_loop [4,5] (fun t i=>∃k:Nat,k≤16∧i=.int .i64 k∧t=.bool (fW (zs.take k))) (fun _ i=>16-(intOf i).toNat)
 case atStart=>exact⟨0,by omega,rfl,rfl⟩
 case round=>
  obtain⟨k,a7,rfl,rfl⟩:=hrel
  by_cases a8:k<16
  ·have m:=(l.out.alloc sY) k (by omega);simp only[sY]at m;have A:=aI (Ir zs k (by omega));have U:=g.getD k;generalize zs.getD k 0=z at m A U;generalize V:fW (zs.take k)=X at A ⊢;clear V;cases X
   ·go_wp2
    go_round
    case rel=>exact⟨k+1,by omega,by go_num,by rw[A.out];rfl⟩
    case measure=>simp[intOf];omega
   ·go_wp2
    go_round
    case rel=>exact⟨k+1,by omega,by go_num,by rw[A.out];rfl⟩
    case measure=>simp[intOf];omega
  ·obtain rfl:k=16:=by omega
   have r:zs.take 16=zs:=List.take_of_length_le (by omega);rw[r];have m:=(l.out.alloc sY) 0 (by omega);simp only[sY,Nat.add_zero]at m
   by_cases s:fW zs=true
   ·have d:Hid (dH zs=0):=by show _=_;simp[dH,s]
    have Y:=aI s;clear s r;rw[Y.out];go_wp2
    refine bodyPost_ret (v:=.tuple #[.int .i64 0,jZ fun _=>0]) (by simp[results,Tryz.results202,go_sem,jZ]) rfl ⟨qV d.out.symm (I.out (by rw[d.out];omega)),?_⟩;exact aG _ _
   ·have j:fW zs=false:=by simpa using s
    clear s;rw[j]
    by_cases f:zs.getD 0 0=0
    ·rw[f]at m;have a9:(12:Int)≤(cap:Int):=by omega
     have b0:(16:Int)≤(cap:Int):=by omega
     have b1:¬cap=12:=by omega
     have b2:¬cap=1:=by omega
     have b3:(8:Int)≤(cap:Int):=by omega
     have b4:¬cap=4:=by omega
     have b5:¬cap=8:=by omega
     have J:Hid (jG (w.alloc sY) b a zs):=l.out.alloc sY;have B:Hid (∀i,i+4≤16→∀W c,jG W b a zs→Calls Tryz.prog 135 #[.slice (some ⟨b,a+i,none⟩) 4 c] W fun e w'=>e=.returned (.int .i64 (bF 0 ((zs.drop i).take 4):Nat))∧∃n,w'=W.drewN n):=fun i O W c h=>rM b a i c zs W g h (by omega)
     have C:Hid (∀W c,jG W b a zs→Calls Tryz.prog 136 #[.slice (some ⟨b,a+1,none⟩) 11 c] W fun e w'=>e=.returned (.int .i64 (eN ((zs.drop 1).take 11):Nat))∧w'=W):=fun W c h=>pE b a 1 11 c zs W g h (by omega) (by omega)
     by_cases u:xH zs=true
     ·have d:Hid (dH zs=3):=by show _=_;simp only[dH,j,f,u];decide
      have x:(((eN ((zs.drop 1).take 11):Nat):Int) != ((bF 0 ((zs.drop 12).take 4):Nat):Int))=false:=by
       have:=beq_iff_eq.1 u;simp[this]
      obtain⟨F,hF⟩:∃F:Nat→Nat,∀i,bF 0 ((zs.drop i).take 4)=F i:=⟨_,fun _=>rfl⟩;have D:Hid (dL zs=fun i=>match i with| 0=>zs.getD 1 0| 1=>zs.getD 2 0| 2=>zs.getD 3 0| 3=>(F 4:Int)| _=>(F 8:Int)):=by
       show _=_
       funext i
       simp only[dL,d.out,if_true]
       match i with
       | 0=>rfl
       | 1=>rfl
       | 2=>rfl
       | 3=>show((bF 0 _:Nat):Int)=((F 4:Nat):Int);rw[hF]
       | n+4=>show((bF 0 _:Nat):Int)=((F 8:Nat):Int);rw[hF]
      rw[hF]at x;have L:Hid (∀i,i+4≤16→∀W c,jG W b a zs→Calls Tryz.prog 135 #[.slice (some ⟨b,a+i,none⟩) 4 c] W fun e w'=>e=.returned (.int .i64 (F i:Nat))∧∃n,w'=W.drewN n):=fun i O W c h=>by
       rw[←hF];exact B.out i O W c h
      have y:Hid (∀W c,jG W b a zs→Calls Tryz.prog 135 #[.slice (some ⟨b,a+12,none⟩) 4 c] W fun e w'=>e=.returned (.int .i64 (F 12:Nat))∧∃n,w'=W.drewN n):=L.out 12 (by omega);have Z:=g.getD 1;have a0:=g.getD 2;have a1:=g.getD 3;obtain⟨P,Q,E,R,G,H,a2,a3,S⟩:∃P:World→Prop,Hid (∀W o v,P W→P (W.setCell ⟨w.heap.size,o,none⟩ v))∧Hid (P (w.alloc (.cells #[.int .i64 0,.int .i64 0,.int .i64 0,.int .i64 0,.int .i64 0] 52)))∧Hid (∀W,P W→P W.drew)∧Hid (∀W n,P W→P (W.drewN n))∧
       Hid (∀W,P W→W.cell? ⟨b,a+1,none⟩=some (.int .u8 (zs.getD 1 0))∧W.cell? ⟨b,a+2,none⟩=some (.int .u8 (zs.getD 2 0))∧W.cell? ⟨b,a+3,none⟩=some (.int .u8 (zs.getD 3 0))∧P W)∧
       Hid (∀i,i+4≤16→∀W c,P W→Calls Tryz.prog 135 #[.slice (some ⟨b,a+i,none⟩) 4 c] W fun e w'=>e=.returned (.int .i64 (F i:Nat))∧∃n,w'=W.drewN n)∧
       Hid (∀W c,P W→Calls Tryz.prog 135 #[.slice (some ⟨b,a+12,none⟩) 4 c] W fun e w'=>e=.returned (.int .i64 (F 12:Nat))∧∃n,w'=W.drewN n)∧
       Hid (∀W c,P W→Calls Tryz.prog 136 #[.slice (some ⟨b,a+1,none⟩) 11 c] W fun e w'=>e=.returned (.int .i64 (eN ((zs.drop 1).take 11):Nat))∧w'=W):=
       ⟨fun W=>jG W b a zs,fun W o v h=>h.setCell (by have:=Hp l.out (by omega);omega) _ _,l.out.alloc sY,fun W h=>h.drew,fun W n h=>h.drewN n,fun W h=>⟨h 1 (by omega),h 2 (by omega),h 3 (by omega),h⟩,L.out,y.out,C.out⟩
      clear B L y C J l j f u r hF g T;generalize eN ((zs.drop 1).take 11)=q at x S;generalize zs.getD 1 0=z1 at Z H D;generalize zs.getD 2 0=z2 at a0 H D;generalize zs.getD 3 0=z3 at a1 H D;have b6:IntKind.i64.wrap z1=z1:=iX _ (by omega) (by omega);have b7:IntKind.i64.wrap z2=z2:=iX _ (by omega) (by omega);have b8:IntKind.i64.wrap z3=z3:=iX _ (by omega) (by omega);go_wp2
      go_quiet ((first| (go_at_call 135;exact Calls.quiet_of (a3.out _ _ (G.out _ _ E.out)))| (go_at_call 136;exact Calls.quiet_of_same (S.out _ _ (G.out _ _ E.out)))))
      go_wp2
      go_region_held3 (fun w'=>w'.cell? ⟨b,a+1,none⟩=some (.int .u8 z1)∧w'.cell? ⟨b,a+2,none⟩=some (.int .u8 z2)∧w'.cell? ⟨b,a+3,none⟩=some (.int .u8 z3)∧P w')
       ((refine H.out _ ?_;repeat (first| exact E.out| refine Q.out _ _ _ ?_| refine R.out _ ?_| refine G.out _ _ ?_)))
       (first| (go_at_call 135;refine(a2.out _ (by omega) _ _ (by repeat (first| exact E.out| refine Q.out _ _ _ ?_| refine R.out _ ?_| refine G.out _ _ ?_))).mono ?_;rintro e w' ⟨rfl,n,rfl⟩))
      all_goals
       go_wp2
       refine bodyPost_ret (v:=.tuple #[.int .i64 3,.agg #[.int .i64 z1,.int .i64 z2,.int .i64 z3,.int .i64 (F 4),.int .i64 (F 8)]]) (by simp[results,Tryz.results202,go_sem]) rfl ⟨qV (r1:=fun i=>match i with| 0=>z1| 1=>z2| 2=>z3| 3=>(F 4:Int)| _=>(F 8:Int)) d.out.symm D.out.symm,?_⟩;exact(((((below_drewN (aG _ _) _).setCell (Nat.le_refl _) _).setCell (Nat.le_refl _) _).setCell (Nat.le_refl _) _).setCell (Nat.le_refl _) _).setCell (Nat.le_refl _) _
     ·have M:xH zs=false:=by simpa using u
      have d:Hid (dH zs=2):=by show _=_;simp only[dH,j,f,M];decide
      have x:(((eN ((zs.drop 1).take 11):Nat):Int) != ((bF 0 ((zs.drop 12).take 4):Nat):Int))=true:=by
       have:=beq_eq_false_iff_ne.1 M;rw[bne_iff_ne];omega
      have y:Hid (∀W c,jG W b a zs→Calls Tryz.prog 135 #[.slice (some ⟨b,a+12,none⟩) 4 c] W fun e w'=>e=.returned (.int .i64 (bF 0 ((zs.drop 12).take 4):Nat))∧∃n,w'=W.drewN n):=B.out 12 (by omega);clear B j f u M r;generalize bF 0 ((zs.drop 12).take 4)=p at x y;generalize eN ((zs.drop 1).take 11)=q at x C;go_wp2
      go_quiet ((first| (go_at_call 135;exact Calls.quiet_of (y.out _ _ J.out))| (go_at_call 136;exact Calls.quiet_of_same (C.out _ _ J.out))))
      go_wp2
      refine bodyPost_ret (v:=.tuple #[.int .i64 2,jZ fun _=>0]) (by simp[results,Tryz.results202,go_sem,jZ]) rfl ⟨qV d.out.symm (I.out (by rw[d.out];omega)),?_⟩;exact(((((below_drewN (aG _ _) nq).setCell (Nat.le_refl _) _).setCell (Nat.le_refl _) _).setCell (Nat.le_refl _) _).setCell (Nat.le_refl _) _).setCell (Nat.le_refl _) _
    ·have d:Hid (dH zs=1):=by show _=_;unfold dH;rw[j,if_neg (by decide),if_pos f]
     have a4:(zs.getD 0 0 != 0)=true:=by simpa using f
     clear j f r;generalize zs.getD 0 0=z at m a4;go_wp2
     refine bodyPost_ret (v:=.tuple #[.int .i64 1,jZ fun _=>0]) (by simp[results,Tryz.results202,go_sem,jZ]) rfl ⟨qV d.out.symm (I.out (by rw[d.out];omega)),?_⟩;exact aG _ _
end Go.Proofs.YtnjlbgolnbdkaaaGreat
