/- All, with short names -/
import Derived.Test.YtnjlbgolnbdkaaaGreatRows
import Derived.WalkKit
import Derived.WalkSpells
import Derived.WalkLawsBesides
import Derived.Deep.AppendLies
import Derived.OwnWalk
import Derived.Deep.RegionHeld3
import Derived.Deep.DrawnRows
import Derived.Deep.QuietTactic
import Derived.BigQuiet
import Derived.WalkSmall
set_option maxRecDepth 100000
set_option maxHeartbeats 16000000
namespace Go.Proofs.YtnjlbgolnbdkaaaGreat
open Go Go.RowKit
theorem aD{w:World}{b:Nat}{cs:Array Value}{t:TypeId}{fr:Nat×Nat}{o:Nat}{v:Value}(h:w.heap[b]?=some (.cells cs t fr))(e:cs[o]?=some v:=by rfl):w.cell? ⟨b,o,none⟩=some v:=(cell_of_row _ _ _ _ _ _ h).trans e
theorem aG(w:World)(o:Obj):Below w.heap.size w (w.alloc o):=(Below.refl _ _).alloc (Nat.le_refl _) _
theorem aE{w v:World}{o:Obj}(h:v=w.alloc o):Below w.heap.size w v:=h ▸ aG w o
theorem aF{w v:World}{o:Obj}(h:v=w.alloc o):v.heap[w.heap.size]?=some o:=h ▸ heap_alloc_new w o
def nU(s:Nat):Nat:=if s % 2=1 then(s / 2) ^^^ 3988292384 else s / 2
def iP:Nat→Nat→Nat
 | 0,s=>s
 | k+1,s=>nU (iP k s)
def nL(s z:Nat):Nat:=iP 8 (s ^^^ z)
def jH(s:Nat)(zs:List Int):Nat:=zs.foldl (fun s z=>nL s z.toNat) s
def eN(zs:List Int):Nat:=4294967295-jH 4294967295 zs
theorem Lx(s:Nat)(h:s<4294967296):nU s<4294967296:=by
 unfold nU;split
 ·exact Nat.xor_lt_two_pow (n:=32) (by omega) (by omega)
 ·omega
theorem sJ(k s:Nat)(h:s<4294967296):iP k s<4294967296:=by
 induction k with
 | zero=>exact h
 | succ k ih=>exact Lx _ ih
theorem Jh(s z:Nat)(h:s<4294967296)(a:z<256):nL s z<4294967296:=by
 unfold nL;exact sJ _ _ (Nat.xor_lt_two_pow (n:=32) (by omega) (by omega))
theorem xS(zs:List Int):∀s,s<4294967296→(∀z∈zs,0≤z∧z<256)→jH s zs<4294967296:=by
 induction zs with
 | nil=>intro s h _;exact h
 | cons z zs ih=>
  intro s h a;have d:=a z (by simp);exact ih _ (Jh s z.toNat h (by omega)) (fun b c=>a b (by simp[c]))
theorem Gj(zs:List Int):eN zs<4294967296:=by unfold eN;omega
theorem tD(s:Nat)(zs:List Int)(z:Int):jH s (zs++[z])=nL (jH s zs) z.toNat:=by
 simp[jH,List.foldl_append]
theorem oE(zs:List Int)(k:Nat)(h:k<zs.length):zs.take (k+1)=zs.take k++[zs.getD k 0]:=by
 rw[List.take_succ_eq_append_getElem h];simp[List.getD,h]
def oQ(n:Nat):List Int:=[((n / 16777216 % 256:Nat):Int),((n / 65536 % 256:Nat):Int),((n / 256 % 256:Nat):Int),((n % 256:Nat):Int)]
def bF(s:Nat)(zs:List Int):Nat:=zs.foldl (fun s z=>(s*256+z.toNat) % 4294967296) s
theorem Di(s:Nat)(zs:List Int)(z:Int):bF s (zs++[z])=(bF s zs*256+z.toNat) % 4294967296:=by
 simp[bF,List.foldl_append]
theorem mU(zs:List Int):∀s,s<4294967296→bF s zs<4294967296:=by
 induction zs with
 | nil=>intro s h;exact h
 | cons z zs ih=>intro s _;exact ih _ (Nat.mod_lt _ (by decide))
theorem Ky(c:Nat)(h:c<4294967296):bits .and .u32 (c:Int) 1=((c % 2:Nat):Int):=by
 have:=u32_and_nat c 1 h (by omega);rw[Nat.and_one_is_mod]at this;exact this
theorem Sd(c:Nat)(h:c<4294967296)(e:(bits .and .u32 (c:Int) 1 == 1)=true):bits .xor .u32 ((c:Int) / 2) 3988292384=((nU c:Nat):Int):=by
 rw[Ky c h]at e;have a:c % 2=1:=by have:=beq_iff_eq.1 e;omega
 have:=u32_xor_nat (c / 2) 3988292384 (by omega) (by omega);unfold nU;rw[if_pos a]
 simpa using this
theorem Pe(c:Nat)(h:c<4294967296)(e:(bits .and .u32 (c:Int) 1 == 1)=false):(c:Int) / 2=((nU c:Nat):Int):=by
 rw[Ky c h]at e;have a:¬c % 2=1:=by have:=beq_eq_false_iff_ne.1 e;omega
 unfold nU;rw[if_neg a];simp
theorem aI{p:Prop}(h:p):Hid p:=h
theorem mS{k:IntKind}{a b:Int}(h:a=b):Value.int k a=Value.int k b:=by rw[h]
theorem yI{a b:Bool}(h:a=b):Ending.returned (.bool a)=.returned (.bool b):=by rw[h]
theorem rC{k:IntKind}{a b:Int}(h:a=b):Ending.returned (.int k a)=.returned (.int k b):=by rw[h]
theorem Ew(s:Nat)(w:World)(d:s<4294967296):
 Calls Tryz.prog 123 #[.int .u32 s] w fun e w'=>e=.returned (.int .u32 (iP 8 s:Nat))∧w'=w:=by
 go_enter Tryz.func123,Tryz.ntmps123
 go_wp2
 go_loop [0,4] (fun t i=>∃k:Nat,k≤8∧i=.int .i64 k∧t=.int .u32 (iP k s:Nat)) (fun _ i=>8-(intOf i).toNat)
 case atStart=>exact⟨0,by omega,rfl,rfl⟩
 case round=>
  obtain⟨k,h,rfl,rfl⟩:=hrel;have a:=sJ k s d;have f:Hid (iP (k+1) s=nU (iP k s)):=rfl;generalize b:iP k s=c at *;have g:Hid (iP k s=c):=b;clear b
  by_cases j:k<8
  ·go_wp2
   all_goals
    go_round
    case rel=>exact⟨k+1,by omega,by go_num,mS (by rw[f.out];first| exact Sd c a ‹_›| exact Pe c a ‹_›)⟩
    case measure=>simp[intOf];omega
  ·go_wp2
   go_ret
   have e:k=8:=by omega
   subst e;exact⟨rC (by rw[g.out]),rfl⟩
def jG(w:World)(b a:Nat)(zs:List Int):Prop:=∀i,i<zs.length→w.cell? ⟨b,a+i,none⟩=some (.int .u8 (zs.getD i 0))
def cT(zs:List Int):Prop:=∀z∈zs,0≤z∧z<256
theorem cT.getD{zs:List Int}(h:cT zs)(i:Nat):0≤zs.getD i 0∧zs.getD i 0<256:=by
 by_cases a:i<zs.length
 ·have:=h (zs.getD i 0) (by rw[List.getD_eq_getElem?_getD,List.getElem?_eq_getElem a];simp);exact this
 ·rw[List.getD_eq_getElem?_getD,List.getElem?_eq_none (by omega)];simp
theorem cT.take{zs:List Int}(h:cT zs)(n:Nat):cT (zs.take n):=fun z a=>h z (List.mem_of_mem_take a)
theorem cT.drop{zs:List Int}(h:cT zs)(n:Nat):cT (zs.drop n):=fun z a=>h z (List.mem_of_mem_drop a)
theorem Rf(s:Nat)(z:Int)(b:s<4294967296)(a:0≤z)(c:z<256):bits .xor .u32 (s:Int) z=((s ^^^ z.toNat:Nat):Int):=by
 have:=u32_xor (s:Int) z (by omega) (by omega) a (by omega)
 simpa using this
theorem Si(c:Nat)(h:c<4294967296):bits .xor .u32 IntKind.u32.max (c:Int)=((4294967295-c:Nat):Int):=by
 show IntKind.u32.wrap ((BitVec.ofInt 32 4294967295 ^^^ BitVec.ofInt 32 (c:Int)).toNat:Int)=_
 have a:BitVec.ofInt 32 4294967295=BitVec.allOnes 32:=by decide +kernel
 rw[a,BitVec.allOnes_xor,BitVec.toNat_not,ofInt_u32 c h,IntKind.wrap_u32'];omega
theorem Nb(b a cap:Nat)(zs:List Int)(w:World)(d:cT zs)(l:jG w b a zs)(r:zs.length≤9223372036854775807):
 Calls Tryz.prog 88 #[.slice (some ⟨b,a,none⟩) zs.length cap] w fun e w'=>e=.returned (.int .u32 (eN zs:Nat))∧w'=w:=by
 go_enter Tryz.func88,Tryz.ntmps88
 go_wp2
 go_loop [3,8] (fun t i=>∃k:Nat,k≤zs.length∧i=.int .i64 k∧t=.int .u32 (jH 4294967295 (zs.take k):Nat)) (fun _ i=>zs.length-(intOf i).toNat)
 case atStart=>exact⟨0,by omega,rfl,rfl⟩
 case round=>
  obtain⟨k,s,rfl,rfl⟩:=hrel;have f:=xS (zs.take k) 4294967295 (by omega) (d.take k)
  by_cases g:k<zs.length
  ·have u:=l k g;have h:=d.getD k;have m:Hid (jH 4294967295 (zs.take (k+1))=nL (jH 4294967295 (zs.take k)) (zs.getD k 0).toNat):=by
    show _=_
    rw[oE zs k g,tD]
   generalize jH 4294967295 (zs.take k)=c at *;generalize zs.getD k 0=z at *;have v:=Rf c z f h.1 h.2;have o:c ^^^ z.toNat<4294967296:=Nat.xor_lt_two_pow (n:=32) (by omega) (by omega);go_wp2_with (go_at_call 123;refine(Ew _ _ o).mono ?_;rintro e w' ⟨rfl,rfl⟩)
   go_round
   case rel=>exact⟨k+1,by omega,by go_num,mS (by rw[m.out];rfl)⟩
   case measure=>simp[intOf];omega
  ·have p:Hid (zs.take k=zs):=by
    show _=_
    rw[List.take_of_length_le (by omega)]
   have j:=Si _ f;have q:Hid _:=j;clear j;go_wp2
   go_ret
   exact⟨rC (by rw[q.out,p.out];rfl),rfl⟩
theorem Sk(s:Nat)(z:Int)(a:0≤z)(f:z<256):bits .or .u32 (IntKind.u32.wrap ((s:Int)*256)) z=(((s*256+z.toNat) % 4294967296:Nat):Int):=by
 obtain⟨n,rfl⟩:=Int.eq_ofNat_of_zero_le a;rw[IntKind.wrap_u32'];have e:((s:Int)*256) % 4294967296=((s*256 % 4294967296:Nat):Int):=by omega
 rw[e,u32_or_nat _ _ (by omega) (by omega)];have c:s*256 % 4294967296=(s % 16777216)*2 ^ 8:=by omega
 have d:=Nat.two_pow_add_eq_or_of_lt (i:=8) (b:=n) (by omega) (s % 16777216);rw[c,Nat.mul_comm,←d];simp only[Int.toNat_natCast];omega
theorem Ic(b a cap:Nat)(zs:List Int)(w:World)(g:cT zs)(h:jG w b a zs)(n:zs.length≤9223372036854775807):
 Calls Tryz.prog 87 #[.slice (some ⟨b,a,none⟩) zs.length cap] w fun e w'=>e=.returned (.int .u32 (bF 0 zs:Nat))∧w'=w:=by
 go_enter Tryz.func87,Tryz.ntmps87
 go_wp2
 go_loop [3,8] (fun t i=>∃k:Nat,k≤zs.length∧i=.int .i64 k∧t=.int .u32 (bF 0 (zs.take k):Nat)) (fun _ i=>zs.length-(intOf i).toNat)
 case atStart=>exact⟨0,by omega,rfl,rfl⟩
 case round=>
  obtain⟨k,o,rfl,rfl⟩:=hrel;have p:=mU (zs.take k) 0 (by omega)
  by_cases d:k<zs.length
  ·have q:=h k d;have f:=g.getD k;have j:Hid (bF 0 (zs.take (k+1))=(bF 0 (zs.take k)*256+(zs.getD k 0).toNat) % 4294967296):=by
    show _=_
    rw[oE zs k d,Di]
   generalize bF 0 (zs.take k)=c at *;generalize zs.getD k 0=z at *;have l:Hid _:=Sk c z f.1 f.2;go_wp2
   go_round
   case rel=>exact⟨k+1,by omega,by go_num,mS (by rw[j.out];exact l.out)⟩
   case measure=>simp[intOf];omega
  ·have m:Hid (zs.take k=zs):=by
    show _=_
    rw[List.take_of_length_le (by omega)]
   go_wp2
   go_ret
   exact⟨rC (by rw[m.out]),rfl⟩
def fW(zs:List Int):Bool:=zs.all (· == 255)
theorem Nn(b f cap:Nat)(zs:List Int)(w:World)(g:cT zs)(h:jG w b f zs)(p:zs.length≤9223372036854775807):
 Calls Tryz.prog 196 #[.slice (some ⟨b,f,none⟩) zs.length cap] w fun e w'=>e=.returned (.bool (fW zs))∧w'=w:=by
 go_enter Tryz.func196,Tryz.ntmps196
 go_wp2
 go_loop [7] (fun i=>∃k:Nat,k≤zs.length∧i=.int .i64 k∧fW (zs.take k)=true) (fun i=>zs.length-(intOf i).toNat)
 case atStart=>exact⟨0,by omega,rfl,rfl⟩
 case round=>
  obtain⟨k,q,rfl,a⟩:=hrel
  by_cases d:k<zs.length
  ·have r:=h k d;have s:=g.getD k;have j:Hid (fW (zs.take (k+1))=(zs.getD k 0 == 255)):=by
    show _=_
    rw[oE zs k d];unfold fW at *;rw[List.all_append,a];simp
   have l:Hid (zs.getD k 0≠255→fW zs=false):=by
    intro m;unfold fW;rw[List.all_eq_false];exact⟨zs.getD k 0,by rw[List.getD_eq_getElem?_getD,List.getElem?_eq_getElem d];simp,by simpa using m⟩
   clear a;generalize zs.getD k 0=z at *
   by_cases c:z=255
   ·subst c;go_wp2
    go_round
    case rel=>exact⟨k+1,by omega,by go_num,by rw[j.out];rfl⟩
    case measure=>simp[intOf];omega
   ·have u:(z != 255)=true:=by simpa using c
    have n:Hid (fW zs=false):=l.out c;clear c;go_wp2
    go_ret
    exact⟨yI n.out.symm,rfl⟩
  ·have o:Hid (fW zs=true):=by
    rw[List.take_of_length_le (by omega)]at a;exact a
   clear a;go_wp2
   go_ret
   exact⟨yI o.out.symm,rfl⟩
theorem Tryz.info5:(Tryz.prog.info? 5).map (fun i=>(i.zero,i.size,i.bytes))=some (some (.int .u8 0),1,1):=by kernel_rfl
def bZ(zs:List Int):List Value:=zs.map (Value.int .u8)
theorem iQ(a b:List Int):bZ (a++b)=bZ a++bZ b:=by simp[bZ]
theorem bX(a:List Int):(bZ a).length=a.length:=by simp[bZ]
theorem dA(w:World)(a:Array Value)(t:TypeId):∀b c,a.toList[b]?=some c→(w.alloc (.cells a t)).cell? ((⟨w.heap.size,0,none⟩:Addr).add b)=some c:=World.news_of_block (heap_alloc_new w _)
theorem jM(zs:List Int):∀a∈bZ zs,a.oneCell'=true:=by
 intro a b;obtain⟨z,_,rfl⟩:=List.mem_map.1 b;rfl
theorem aZ{w w':World}{o:Obj}{row:Option Nat}(h:(w.alloc o).grownBy w' row):w.grownBy w' row:=
 ⟨h.os,h.tape,h.output,by have:=h.size;simp at this;omega,fun k a b=>(h.block k (by simp;omega) b).trans (Below.heap_alloc w o k a)⟩
theorem Dt(n:Nat)(f:n<4294967296):bZ (oQ n)=#[Value.int .u8 ((n:Int) / 16777216),.int .u8 ((n:Int) / 65536 % 256),.int .u8 ((n:Int) / 256 % 256),.int .u8 ((n:Int) % 256)].toList:=by
 have a:((n / 16777216 % 256:Nat):Int)=(n:Int) / 16777216:=by omega
 have b:((n / 65536 % 256:Nat):Int)=(n:Int) / 65536 % 256:=by omega
 have c:((n / 256 % 256:Nat):Int)=(n:Int) / 256 % 256:=by omega
 have d:((n % 256:Nat):Int)=(n:Int) % 256:=by omega
 unfold bZ oQ;rw[a,b,c,d];rfl
theorem uV(base g k cap n:Nat)(zs:List Int)(w:World)(d:w.ownsRow base 5 1 (.slice (some ⟨g,0,none⟩) k cap) k (bZ zs))(f:k+4≤cap)(h:n<4294967296):
 Calls Tryz.prog 152 #[.slice (some ⟨g,0,none⟩) k cap,.int .u32 n] w fun e w'=>e=.returned (.slice (some ⟨g,0,none⟩) (k+4) cap)∧
  w'.ownsRow base 5 1 (.slice (some ⟨g,0,none⟩) (k+4) cap) (k+4) (bZ (zs++oQ n))∧w.grownBy w' (some g):=by
 obtain⟨i,j,p,l,q⟩:=info_parts Tryz.info5
 go_enter Tryz.func152,Tryz.ntmps152
 go_wp2_with (at_builtin;go_must (refine wpList_append_fits _ rfl (.tmp 5) (.tmp 17) 22 rfl base 5 i 1 Tryz.underlying22 j l g k cap (bZ zs) rfl (d.alloc _) ⟨w.heap.size,0,none⟩ 4 4 (bZ (oQ n)) (by rfl) rfl (by rw[Dt n h];exact dA w _ 5) (jM _) f ?_))
 intro a b c;have m:Hid (a.ownsRow base 5 1 (.slice (some ⟨g,0,none⟩) (k+4) cap) (k+4) (bZ (zs++oQ n))):=by rw[iQ];exact b
 have o:Hid (w.grownBy a (some g)):=aZ c;clear b c;go_wp2
 go_ret
 exact⟨rfl,m.out,o.out⟩
theorem vF(base g k cap:Nat)(n:Int)(zs:List Int)(w:World)(a:w.ownsRow base 5 1 (.slice (some ⟨g,0,none⟩) k cap) k (bZ zs))(b:k+4≤cap)(c:0≤n)(f:n<4294967296):
 Calls Tryz.prog 152 #[.slice (some ⟨g,0,none⟩) k cap,.int .u32 n] w fun e w'=>e=.returned (.slice (some ⟨g,0,none⟩) (k+4) cap)∧
  w'.ownsRow base 5 1 (.slice (some ⟨g,0,none⟩) (k+4) cap) (k+4) (bZ (zs++oQ n.toNat))∧w.grownBy w' (some g):=by
 obtain⟨d,rfl⟩:=Int.eq_ofNat_of_zero_le c;exact uV base g k cap d zs w a b (by omega)
theorem xX(b a n cap:Nat)(zs:List Int)(w:World)(c:zs.length=n)(d:cT zs)(f:jG w b a zs)(g:n≤9223372036854775807):
 Calls Tryz.prog 88 #[.slice (some ⟨b,a,none⟩) n cap] w fun e w'=>e=.returned (.int .u32 (eN zs:Nat))∧w'=w:=by
 subst c;exact Nb b a cap zs w d f g
theorem tX(b a n cap:Nat)(zs:List Int)(w:World)(c:zs.length=n)(d:cT zs)(f:jG w b a zs)(g:n≤9223372036854775807):
 Calls Tryz.prog 87 #[.slice (some ⟨b,a,none⟩) n cap] w fun e w'=>e=.returned (.int .u32 (bF 0 zs:Nat))∧w'=w:=by
 subst c;exact Ic b a cap zs w d f g
theorem sS(b a n cap:Nat)(zs:List Int)(w:World)(c:zs.length=n)(d:cT zs)(f:jG w b a zs)(g:n≤9223372036854775807):
 Calls Tryz.prog 196 #[.slice (some ⟨b,a,none⟩) n cap] w fun e w'=>e=.returned (.bool (fW zs))∧w'=w:=by
 subst c;exact Nn b a cap zs w d f g
theorem jG.piece{w:World}{b a:Nat}{zs:List Int}(h:jG w b a zs)(i n:Nat):jG w b (a+i) ((zs.drop i).take n):=by
 intro c d;simp only[List.length_take,List.length_drop]at d;have:=h (i+c) (by omega);rw[Nat.add_assoc,this];simp only[List.getD_eq_getElem?_getD,List.getElem?_take,List.getElem?_drop];rw[if_pos (by omega)]
theorem iS{w:World}{base g n cap:Nat}{zs:List Int}(h:w.ownsRow base 5 1 (.slice (some ⟨g,0,none⟩) n cap) n (bZ zs)):jG w g 0 zs:=by
 intro i a;have:=h.cells (g:=g) rfl i (.int .u8 (zs.getD i 0)) (by simp[bZ,List.getD_eq_getElem?_getD,List.getElem?_eq_getElem a]);have e:(⟨g,0,none⟩:Addr).add i=⟨g,0+i,none⟩:=by unfold Addr.add;split<;>simp_all
 rw[←e];exact this
def dX(a part code b c:Int):List Int:=[a % 256,part % 256,code % 256]++oQ (b % 4294967296).toNat++oQ (c % 4294967296).toNat
def dN(a part code b c:Int):List Int:=0::dX a part code b c++oQ (eN (dX a part code b c))
theorem lD(n:Nat):cT (oQ n):=by
 intro z a;simp only[oQ,List.mem_cons,List.not_mem_nil,or_false]at a;omega
theorem mY(b part code c d:Int):cT (dX b part code c d):=by
 intro z a;simp only[dX,List.mem_append,List.mem_cons,List.not_mem_nil,or_false]at a;rcases a with(a| a)| a
 ·omega
 ·exact lD _ z a
 ·exact lD _ z a
theorem Rp(a part code b c:Int)(w:World):
 Calls Tryz.prog 191 #[.agg #[.int .i64 a,.int .i64 part,.int .i64 code,.int .i64 b,.int .i64 c]] w fun e w'=>∃g,e=.returned (.slice (some ⟨g,0,none⟩) 16 16)∧
  w'.ownsRow w.heap.size 5 1 (.slice (some ⟨g,0,none⟩) 16 16) 16 (bZ (dN a part code b c))∧Below w.heap.size w w':=by
 obtain⟨s,u,N,v,O⟩:=info_parts Tryz.info5
 go_enter Tryz.func191,Tryz.ntmps191
 go_wp2_with (at_make;go_must (refine wpList_make_own _ rfl _ _ 22 rfl w.heap.size 5 s (.int .u8 0) 1 Tryz.underlying22 u N v .i64 .i64 16 16 rfl rfl rfl (by rw[O];omega) (by decide) (by simp) ?_))
 intro d x k;have h:d.heap[w.heap.size]?=some (.cells #[.int .i64 a,.int .i64 part,.int .i64 code,.int .i64 b,.int .i64 c] 52 (0,0)):=(k.block _ (by simp) (by simp)).trans (heap_alloc_new w _);have y:Hid (Below w.heap.size w d):=(aG _ _).grown k (by simp) (by simp);have l:Hid (w.heap.size+1≤d.heap.size):=by have:=k.size;simp at this;exact this
 have P:d.cell? ⟨w.heap.size,0,none⟩=some (.int .i64 a):=aD h;have c1:d.cell? ⟨w.heap.size,1,none⟩=some (.int .i64 part):=aD h;have c2:d.cell? ⟨w.heap.size,2,none⟩=some (.int .i64 code):=aD h;have z:Hid (d.heap[w.heap.size]?=some (.cells #[.int .i64 a,.int .i64 part,.int .i64 code,.int .i64 b,.int .i64 c] 52 (0,0))):=h;clear h k;go_wp2_with (at_builtin;go_must (refine wpList_append_fits _ rfl (.tmp 5) (.tmp 15) 22 rfl w.heap.size 5 s 1 Tryz.underlying22 u v (w.heap.size+1) 0 16 [] rfl (x.alloc _) ⟨d.heap.size,0,none⟩ 4 4 (bZ [0,a % 256,part % 256,code % 256]) (by rfl) rfl (dA d _ 5) (jM _) (by omega) ?_))
 intro f A m;have p:f.heap[w.heap.size]?=some (.cells #[.int .i64 a,.int .i64 part,.int .i64 code,.int .i64 b,.int .i64 c] 52 (0,0)):=((aZ m).block _ (by have:=l.out;omega) (by simp)).trans z.out;have B:Hid (Below w.heap.size w f):=(y.out).grown (aZ m) (by have:=l.out;omega) (by simp);have n:Hid (w.heap.size+1≤f.heap.size):=by have:=(aZ m).size;have:=l.out;show _≤_;omega
 have Q:f.cell? ⟨w.heap.size,3,none⟩=some (.int .i64 b):=aD p;have C:Hid (f.heap[w.heap.size]?=some (.cells #[.int .i64 a,.int .i64 part,.int .i64 code,.int .i64 b,.int .i64 c] 52 (0,0))):=p;have D:Hid _:=A;clear p m z y l P c1 c2 x A;go_wp2_with fail
 refine(vF w.heap.size (w.heap.size+1) 4 16 _ _ f D.out (by omega) (by omega) (by omega)).mono ?_;rintro e i ⟨rfl,E,o⟩;have F:i.heap[w.heap.size]?=some (.cells #[.int .i64 a,.int .i64 part,.int .i64 code,.int .i64 b,.int .i64 c] 52 (0,0)):=(o.block _ (by have:=n.out;omega) (by simp)).trans C.out;have G:Hid (Below w.heap.size w i):=(B.out).grown o (by have:=n.out;omega) (by simp);have q:Hid (w.heap.size+1≤i.heap.size):=by have:=o.size;have:=n.out;show _≤_;omega
 have R:i.cell? ⟨w.heap.size,4,none⟩=some (.int .i64 c):=aD F;have H:Hid _:=E;clear o C F B n Q E D;go_wp2_with fail
 refine(vF w.heap.size (w.heap.size+1) 8 16 _ _ i H.out (by omega) (by omega) (by omega)).mono ?_;rintro e j ⟨rfl,I,r⟩;have S:Hid (Below w.heap.size w j):=(G.out).grown r (by have:=q.out;omega) (by simp);have T:Hid (w.heap.size+1≤j.heap.size):=by have:=r.size;have:=q.out;show _≤_;omega
 have J:Hid (j.ownsRow w.heap.size 5 1 (.slice (some ⟨w.heap.size+1,0,none⟩) 12 16) 12 (bZ (0::dX a part code b c))):=by
  show World.ownsRow _ _ _ _ _ _ _
  simpa[dX]using I
 have U:Hid (jG j (w.heap.size+1) 1 (dX a part code b c)):=by
  have:=(iS J.out).piece 1 11;exact this
 clear r G q R I H;go_wp2_with fail
 refine(xX (w.heap.size+1) 1 11 15 (dX a part code b c) j rfl (mY _ _ _ _ _) U.out (by omega)).mono ?_;rintro e V ⟨rfl,rfl⟩;have W:=Gj (dX a part code b c);have a0:Hid (dN a part code b c=0::dX a part code b c++oQ (eN (dX a part code b c))):=rfl;go_wp2_with fail
 refine(uV w.heap.size (w.heap.size+1) 12 16 _ _ V J.out (by omega) W).mono ?_;rintro e X ⟨rfl,L,M⟩;have Y:Hid (Below w.heap.size w X):=(S.out).grown M (by have:=T.out;omega) (by simp);have Z:Hid _:=L;clear L M;go_wp2
 go_ret
 exact⟨w.heap.size+1,rfl,Z.out,Y.out⟩
section
open Go.RowKit
theorem oZ(b c i a cap:Nat)(zs:List Int)(w:World)(d:cT zs)(f:jG w b c zs)(h:i+a≤zs.length)(g:a≤9223372036854775807):
 Calls Tryz.prog 87 #[.slice (some ⟨b,c+i,none⟩) a cap] w fun e w'=>e=.returned (.int .u32 (bF 0 ((zs.drop i).take a):Nat))∧w'=w:=
 tX b (c+i) a cap _ w (by simp;omega) ((d.drop i).take a) (f.piece i a) g
theorem uY(b c i a cap:Nat)(zs:List Int)(w:World)(d:cT zs)(f:jG w b c zs)(h:i+a≤zs.length)(g:a≤9223372036854775807):
 Calls Tryz.prog 88 #[.slice (some ⟨b,c+i,none⟩) a cap] w fun e w'=>e=.returned (.int .u32 (eN ((zs.drop i).take a):Nat))∧w'=w:=
 xX b (c+i) a cap _ w (by simp;omega) ((d.drop i).take a) (f.piece i a) g
theorem Hp{w:World}{b c:Nat}{zs:List Int}(d:jG w b c zs)(h:0<zs.length):b<w.heap.size:=by
 have:=d 0 h;rcases Nat.lt_or_ge b w.heap.size with a| a
 ·exact a
 ·simp[World.cell?,Array.getElem?_eq_none a]at this
theorem jG.alloc{w:World}{b a:Nat}{zs:List Int}(c:jG w b a zs)(o:Obj):jG (w.alloc o) b a zs:=by
 intro i d;have f:=Hp c (by omega);rw[World.cell?_alloc_past _ _ _ f];exact c i d
theorem jG.drew{w:World}{b a:Nat}{zs:List Int}(c:jG w b a zs):jG w.drew b a zs:=c
theorem jG.drewN{w:World}{b a:Nat}{zs:List Int}(c:jG w b a zs)(n:Nat):jG (w.drewN n) b a zs:=c
theorem jG.below{w w':World}{B b a:Nat}{zs:List Int}(c:jG w b a zs)(d:Below B w w')(f:b<B):jG w' b a zs:=fun i g=>(d.cell (by exact f)).trans (c i g)
def To(zs:List Int):Value:=.agg #[.int .i64 (zs.getD 1 0),.int .i64 (zs.getD 2 0),.int .i64 (zs.getD 3 0),.int .i64 (bF 0 ((zs.drop 4).take 4):Nat),.int .i64 (bF 0 ((zs.drop 8).take 4):Nat)]
theorem iX(n:Int)(a:0≤n)(b:n<4294967296):IntKind.i64.wrap n=n:=by
 rw[IntKind.wrap_i64];omega
attribute [local go_sem ↓] Go.wp_at_zero Go.wp_at_succ
theorem Ep(b a cap:Nat)(z1 z2 z3:Int)(F:Nat→Nat)(P:World→Prop)(w:World)(n:16≤cap)(p:cap≤9223372036854775807)
 (q:0≤z1∧z1<256) (r:0≤z2∧z2<256) (s:0≤z3∧z3<256) (u:F 4<4294967296) (x:F 8<4294967296)
 (h:∀W,P W→W.cell? ⟨b,a+1,none⟩=some (.int .u8 z1)∧W.cell? ⟨b,a+2,none⟩=some (.int .u8 z2)∧W.cell? ⟨b,a+3,none⟩=some (.int .u8 z3)∧P W)
 (j:∀o,P (w.alloc o)) (k:∀W,P W→P W.drew)
 (g:∀i,i+4≤12→∀W c,P W→Calls Tryz.prog 87 #[.slice (some ⟨b,a+i,none⟩) 4 c] W fun e w'=>e=.returned (.int .u32 (F i))∧w'=W):
 Calls Tryz.prog 197 #[.slice (some ⟨b,a,none⟩) 16 cap] w fun e w'=>e=.returned (.agg #[.int .i64 z1,.int .i64 z2,.int .i64 z3,.int .i64 (F 4),.int .i64 (F 8)])∧Below w.heap.size w w':=by
 have y:IntKind.i64.wrap z1=z1:=iX _ (by omega) (by omega);have z:IntKind.i64.wrap z2=z2:=iX _ (by omega) (by omega);have A:IntKind.i64.wrap z3=z3:=iX _ (by omega) (by omega);have B:IntKind.i64.wrap (F 4:Int)=F 4:=iX _ (by omega) (by omega);have C:IntKind.i64.wrap (F 8:Int)=F 8:=iX _ (by omega) (by omega);have D:(8:Int)≤(cap:Int):=by omega
 have E:(12:Int)≤(cap:Int):=by omega
 have G:¬cap=4:=by omega
 have H:¬cap=8:=by omega
 have I:(4:Int)≤8:=by omega
 have J:(8:Int)≤12:=by omega
 have f:Hid _:=h;have d:Hid _:=j;have l:Hid _:=k;have m:Hid _:=g;clear h j k g
 go_enter Tryz.func197,Tryz.ntmps197
 go_wp2
 go_region_held3 (fun w'=>w'.cell? ⟨b,a+1,none⟩=some (.int .u8 z1)∧w'.cell? ⟨b,a+2,none⟩=some (.int .u8 z2)∧w'.cell? ⟨b,a+3,none⟩=some (.int .u8 z3)∧P w')
  (first| exact f.out _ (d.out _)| exact f.out _ (l.out _ (d.out _))| (refine f.out _ ?_;assumption))
  (first| (go_at_call 87;refine(m.out _ (by omega) _ _ (by first| exact d.out _| exact l.out _ (d.out _))).mono ?_;rintro e w' ⟨rfl,rfl⟩))
 go_wp2
 exact bodyPost_ret (v:=.agg #[.int .i64 z1,.int .i64 z2,.int .i64 z3,.int .i64 (F 4),.int .i64 (F 8)]) (by simp[results,Tryz.results197,go_sem]) rfl ⟨rfl,(aG _ _).drew⟩
theorem Ht(b a cap:Nat)(zs:List Int)(w:World)(k:zs.length=16)(d:cT zs)(f:jG w b a zs)(g:16≤cap)(j:cap≤9223372036854775807):
 Calls Tryz.prog 197 #[.slice (some ⟨b,a,none⟩) 16 cap] w fun e w'=>e=.returned (To zs)∧Below w.heap.size w w':=
 Ep b a cap (zs.getD 1 0) (zs.getD 2 0) (zs.getD 3 0) (fun i=>bF 0 ((zs.drop i).take 4)) (fun W=>jG W b a zs) w g j (d.getD 1) (d.getD 2) (d.getD 3)
  (mU _ 0 (by omega)) (mU _ 0 (by omega)) (fun W h=>⟨h 1 (by omega),h 2 (by omega),h 3 (by omega),h⟩) (fun o=>f.alloc o) (fun W h=>h.drew)
  (fun i l W c h=>oZ b a i 4 c zs W d h (by omega) (by omega))
def mI:Value:=.agg #[.int .i64 0,.int .i64 0,.int .i64 0,.int .i64 0,.int .i64 0]
def xH(zs:List Int):Bool:=bF 0 ((zs.drop 12).take 4) == eN ((zs.drop 1).take 11)
def dH(zs:List Int):Int:=if fW zs=true then 0 else if zs.getD 0 0≠0 then 1 else if xH zs=false then 2 else 3
theorem Hm(b a cap:Nat)(zs:List Int)(w:World)(d:zs.length=16)(f:cT zs)(g:jG w b a zs)(c:fW zs=true):
 Calls Tryz.prog 168 #[.slice (some ⟨b,a,none⟩) 16 cap] w fun e w'=>e=.returned (.tuple #[.int .i64 0,mI,.int .i64 0])∧Below w.heap.size w w':=by
 have h:Hid _:=c;clear c
 go_enter Tryz.func168,Tryz.ntmps168
 go_wp2_with (go_at_call 196;refine(sS b a 16 cap zs _ d f (g.alloc _) (by omega)).mono ?_;rintro e w' ⟨rfl,rfl⟩;rw[h.out])
 exact bodyPost_ret (v:=.tuple #[.int .i64 0,mI,.int .i64 0]) (by simp[results,Tryz.results168,go_sem,mI]) rfl ⟨rfl,(aG _ _)⟩
theorem Mp(b a cap:Nat)(zs:List Int)(w:World)(f:zs.length=16)(g:cT zs)(c:jG w b a zs)(d:fW zs=false)(h:(zs.getD 0 0 != 0)=true):
 Calls Tryz.prog 168 #[.slice (some ⟨b,a,none⟩) 16 cap] w fun e w'=>e=.returned (.tuple #[.int .i64 1,mI,.int .i64 0])∧Below w.heap.size w w':=by
 have i:Hid _:=d;have j:Hid (jG w b a zs):=c;have k:∀o,(w.alloc o).cell? ⟨b,a,none⟩=some (.int .u8 (zs.getD 0 0)):=fun o=>c.alloc o 0 (by omega)
 clear d c;generalize zs.getD 0 0=z at h k
 go_enter Tryz.func168,Tryz.ntmps168
 go_wp2_with (go_at_call 196;refine(sS b a 16 cap zs _ f g (j.out.alloc _) (by omega)).mono ?_;rintro e w' ⟨rfl,rfl⟩;rw[i.out])
 exact bodyPost_ret (v:=.tuple #[.int .i64 1,mI,.int .i64 0]) (by simp[results,Tryz.results168,go_sem,mI]) rfl ⟨rfl,(aG _ _)⟩
theorem Tr(a b:Nat)(h:(a == b)=false):((a:Int) != (b:Int))=true:=by
 have:=beq_eq_false_iff_ne.1 h;rw[bne_iff_ne];omega
theorem Ts(a b:Nat)(h:(a == b)=true):((a:Int) != (b:Int))=false:=by
 have:=beq_iff_eq.1 h;simp[this]
theorem Bu(b a cap:Nat)(zs:List Int)(w:World)(r:zs.length=16)(d:cT zs)(f:jG w b a zs)(u:16≤cap)(x:cap≤9223372036854775807)(i:fW zs=false)(j:zs.getD 0 0=0)(k:xH zs=false):
 Calls Tryz.prog 168 #[.slice (some ⟨b,a,none⟩) 16 cap] w fun e w'=>e=.returned (.tuple #[.int .i64 2,mI,.int .i64 0])∧Below w.heap.size w w':=by
 have s:Hid (fW zs=false):=i;have g:Hid (jG w b a zs):=f;have y:∀o,(w.alloc o).cell? ⟨b,a,none⟩=some (.int .u8 0):=fun o=>by rw[←j];exact f.alloc o 0 (by omega)
 have z:(12:Int)≤(cap:Int):=by omega
 have A:(16:Int)≤(cap:Int):=by omega
 have B:¬cap=12:=by omega
 have C:¬cap=1:=by omega
 have l:=Tr _ _ k;have m:Hid (∀W c,jG W b a zs→Calls Tryz.prog 87 #[.slice (some ⟨b,a+12,none⟩) 4 c] W fun e w'=>e=.returned (.int .u32 (bF 0 ((zs.drop 12).take 4):Nat))∧w'=W):=fun W c h=>oZ b a 12 4 c zs W d h (by omega) (by omega)
 have n:Hid (∀W c,jG W b a zs→Calls Tryz.prog 88 #[.slice (some ⟨b,a+1,none⟩) 11 c] W fun e w'=>e=.returned (.int .u32 (eN ((zs.drop 1).take 11):Nat))∧w'=W):=fun W c h=>uY b a 1 11 c zs W d h (by omega) (by omega)
 generalize bF 0 ((zs.drop 12).take 4)=p at l m;generalize eN ((zs.drop 1).take 11)=q at l n;clear i f k j
 go_enter Tryz.func168,Tryz.ntmps168
 go_wp2_with (go_at_call 196;refine(sS b a 16 cap zs _ r d (g.out.alloc _) (by omega)).mono ?_;rintro e w' ⟨rfl,rfl⟩;rw[s.out])
 go_quiet ((first| (go_at_call 87;exact Calls.quiet_of_same (m.out _ _ (g.out.alloc _)))| (go_at_call 88;exact Calls.quiet_of_same (n.out _ _ (g.out.alloc _)))))
 go_wp2
 refine bodyPost_ret (v:=.tuple #[.int .i64 2,mI,.int .i64 0]) (by simp[results,Tryz.results168,go_sem,mI]) rfl ⟨rfl,?_⟩;exact(((((below_drewN (aG _ _) nq).setCell (Nat.le_refl _) _).setCell (Nat.le_refl _) _).setCell (Nat.le_refl _) _).setCell (Nat.le_refl _) _).setCell (Nat.le_refl _) _
end
section
open Go.RowKit
theorem bcell{W a:World}(c:Below W.heap.size W a):(∀b o,b<W.heap.size→a.cell? ⟨b,o,none⟩=W.cell? ⟨b,o,none⟩)∧(∀b o,b<W.heap.size→a.frozen? ⟨b,o,none⟩=W.frozen? ⟨b,o,none⟩):=
 ⟨fun b o h=>c.cell (p:=⟨b,o,none⟩) h,fun b o h=>c.frozen (p:=⟨b,o,none⟩) h⟩
theorem zE(b a cap:Nat)(zs:List Int)(r1 d f g i:Int)(w:World)(B:zs.length=16)(l:cT zs)(m:jG w b a zs)(G:16≤cap)(H:cap≤9223372036854775807)(n:fW zs=false)(r:zs.getD 0 0=0)(s:xH zs=true)
 (u:∀W,jG W b a zs→Calls Tryz.prog 197 #[.slice (some ⟨b,a,none⟩) 16 cap] W fun e w'=>e=.returned (.agg #[.int .i64 r1,.int .i64 d,.int .i64 f,.int .i64 g,.int .i64 i])∧Below W.heap.size W w'):
 Calls Tryz.prog 168 #[.slice (some ⟨b,a,none⟩) 16 cap] w fun e w'=>e=.returned (.tuple #[.int .i64 3,.agg #[.int .i64 r1,.int .i64 d,.int .i64 f,.int .i64 g,.int .i64 i],.int .i64 0])∧Below w.heap.size w w':=by
 have C:Hid (fW zs=false):=n;have j:Hid (jG w b a zs):=m;have D:Hid (∀W,jG W b a zs→Calls Tryz.prog 197 #[.slice (some ⟨b,a,none⟩) 16 cap] W fun e w'=>e=.returned (.agg #[.int .i64 r1,.int .i64 d,.int .i64 f,.int .i64 g,.int .i64 i])∧Below W.heap.size W w'):=u;have I:∀o,(w.alloc o).cell? ⟨b,a,none⟩=some (.int .u8 0):=fun o=>by rw[←r];exact m.alloc o 0 (by omega)
 have J:(12:Int)≤(cap:Int):=by omega
 have L:(16:Int)≤(cap:Int):=by omega
 have M:¬cap=12:=by omega
 have N:¬cap=1:=by omega
 have x:=Ts _ _ s;have y:Hid (∀W c,jG W b a zs→Calls Tryz.prog 87 #[.slice (some ⟨b,a+12,none⟩) 4 c] W fun e w'=>e=.returned (.int .u32 (bF 0 ((zs.drop 12).take 4):Nat))∧w'=W):=fun W c h=>oZ b a 12 4 c zs W l h (by omega) (by omega)
 have z:Hid (∀W c,jG W b a zs→Calls Tryz.prog 88 #[.slice (some ⟨b,a+1,none⟩) 11 c] W fun e w'=>e=.returned (.int .u32 (eN ((zs.drop 1).take 11):Nat))∧w'=W):=fun W c h=>uY b a 1 11 c zs W l h (by omega) (by omega)
 generalize bF 0 ((zs.drop 12).take 4)=p at x y;generalize eN ((zs.drop 1).take 11)=q at x z;clear n m s r u
 go_enter Tryz.func168,Tryz.ntmps168
 go_wp2_with (go_at_call 196;refine(sS b a 16 cap zs _ B l (j.out.alloc _) (by omega)).mono ?_;rintro e w' ⟨rfl,rfl⟩;rw[C.out])
 go_quiet ((first| (go_at_call 87;exact Calls.quiet_of_same (y.out _ _ (j.out.alloc _)))| (go_at_call 88;exact Calls.quiet_of_same (z.out _ _ (j.out.alloc _)))))
 go_wp2_with fail
 refine(D.out _ ((j.out.alloc _).drewN nq)).mono ?_;rintro e A ⟨rfl,k⟩;obtain⟨E,O⟩:=bcell k;have F:Hid (Below w.heap.size w A):=((below_drewN (aG _ _) nq).trans (k.mono (by simp)));have P:w.heap.size<A.heap.size:=by have:=k.size;simp at this;omega
 clear k;go_wp2
 refine bodyPost_ret (v:=.tuple #[.int .i64 3,.agg #[.int .i64 r1,.int .i64 d,.int .i64 f,.int .i64 g,.int .i64 i],.int .i64 0]) (by simp[results,Tryz.results168,go_sem,E]) rfl ⟨rfl,?_⟩;exact((((F.out.setCell (Nat.le_refl _) _).setCell (Nat.le_refl _) _).setCell (Nat.le_refl _) _).setCell (Nat.le_refl _) _).setCell (Nat.le_refl _) _
def xK(zs:List Int):Nat→Int
 | 0=>zs.getD 1 0
 | 1=>zs.getD 2 0
 | 2=>zs.getD 3 0
 | 3=>(bF 0 ((zs.drop 4).take 4):Nat)
 | _=>(bF 0 ((zs.drop 8).take 4):Nat)
def dL(zs:List Int)(i:Nat):Int:=if dH zs=3 then xK zs i else 0
def jZ(r:Nat→Int):Value:=.agg #[.int .i64 (r 0),.int .i64 (r 1),.int .i64 (r 2),.int .i64 (r 3),.int .i64 (r 4)]
theorem sX{a b:Int}{r1 c:Nat→Int}{e:Int}(d:a=b)(f:r1=c):Ending.returned (.tuple #[.int .i64 a,jZ r1,.int .i64 e])=.returned (.tuple #[.int .i64 b,jZ c,.int .i64 e]):=by rw[d,f]
theorem Hu(b c cap:Nat)(zs:List Int)(w:World)(j:zs.length=16)(k:cT zs)(l:jG w b c zs)(m:16≤cap)(n:cap≤9223372036854775807):
 Calls Tryz.prog 168 #[.slice (some ⟨b,c,none⟩) 16 cap] w fun e w'=>e=.returned (.tuple #[.int .i64 (dH zs),jZ (dL zs),.int .i64 0])∧Below w.heap.size w w':=by
 have none:dH zs≠3→(fun _=>0)=dL zs:=fun h=>by funext i;simp[dL,h]
 by_cases o:fW zs=true
 ·have a:dH zs=0:=by simp[dH,o]
  refine(Hm b c cap zs w j k l o).mono ?_;rintro e w' ⟨rfl,d⟩;exact⟨sX a.symm (none (by omega)),d⟩
 ·have f:fW zs=false:=by simpa using o
  by_cases g:zs.getD 0 0=0
  ·by_cases p:xH zs=true
   ·have a:dH zs=3:=by simp only[dH,f,g,p];decide
    refine(zE b c cap zs _ _ _ _ _ w j k l m n f g p (fun W h=>Ht b c cap zs W j k h m n)).mono ?_;rintro e w' ⟨rfl,d⟩;exact⟨sX (r1:=xK zs) a.symm (by funext i;simp[dL,a]),d⟩
   ·have q:xH zs=false:=by simpa using p
    have a:dH zs=2:=by simp only[dH,f,g,q];decide
    refine(Bu b c cap zs w j k l m n f g q).mono ?_;rintro e w' ⟨rfl,d⟩;exact⟨sX a.symm (none (by omega)),d⟩
  ·have a:dH zs=1:=by unfold dH;rw[f,if_neg (by decide),if_pos g]
   refine(Mp b c cap zs w j k l f (by simpa using g)).mono ?_;rintro e w' ⟨rfl,d⟩;exact⟨sX a.symm (none (by omega)),d⟩
end
section
open Go.RowKit
theorem Bz(b part code c d:Int):cT (dN b part code c d):=by
 intro z a;simp only[dN,List.cons_append,List.mem_cons,List.mem_append]at a;rcases a with a| a| a
 ·omega
 ·exact mY _ _ _ _ _ z a
 ·exact lD _ z a
theorem rP(a part code b c:Int):(dN a part code b c).length=16:=rfl
end
end Go.Proofs.YtnjlbgolnbdkaaaGreat
