/- All, with short names -/
import Derived.Test.YtnjlbgolnbdkaaaGreatP12
import Derived.Test.YtnjlbgolnbdkaaaGreatP03
import Derived.Test.YtnjlbgolnbdkaaaGreatP39
import Derived.Test.YtnjlbgolnbdkaaaGreatP40
import Derived.Test.YtnjlbgolnbdkaaaGreatP41
import Derived.Test.YtnjlbgolnbdkaaaGreatP42
import Derived.Test.YtnjlbgolnbdkaaaGreatP43
import Derived.Test.YtnjlbgolnbdkaaaGreatP45
set_option maxRecDepth 100000
set_option maxHeartbeats 16000000
namespace Go.Proofs.YtnjlbgolnbdkaaaGreat
open Go Go.RowKit
section
open Go.RowKit
attribute [-go_sem] Instr.build
theorem So(W:World):(Instr.build 80 #[(1,.int .i64 (-1))]).run Tryz.prog W=.ok (.agg (iA (List.replicate 256 0) (-1) 0 false 0).toArray) W:=by kernel_rfl
def oU(zs:List Int):List Int:=(List.range 256).map fun i=>if i<zs.length then zs.getD i 0 else 255
def oB(zs:List Int)(k:Nat):List Int:=(List.range 256).map fun i=>if i<k then(if i<zs.length then zs.getD i 0 else 255)else 0
theorem Bs(zs:List Int)(k:Nat):(oB zs k).length=256:=by simp[oB]
theorem Lu(zs:List Int):oB zs 256=oU zs:=by
 unfold oB oU
 apply List.map_congr_left
 intro i a;rw[if_pos (by simpa using a)]
theorem Pg(n:Nat)(f:Nat→Int)(h:∀i,f i=0):(List.range n).map f=List.replicate n 0:=by
 induction n with
 | zero=>rfl
 | succ n ih=>rw[List.range_succ,List.map_append,ih,List.replicate_succ',List.map_singleton,h n]
theorem Jj(zs:List Int):oB zs 0=List.replicate 256 0:=Pg 256 _ (fun i=>if_neg (by omega))
theorem Bb(zs:List Int)(k:Nat)(z:Int)(b:k<256)(c:z=if k<zs.length then zs.getD k 0 else 255):(oB zs k).set k z=oB zs (k+1):=by
 unfold oB
 apply List.ext_getElem?
 intro i
 by_cases h:i<256
 ·rw[List.getElem?_set]
  by_cases a:k=i
  ·subst a;simp[b,c]
  ·rw[if_neg a];simp only[List.getElem?_map,List.getElem?_range h,Option.map_some];have e:(i<k)↔(i<k+1):=by omega
   simp only[e]
 ·rw[List.getElem?_eq_none (by simp;omega),List.getElem?_eq_none (by simp;omega)]
theorem Ed(zs:List Int)(a:cT zs)(k:Nat):cT (oB zs k):=by
 intro z h;obtain⟨i,_,rfl⟩:=List.mem_map.1 h;have:=a.getD i;split
 ·split<;>omega
 ·omega
theorem Lr(bs:List Int)(left res:Int)(dead:Bool)(done:Int)(k:Nat)(z:Int)(a:k<bs.length):(iA bs left res dead done).toArray.setIfInBounds k (.int .u8 z)=(iA (bs.set k z) left res dead done).toArray:=by
 apply Array.ext'
 rw[Array.toList_setIfInBounds];show(bZ bs++_).set k _=bZ (bs.set k z)++_
 rw[List.set_append_left _ _ (by rw[bX];exact a)]
 congr 1
 unfold bZ;rw[List.map_set]
theorem aS.put{w:World}{g:Nat}{bs:List Int}{left res:Int}{dead:Bool}{done:Int}(h:aS w g bs left res dead done)(k:Nat)(z:Int)(a:k<256)(b:0≤z∧z<256):aS (w.setCell ⟨g,k,none⟩ (.int .u8 z)) g (bs.set k z) left res dead done:=by
 refine⟨?_,by rw[List.length_set];exact h.len,fun c d=>?_⟩
 ·rw[aK h.blk k _,Lr _ _ _ _ _ _ _ (by rw[h.len];exact a)]
 ·rcases List.mem_or_eq_of_mem_set d with f| rfl
  ·exact h.bytes c f
  ·exact b
theorem pA(l:Option Addr)(n cap:Nat)(zs:List Int)(w:World)(i:gV w l n cap zs)(C:n≤140737488351232):
 Calls Tryz.prog 13 #[.slice l n cap] w fun e w'=>∃g,e=.returned (.pointer (some ⟨g,0,none⟩))∧w.heap.size≤g∧aS w' g (oU zs) (-1) 0 false 0∧Below w.heap.size w w':=by
 have u:=So;obtain⟨m,j⟩:∃m,m=(iA (List.replicate 256 0) (-1) 0 false 0).toArray:=⟨_,rfl⟩;rw[←j]at u;have v:=aI j;have h:=aI i;have D:=i.len;clear j i
 go_enter Tryz.func13,Tryz.ntmps13
 go_wp2_with fail
 go_loopw [7] (fun t wr=>∃k:Nat,k≤256∧t=.int .i64 k∧aS wr w.heap.size (oB zs k) (-1) 0 false 0∧Below w.heap.size w wr) (fun t _=>256-(intOf t).toNat)
 case atStart=>
  refine⟨0,by omega,rfl,⟨?_,Bs zs 0,Ed zs h.out.bytes 0⟩,aG _ _⟩;rw[Jj,←v.out];exact cG rfl
 case round=>
  obtain⟨k,E,rfl,hF,a⟩:=hrel
  by_cases c:k<256
  ·have x:=hF.byte k c;have ff:=aJ hF.blk k;have F:=hF.lt;generalize (oB zs k).getD k 0=G at x
   by_cases H:k<n
   ·obtain⟨b,o,y,q⟩:=pY h.out (by omega);subst y;have r:=h.out.lt _ rfl (by omega);have c1:wr.cell? ⟨b,o+k,none⟩=some (.int .u8 (zs.getD k 0)):=(a.cell (p:=⟨b,o+k,none⟩) r).trans (q k (by omega));have s:=h.out.bytes.getD k;have I:¬b=w.heap.size:=by simp at r;omega
    have d:Hid (aS ((wr.setCell ⟨w.heap.size,k,none⟩ (.int .u8 255)).setCell ⟨w.heap.size,k,none⟩ (.int .u8 (zs.getD k 0))) w.heap.size (oB zs (k+1)) (-1) 0 false 0∧Below w.heap.size w ((wr.setCell ⟨w.heap.size,k,none⟩ (.int .u8 255)).setCell ⟨w.heap.size,k,none⟩ (.int .u8 (zs.getD k 0)))):=by
     have f:=(hF.put k 255 c (by omega)).put k (zs.getD k 0) c s;rw[List.set_set,Bb zs k _ c (by rw[if_pos (by omega)])]at f;exact⟨f,Below.thenSet (Below.thenSet a (Nat.le_refl _) _ _) (Nat.le_refl _) _ _⟩
    clear hF a q;generalize zs.getD k 0=z at c1 s d;go_wp2_with fail
    go_region
    all_goals
     go_wp2
     go_roundw
     case rel=>exact⟨k+1,by omega,by go_num,d.out.1.keep rfl,d.out.2.trans ⟨rfl,rfl,rfl,Nat.le_refl _,fun _ _=>rfl⟩⟩
     case measure=>simp[intOf];omega
   ·have d:Hid (aS (wr.setCell ⟨w.heap.size,k,none⟩ (.int .u8 255)) w.heap.size (oB zs (k+1)) (-1) 0 false 0∧Below w.heap.size w (wr.setCell ⟨w.heap.size,k,none⟩ (.int .u8 255))):=by
     have f:=hF.put k 255 c (by omega);rw[Bb zs k _ c (by rw[if_neg (by omega)])]at f;exact⟨f,Below.thenSet a (Nat.le_refl _) _ _⟩
    clear hF a;go_wp2
    go_roundw
    case rel=>exact⟨k+1,by omega,by go_num,d.out.1,d.out.2⟩
    case measure=>simp[intOf];omega
  ·obtain rfl:k=256:=by omega
   rw[Lu]at hF;have A:=aI hF;have B:=aI a;clear hF a;go_wp2
   go_ret
   exact⟨_,rfl,Nat.le_refl _,A.out,B.out⟩
end
section
open Go.RowKit
def lN:List Int:=[72,1,1,0,0,1,1,1,1,1,4,1,1,1,0,1,8,0,1,0,0,1,0,179,39,139,174]
theorem Bq:cT lN:=by
 intro x a;simp[lN]at a;omega
theorem Dr:(bQ lN).2.2=0:=by kernel_rfl
theorem Pz(w:World)(zs:List Int)(n:Nat)(a:zs.length=n)(b:n≤9223372036854775807)(c:cT zs):gV (w.alloc (.cells (bZ zs).toArray 5)) (some ⟨w.heap.size,0,none⟩) n n zs:=by
 refine⟨a,Nat.le_refl _,b,c,fun h=>by simp at h,fun ad e d f g=>?_,fun ad e _=>?_⟩
 ·obtain rfl:⟨w.heap.size,0,none⟩=ad:=by simpa using e
  exact dA w (bZ zs).toArray 5 d f g
 ·obtain rfl:⟨w.heap.size,0,none⟩=ad:=by simpa using e
  simp
theorem Hy(w:World):Calls Tryz.prog 12 #[] w fun e w'=>∃x,e=.returned (.slice (some ⟨x,0,none⟩) 27 27)∧gV w' (some ⟨x,0,none⟩) 27 27 lN∧Below w.heap.size w w':=by
 have a:=aI (Pz w lN 27 rfl (by omega) Bq);have b:Hid (Below w.heap.size w (w.alloc (.cells (bZ lN).toArray 5))):=aG _ _
 go_enter Tryz.func12,Tryz.ntmps12
 go_wp2
 go_ret
 exact⟨w.heap.size,rfl,a.out,b.out⟩
theorem Sf(p:Nat→Value)(a:Nat)(c:Nat→Nat)(w:World)(d:c a=0)(g:w.heap[a]?=some (.cells (bU p (.slice none 0 0) (.slice none 0 0) 0 (fun _=>.slice none 0 0)) 94 (0,0))):jJ p c a 0 (fun _=>.slice none 0 0) (fun _=>[]) (fun _=>[]) w:=
 ⟨g,d,fun f _=>⟨World.ownsRow_nil _ _ _ _,fun b e=>by simp[Value.ownBlock]at e,World.ownsRow_nil _ _ _ _,fun b e=>by simp[Value.ownBlock]at e,fun k h=>by simp at h⟩⟩
def p0(a b:Nat)(v:Value):Nat→Value:=fun| 1=>.pointer (some ⟨a,0,none⟩)| 3=>.pointer (some ⟨b,0,none⟩)| 4=>v| _=>.pointer none
theorem Sm(a b:Nat)(c:Option Addr)(n cap:Nat)(W:World):(Instr.build 94 #[(1,.pointer (some ⟨a,0,none⟩)),(3,.pointer (some ⟨b,0,none⟩)),(4,.slice c n cap)]).run Tryz.prog W=.ok (.agg (bU (p0 a b (.slice c n cap)) (.slice none 0 0) (.slice none 0 0) 0 (fun _=>.slice none 0 0))) W:=by kernel_rfl
end
section
open Go.RowKit
attribute [-go_sem] Instr.build
end
theorem xY(cf:Cf)(bs:List Int)(h:eA (cJ cf bs)):dY (cJ cf bs):=by
 have d:∀i,i<(cJ cf bs).parts.length→(cJ cf bs).part i=jY (bT bs) i (cf.parts.getD i default):=fun i a=>by
  have j:(cJ cf bs).parts.length=cf.parts.length:=h.len;exact uP (bT bs) cf.parts cf.parts.length i (Nat.le_refl _) (by omega)
 refine⟨⟨Int.le_refl _,by show(0:Int)≤_;decide⟩,fun i a=>?_,fun i n a b=>?_,fun c f=>?_⟩
 ·rw[d i a];exact⟨Int.le_refl _,Int.le_refl _⟩
 ·have e:(cJ cf bs).proc i n=dC:=by
   unfold aQ.proc;rw[d i a]at b ⊢;simp only[jY,List.length_replicate]at b;show(List.replicate (cf.parts.getD i default).procs.length dC).getD n default=dC
   generalize (cf.parts.getD i default).procs.length=k at *;simp[List.getD_eq_getElem?_getD,b]
  rw[e];exact qS.nought _ _ (h.codeLen i n a b).1 (Int.le_refl _)
 ·have g:c<cf.chans.length:=f;have e:(cJ cf bs).queues.getD c []=[]:=by
   show(List.replicate cf.chans.length []).getD c []=[]
   simp[List.getD_eq_getElem?_getD,g]
  rw[e];have:=h.good.chans ((cJ cf bs).cf.chans.getD c default) (dB f);show(0:Int)≤_
  omega
theorem Tb(base c d a kx i j:Nat)(l:bN)(n:Value)(cf:Cf)(F:Fl)(g w:World)
 (r:w.heap[a]?=some (.cells (bU (pset (p0 c d n) kx i) (.slice none 0 0) (.slice none 0 0) 0 (fun _=>.slice none 0 0)) 94 (0,0))) (f:eP w kx l c (cJ cf F.bs)) (M:g.heap.size≤j) (s:∀b,mH kx l (cJ cf F.bs) b→g.heap.size≤b∧b<j) (u:lZ j i d (cJ cf F.bs) w) (N:a<g.heap.size) (v:fO w c F) (x:fO w d F) (o:gU F) (y:c≠a) (z:d≠a) (A:c≠d) (O:c<g.heap.size) (P:d<g.heap.size) (R:base≤a) (B:base≤c) (C:base≤d):
 ∃m Q,We base (pset (p0 c d n) kx i) (fun k=>if k=a then 0 else 100) a 0 (fun _=>.slice none 0 0) (fun _=>[]) kx c d l m Q (cJ cf F.bs) F w:=by
 obtain⟨m,Q,D,E,G,p⟩:=u.lay f.ok (fun q H=>by
  have I:q<cf.chans.length:=by simpa[cJ]using H
  show(List.replicate cf.chans.length []).getD q []=[]
  simp[List.getD_eq_getElem?_getD,I])
 refine⟨m,Q,Sf _ a _ w (by simp) r,rfl,rfl,by rw[D];rfl,rfl,⟨f.box,f.mach,f.lay,f.ok,v,o⟩,fun b h=>?_,⟨E,G,f.ok,x,o⟩,fun b h=>?_,?_,?_,A,fun b h=>?_,xY cf F.bs f.ok⟩
 ·have J:=s b h;refine⟨by simp[show b≠a by omega],by omega,by omega,fun L=>?_⟩;have:=p b L;omega
 ·have J:=p b h;exact⟨by simp[show b≠a by omega],by omega,by omega⟩
 ·exact⟨by simp[y],B⟩
 ·exact⟨by simp[z],C⟩
 ·simp[show b≠a by omega]
structure qF(w:World)(so:Option Addr)(sn:Nat):Prop where
 len:sn≤1048576
 cell:∀i,i<sn→∃b o kd a c d,so=some ⟨b,o,none⟩∧b<w.heap.size∧w.cell? ⟨b,o+i*4,none⟩=some (.int .i64 kd)∧w.cell? ⟨b,o+i*4+1,none⟩=some (.int .i64 a)∧w.cell? ⟨b,o+i*4+2,none⟩=some (.int .i64 c)∧w.cell? ⟨b,o+i*4+3,none⟩=some (.int .i64 d)∧(-9223372036854775808≤a∧a≤9223372036854775807)
theorem qF.keep{w w':World}{d:Option Addr}{f:Nat}(h:qF w d f)(g:aH (fun b=>w.heap.size≤b) w w'):qF w' d f:=by
 refine⟨h.len,fun i k=>?_⟩;obtain⟨b,o,l,a,c,m,n,j,p,q,r,s,u⟩:=h.cell i k;have e:∀x,w'.cell? ⟨b,x,none⟩=w.cell? ⟨b,x,none⟩:=fun x=>World.cell?_of_block (g.block b j (by omega))
 exact⟨b,o,l,a,c,m,n,Nat.lt_of_lt_of_le j g.size,(e _).trans p,(e _).trans q,(e _).trans r,(e _).trans s,u⟩
end Go.Proofs.YtnjlbgolnbdkaaaGreat
