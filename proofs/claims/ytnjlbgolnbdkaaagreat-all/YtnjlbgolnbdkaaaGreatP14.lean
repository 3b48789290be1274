/- All, with short names -/
import Derived.Test.YtnjlbgolnbdkaaaGreatP13
set_option maxRecDepth 100000
set_option maxHeartbeats 16000000
namespace Go.Proofs.YtnjlbgolnbdkaaaGreat
open Go Go.RowKit
section
open Go.RowKit Go.Shelf
attribute [local go_sem] Oper.semAt_some
theorem zL(F:Fence)(n:Nat)(hF:F.fn 184)(p:F.round=none)(C:1≤n)(a:Nat)(D:a≤1000)(l B x:Nat)(d g:List (Fin a)→World→Prop)
 (q:∀b (i:Fin a) W,d b W→b.length<a→YieldAt F (n-1) Tryz.prog l #[.int .i64 (i.1:Int),.pointer (some ⟨x,i.1*14,none⟩)] W fun e c=>
  (e=.returned (.bool true)∧d (b++[i]) c∧c.heap[B]?=W.heap[B]?)∨(e=.returned (.bool false)∧g (b++[i]) c))
 (W:World) (h:W.heap[B]?=some (.cells #[.slice (some ⟨x,0,none⟩) a a] 111 (0,0))) (r:d [] W):
 CallsIn F n Tryz.prog 184 #[.func (.yield l) #[] #[],.pointer (some ⟨B,0,none⟩)] W fun e c=>(∃v,e=.returned v)∧
  ((∃j,j=upto a a∧d j c)∨(∃b,(∃k,k≤a∧b=upto a k)∧g b c)):=by
 have E:W.cell? ⟨B,0,none⟩=some (.slice (some ⟨x,0,none⟩) a a):=aD h;refine callsIn_of_wp Tryz.func184 rfl hF ?_ p;simp only[Tryz.ntmps184,List.size_toArray,List.length_cons,List.length_nil,Nat.reduceAdd,Nat.reduceSub,Array.replicate_succ,Array.replicate_zero,List.push_toArray,List.append_toArray,List.nil_append,List.cons_append]
 gi_wp2
 gi_loopw [7] (fun i wr=>∃k:Nat,k≤a∧i=.int .i64 k∧d (upto a k) wr∧wr.heap[B]?=some (.cells #[.slice (some ⟨x,0,none⟩) a a] 111 (0,0))) (fun i _=>a-(intOf i).toNat)
 case atStart=>exact⟨0,by omega,rfl,r,h⟩
 case round=>
  obtain⟨k,G,rfl,m,o⟩:=hrel
  by_cases f:k<a
  ·obtain⟨fn,tmps,H,body,s,u⟩:=q _ ⟨k,f⟩ wr m (by rw[jX a k (by omega)];exact f)
   dsimp only at s
   have c1:wr.cell? ⟨B,0,none⟩=some (.slice (some ⟨x,0,none⟩) a a):=aD o
   gi_wp2
   refine u.mono ?_;rintro e I (⟨rfl,y,z⟩| ⟨rfl,A⟩)
   ·gi_wp2
    go_roundw
    case rel=>exact⟨k+1,by omega,by go_num,by rw[eW a k f];exact y,z.trans o⟩
    case measure=>simp[intOf];omega
   ·gi_wp2
    refine bodyPost_ret (results_none rfl _ _ _) rfl ?_;exact⟨⟨_,rfl⟩,.inr ⟨_,⟨k+1,by omega,(eW a k f).symm⟩,A⟩⟩
  ·obtain rfl:k=a:=by omega
   gi_wp2
   go_end0
   exact⟨⟨_,rfl⟩,.inl ⟨_,rfl,m⟩⟩
theorem nR(F:Fence)(n:Nat)(hF:F.fn 184)(b:F.round=none)(c:1≤n)(a:Nat)(d:a≤1000)(B x:Nat)(w:World)(f:B<w.heap.size)(g:w.heap[B]?=some (.cells #[.slice (some ⟨x,0,none⟩) a a] 111 (0,0))):
 SeqStopsK F n Tryz.prog 184 #[.pointer (some ⟨B,0,none⟩)] (fun i:Fin a=>#[.int .i64 (i.1:Int),.pointer (some ⟨x,i.1*14,none⟩)]) (fun W h=>h.heap[B]?=W.heap[B]?) (fun j=>j=upto a a) (fun m=>∃k,k≤a∧m=upto a k) a w:=
 fun l o p W q _ _ r s=>zL F n hF b c a d l B x o p r W ((q.block B f).trans g) s
theorem qR(x a:Nat)(w:World):Calls Tryz.prog 145 #[.agg #[.slice (some ⟨x,0,none⟩) a a]] w fun e w'=>e=.returned (.func (.func 184) #[] #[.pointer (some ⟨w.heap.size,0,none⟩)])∧w'=w.alloc (.cells #[.slice (some ⟨x,0,none⟩) a a] 111):=by
 go_enter Tryz.func145,Tryz.ntmps145
 go_wp2
 go_ret
 exact⟨rfl,rfl⟩
theorem zT(F:Fence)(n:Nat)(hF:F.fn 185)(p:F.round=none)(C:1≤n)(a:Nat)(D:a≤1000)(l B x:Nat)(d g:List (Fin a)→World→Prop)
 (q:∀b (i:Fin a) W,d b W→b.length<a→YieldAt F (n-1) Tryz.prog l #[.int .i64 (i.1:Int),.pointer (some ⟨x,i.1*6,none⟩)] W fun e c=>
  (e=.returned (.bool true)∧d (b++[i]) c∧c.heap[B]?=W.heap[B]?)∨(e=.returned (.bool false)∧g (b++[i]) c))
 (W:World) (h:W.heap[B]?=some (.cells #[.slice (some ⟨x,0,none⟩) a a] 118 (0,0))) (r:d [] W):
 CallsIn F n Tryz.prog 185 #[.func (.yield l) #[] #[],.pointer (some ⟨B,0,none⟩)] W fun e c=>(∃v,e=.returned v)∧
  ((∃j,j=upto a a∧d j c)∨(∃b,(∃k,k≤a∧b=upto a k)∧g b c)):=by
 have E:W.cell? ⟨B,0,none⟩=some (.slice (some ⟨x,0,none⟩) a a):=aD h;refine callsIn_of_wp Tryz.func185 rfl hF ?_ p;simp only[Tryz.ntmps185,List.size_toArray,List.length_cons,List.length_nil,Nat.reduceAdd,Nat.reduceSub,Array.replicate_succ,Array.replicate_zero,List.push_toArray,List.append_toArray,List.nil_append,List.cons_append]
 gi_wp2
 gi_loopw [7] (fun i wr=>∃k:Nat,k≤a∧i=.int .i64 k∧d (upto a k) wr∧wr.heap[B]?=some (.cells #[.slice (some ⟨x,0,none⟩) a a] 118 (0,0))) (fun i _=>a-(intOf i).toNat)
 case atStart=>exact⟨0,by omega,rfl,r,h⟩
 case round=>
  obtain⟨k,G,rfl,m,o⟩:=hrel
  by_cases f:k<a
  ·obtain⟨fn,tmps,H,body,s,u⟩:=q _ ⟨k,f⟩ wr m (by rw[jX a k (by omega)];exact f)
   dsimp only at s
   have c1:wr.cell? ⟨B,0,none⟩=some (.slice (some ⟨x,0,none⟩) a a):=aD o
   gi_wp2
   refine u.mono ?_;rintro e I (⟨rfl,y,z⟩| ⟨rfl,A⟩)
   ·gi_wp2
    go_roundw
    case rel=>exact⟨k+1,by omega,by go_num,by rw[eW a k f];exact y,z.trans o⟩
    case measure=>simp[intOf];omega
   ·gi_wp2
    refine bodyPost_ret (results_none rfl _ _ _) rfl ?_;exact⟨⟨_,rfl⟩,.inr ⟨_,⟨k+1,by omega,(eW a k f).symm⟩,A⟩⟩
  ·obtain rfl:k=a:=by omega
   gi_wp2
   go_end0
   exact⟨⟨_,rfl⟩,.inl ⟨_,rfl,m⟩⟩
theorem rO(F:Fence)(n:Nat)(hF:F.fn 185)(b:F.round=none)(c:1≤n)(a:Nat)(d:a≤1000)(B x:Nat)(w:World)(f:B<w.heap.size)(g:w.heap[B]?=some (.cells #[.slice (some ⟨x,0,none⟩) a a] 118 (0,0))):
 SeqStopsK F n Tryz.prog 185 #[.pointer (some ⟨B,0,none⟩)] (fun i:Fin a=>#[.int .i64 (i.1:Int),.pointer (some ⟨x,i.1*6,none⟩)]) (fun W h=>h.heap[B]?=W.heap[B]?) (fun j=>j=upto a a) (fun m=>∃k,k≤a∧m=upto a k) a w:=
 fun l o p W q _ _ r s=>zT F n hF b c a d l B x o p r W ((q.block B f).trans g) s
theorem uT(x a:Nat)(w:World):Calls Tryz.prog 146 #[.agg #[.slice (some ⟨x,0,none⟩) a a]] w fun e w'=>e=.returned (.func (.func 185) #[] #[.pointer (some ⟨w.heap.size,0,none⟩)])∧w'=w.alloc (.cells #[.slice (some ⟨x,0,none⟩) a a] 118):=by
 go_enter Tryz.func146,Tryz.ntmps146
 go_wp2
 go_ret
 exact⟨rfl,rfl⟩
theorem Cj(F:Fence)(n:Nat)(hF:F.fn 186)(p:F.round=none)(C:1≤n)(a:Nat)(D:a≤1000)(l B x:Nat)(d g:List (Fin a)→World→Prop)
 (q:∀b (i:Fin a) W,d b W→b.length<a→YieldAt F (n-1) Tryz.prog l #[.int .i64 (i.1:Int),.pointer (some ⟨x,i.1*3,none⟩)] W fun e c=>
  (e=.returned (.bool true)∧d (b++[i]) c∧c.heap[B]?=W.heap[B]?)∨(e=.returned (.bool false)∧g (b++[i]) c))
 (W:World) (h:W.heap[B]?=some (.cells #[.slice (some ⟨x,0,none⟩) a a] 128 (0,0))) (r:d [] W):
 CallsIn F n Tryz.prog 186 #[.func (.yield l) #[] #[],.pointer (some ⟨B,0,none⟩)] W fun e c=>(∃v,e=.returned v)∧
  ((∃j,j=upto a a∧d j c)∨(∃b,(∃k,k≤a∧b=upto a k)∧g b c)):=by
 have E:W.cell? ⟨B,0,none⟩=some (.slice (some ⟨x,0,none⟩) a a):=aD h;refine callsIn_of_wp Tryz.func186 rfl hF ?_ p;simp only[Tryz.ntmps186,List.size_toArray,List.length_cons,List.length_nil,Nat.reduceAdd,Nat.reduceSub,Array.replicate_succ,Array.replicate_zero,List.push_toArray,List.append_toArray,List.nil_append,List.cons_append]
 gi_wp2
 gi_loopw [7] (fun i wr=>∃k:Nat,k≤a∧i=.int .i64 k∧d (upto a k) wr∧wr.heap[B]?=some (.cells #[.slice (some ⟨x,0,none⟩) a a] 128 (0,0))) (fun i _=>a-(intOf i).toNat)
 case atStart=>exact⟨0,by omega,rfl,r,h⟩
 case round=>
  obtain⟨k,G,rfl,m,o⟩:=hrel
  by_cases f:k<a
  ·obtain⟨fn,tmps,H,body,s,u⟩:=q _ ⟨k,f⟩ wr m (by rw[jX a k (by omega)];exact f)
   dsimp only at s
   have c1:wr.cell? ⟨B,0,none⟩=some (.slice (some ⟨x,0,none⟩) a a):=aD o
   gi_wp2
   refine u.mono ?_;rintro e I (⟨rfl,y,z⟩| ⟨rfl,A⟩)
   ·gi_wp2
    go_roundw
    case rel=>exact⟨k+1,by omega,by go_num,by rw[eW a k f];exact y,z.trans o⟩
    case measure=>simp[intOf];omega
   ·gi_wp2
    refine bodyPost_ret (results_none rfl _ _ _) rfl ?_;exact⟨⟨_,rfl⟩,.inr ⟨_,⟨k+1,by omega,(eW a k f).symm⟩,A⟩⟩
  ·obtain rfl:k=a:=by omega
   gi_wp2
   go_end0
   exact⟨⟨_,rfl⟩,.inl ⟨_,rfl,m⟩⟩
theorem Db(F:Fence)(n:Nat)(hF:F.fn 186)(b:F.round=none)(c:1≤n)(a:Nat)(d:a≤1000)(B x:Nat)(w:World)(f:B<w.heap.size)(g:w.heap[B]?=some (.cells #[.slice (some ⟨x,0,none⟩) a a] 128 (0,0))):
 SeqStopsK F n Tryz.prog 186 #[.pointer (some ⟨B,0,none⟩)] (fun i:Fin a=>#[.int .i64 (i.1:Int),.pointer (some ⟨x,i.1*3,none⟩)]) (fun W h=>h.heap[B]?=W.heap[B]?) (fun j=>j=upto a a) (fun m=>∃k,k≤a∧m=upto a k) a w:=
 fun l o p W q _ _ r s=>Cj F n hF b c a d l B x o p r W ((q.block B f).trans g) s
theorem Iu(x a:Nat)(w:World):Calls Tryz.prog 148 #[.agg #[.slice (some ⟨x,0,none⟩) a a]] w fun e w'=>e=.returned (.func (.func 186) #[] #[.pointer (some ⟨w.heap.size,0,none⟩)])∧w'=w.alloc (.cells #[.slice (some ⟨x,0,none⟩) a a] 128):=by
 go_enter Tryz.func148,Tryz.ntmps148
 go_wp2
 go_ret
 exact⟨rfl,rfl⟩
theorem Df(F:Fence)(n:Nat)(hF:F.fn 208)(p:F.round=none)(C:1≤n)(a:Nat)(D:a≤1000)(l B x:Nat)(d g:List (Fin a)→World→Prop)
 (q:∀b (i:Fin a) W,d b W→b.length<a→YieldAt F (n-1) Tryz.prog l #[.int .i64 (i.1:Int),.pointer (some ⟨x,i.1,none⟩)] W fun e c=>
  (e=.returned (.bool true)∧d (b++[i]) c∧c.heap[B]?=W.heap[B]?)∨(e=.returned (.bool false)∧g (b++[i]) c))
 (W:World) (h:W.heap[B]?=some (.cells #[.slice (some ⟨x,0,none⟩) a a] 115 (0,0))) (r:d [] W):
 CallsIn F n Tryz.prog 208 #[.func (.yield l) #[] #[],.pointer (some ⟨B,0,none⟩)] W fun e c=>(∃v,e=.returned v)∧
  ((∃j,j=upto a a∧d j c)∨(∃b,(∃k,k≤a∧b=upto a k)∧g b c)):=by
 have E:W.cell? ⟨B,0,none⟩=some (.slice (some ⟨x,0,none⟩) a a):=aD h;refine callsIn_of_wp Tryz.func208 rfl hF ?_ p;simp only[Tryz.ntmps208,List.size_toArray,List.length_cons,List.length_nil,Nat.reduceAdd,Nat.reduceSub,Array.replicate_succ,Array.replicate_zero,List.push_toArray,List.append_toArray,List.nil_append,List.cons_append]
 gi_wp2
 gi_loopw [7] (fun i wr=>∃k:Nat,k≤a∧i=.int .i64 k∧d (upto a k) wr∧wr.heap[B]?=some (.cells #[.slice (some ⟨x,0,none⟩) a a] 115 (0,0))) (fun i _=>a-(intOf i).toNat)
 case atStart=>exact⟨0,by omega,rfl,r,h⟩
 case round=>
  obtain⟨k,G,rfl,m,o⟩:=hrel
  by_cases f:k<a
  ·obtain⟨fn,tmps,H,body,s,u⟩:=q _ ⟨k,f⟩ wr m (by rw[jX a k (by omega)];exact f)
   dsimp only at s
   have c1:wr.cell? ⟨B,0,none⟩=some (.slice (some ⟨x,0,none⟩) a a):=aD o
   gi_wp2
   refine u.mono ?_;rintro e I (⟨rfl,y,z⟩| ⟨rfl,A⟩)
   ·gi_wp2
    go_roundw
    case rel=>exact⟨k+1,by omega,by go_num,by rw[eW a k f];exact y,z.trans o⟩
    case measure=>simp[intOf];omega
   ·gi_wp2
    refine bodyPost_ret (results_none rfl _ _ _) rfl ?_;exact⟨⟨_,rfl⟩,.inr ⟨_,⟨k+1,by omega,(eW a k f).symm⟩,A⟩⟩
  ·obtain rfl:k=a:=by omega
   gi_wp2
   go_end0
   exact⟨⟨_,rfl⟩,.inl ⟨_,rfl,m⟩⟩
theorem Bp(F:Fence)(n:Nat)(hF:F.fn 208)(b:F.round=none)(c:1≤n)(a:Nat)(d:a≤1000)(B x:Nat)(w:World)(f:B<w.heap.size)(g:w.heap[B]?=some (.cells #[.slice (some ⟨x,0,none⟩) a a] 115 (0,0))):
 SeqStopsK F n Tryz.prog 208 #[.pointer (some ⟨B,0,none⟩)] (fun i:Fin a=>#[.int .i64 (i.1:Int),.pointer (some ⟨x,i.1,none⟩)]) (fun W h=>h.heap[B]?=W.heap[B]?) (fun j=>j=upto a a) (fun m=>∃k,k≤a∧m=upto a k) a w:=
 fun l o p W q _ _ r s=>Df F n hF b c a d l B x o p r W ((q.block B f).trans g) s
theorem Kd(x a:Nat)(w:World):Calls Tryz.prog 187 #[.agg #[.slice (some ⟨x,0,none⟩) a a]] w fun e w'=>e=.returned (.func (.func 208) #[] #[.pointer (some ⟨w.heap.size,0,none⟩)])∧w'=w.alloc (.cells #[.slice (some ⟨x,0,none⟩) a a] 115):=by
 go_enter Tryz.func187,Tryz.ntmps187
 go_wp2
 go_ret
 exact⟨rfl,rfl⟩
end
theorem qM(b o:Nat)(a:Int)(w:World)(c:w.cell? ⟨b,o+9,none⟩=some (.int .i64 a)):
 Calls Tryz.prog 77 #[.pointer (some ⟨b,o,none⟩)] w fun e w'=>e=.returned (.bool (a != 3))∧w'=w:=by
 go_enter Tryz.func77,Tryz.ntmps77
 go_wp2
 go_ret
 exact⟨rfl,rfl⟩
theorem Pd(b o:Nat)(s:Bool)(a now:Int)(w:World)(d:w.cell? ⟨b,o+3,none⟩=some (.bool s))(f:w.cell? ⟨b,o+5,none⟩=some (.int .i64 a)):
 Calls Tryz.prog 147 #[.pointer (some ⟨b,o,none⟩),.int .i64 now] w fun e w'=>e=.returned (.bool (!s&&(a != 0&&decide (a≤now))))∧w'=w:=by
 cases s with
 | true=>
  go_enter Tryz.func147,Tryz.ntmps147
  go_wp2
  go_ret
  exact⟨by simp,rfl⟩
 | false=>
  by_cases c:a=0
  ·subst c
   go_enter Tryz.func147,Tryz.ntmps147
   go_wp2
   go_ret
   exact⟨by simp,rfl⟩
  ·have g:(a != 0)=true:=by simp[c]
   go_enter Tryz.func147,Tryz.ntmps147
   go_wp2
   go_ret
   exact⟨by simp[c],rfl⟩
theorem Oo(b o:Nat)(s:Bool)(t now:Int)(w:World)(a:w.cell? ⟨b,o+3,none⟩=some (.bool s))(c:w.cell? ⟨b,o+4,none⟩=some (.int .i64 t)):
 Calls Tryz.prog 188 #[.pointer (some ⟨b,o,none⟩),.int .i64 now] w fun e w'=>e=.returned (.bool (!s&&decide (t≤now)))∧w'=w:=by
 cases s with
 | true=>
  go_enter Tryz.func188,Tryz.ntmps188
  go_wp2
  go_ret
  exact⟨by simp,rfl⟩
 | false=>
  go_enter Tryz.func188,Tryz.ntmps188
  go_wp2
  go_ret
  exact⟨by simp,rfl⟩
theorem aU.procAt{w:World}{a:bN}{g:Nat}{st:aQ}(h:aU w a g st)(i n k:Nat)(b:i<st.parts.length)(c:n<(st.part i).procs.length)(d:k<6):w.cell? ⟨a.pr i,n*6+k,none⟩=(aY (a.code i n) (st.proc i n))[k]?:=by
 rw[cell_of_row _ _ _ _ _ _ (h.procs i b),List.getElem?_toArray];exact jI _ 6 _ (fun _ _=>rfl) n k c d
theorem aU.partAt{w:World}{a:bN}{g:Nat}{st:aQ}(h:aU w a g st)(i k:Nat)(b:i<st.parts.length)(c:k<14):w.cell? ⟨a.pb,i*14+k,none⟩=(lF a i (st.cpart i) (st.part i))[k]?:=by
 rw[cell_of_row _ _ _ _ _ _ h.parts,List.getElem?_toArray];exact jI _ 14 _ (fun _ _=>rfl) i k b c
theorem aU.machAt{w:World}{a:bN}{g:Nat}{st:aQ}(h:aU w a g st)(k:Nat):w.cell? ⟨a.mb,k,none⟩=#[Value.pointer (some ⟨g,0,none⟩),.int .i64 st.cf.frame,.int .i64 st.cf.watch,.slice (some ⟨a.pb,0,none⟩) st.parts.length st.parts.length,.slice (some ⟨a.wb,0,none⟩) st.cf.wins.length st.cf.wins.length,.slice (some ⟨a.cb,0,none⟩) st.cf.chans.length st.cf.chans.length,.int .i64 st.now,.bool st.dead][k]?:=by
 rw[cell_of_row _ _ _ _ _ _ h.mach]
theorem aU.begin{w:World}{a:bN}{g:Nat}{st:aQ}(h:aU w a g st)(l:nI a st.parts.length st.cf.chans.length)(i n:Nat)(f:i<st.parts.length)(d:n<(st.part i).procs.length):
 aU (((((w.setCell ⟨a.pr i,n*6+1,none⟩ (.int .i64 0)).setCell ⟨a.pr i,n*6+2,none⟩ (.int .i64 0)).setCell ⟨a.pr i,n*6+3,none⟩ (.bool false)).setCell ⟨a.pr i,n*6+4,none⟩ (.int .i64 0)).setCell ⟨a.pr i,n*6+5,none⟩ (.int .i64 0)) a g (st.setProc i n dC):=by
 have step:∀ {W:World} {s:aQ} {x:cQ} (k:Nat) (v:Value) (b:cQ),aU W a g s→s=st.setProc i n x→k<6→(aY (a.code i n) x).set k v=aY (a.code i n) b→aU (W.setCell ⟨a.pr i,n*6+k,none⟩ v) a g (st.setProc i n b):=by
  intro W s x k v b m o p q;subst o;have c:(st.setProc i n x).part i={ st.part i with procs:=(st.part i).procs.set n x }:=aQ.part_set f;have r:(st.setProc i n x).proc i n=x:=by
   unfold aQ.proc;rw[c];simp[List.getD_eq_getElem?_getD,d]
  have:=m.procCell (by simpa[aQ.setProc,aQ.setPart]using l) i n k v b (by simpa[aQ.setProc,aQ.setPart]using f) (by rw[c];simpa using d) p (by rw[r];exact q);have e:(st.setProc i n x).setProc i n b=st.setProc i n b:=by
   unfold aQ.setProc at c ⊢;rw[c,aQ.setPart_set];simp
  rw[e]at this;exact this
 have j:aU w a g (st.setProc i n (st.proc i n)):=by
  have:st.setProc i n (st.proc i n)=st:=by
   have e:(st.part i).procs.set n (st.proc i n)=(st.part i).procs:=by
    unfold aQ.proc;rw[List.getD_eq_getElem?_getD,List.getElem?_eq_getElem d];simp
   unfold aQ.setProc;rw[e];exact aQ.setPart_self st i
  rw[this];exact h
 generalize st.proc i n=x at j;have u:=step 1 (.int .i64 0) { x with next:=0 } j rfl (by omega) rfl;have y:=step 2 (.int .i64 0) { x with next:=0,acc:=0 } u rfl (by omega) rfl;have z:=step 3 (.bool false) { x with next:=0,acc:=0,stopped:=false } y rfl (by omega) rfl;have A:=step 4 (.int .i64 0) { x with next:=0,acc:=0,stopped:=false,til:=0 } z rfl (by omega) rfl;exact step 5 (.int .i64 0) dC A rfl (by omega) rfl
theorem Tj(b a c d f g:Nat)(h i j k l:Value)(w:World):aH (·=b) w (((((w.setCell ⟨b,a,none⟩ h).setCell ⟨b,c,none⟩ i).setCell ⟨b,d,none⟩ j).setCell ⟨b,f,none⟩ k).setCell ⟨b,g,none⟩ l):=
 ((((aH.ofSet (S:=(·=b)) w b _ _ rfl).thenSet _ _ rfl).thenSet _ _ rfl).thenSet _ _ rfl).thenSet _ _ rfl
theorem An(c:bN)(g:Nat)(st:aQ)(i n:Nat)(w:World)(h:aU w c g st)(d:nI c st.parts.length st.cf.chans.length)(a:i<st.parts.length)(b:n<(st.part i).procs.length):
 Calls Tryz.prog 159 #[.pointer (some ⟨c.pr i,n*6,none⟩)] w fun e w'=>e=.returned (.tuple #[])∧aU w' c g (st.setProc i n dC)∧aH (·=c.pr i) w w':=by
 have j:=aI (h.begin d i n a b);have c1:=h.procAt i n 1 a b (by omega);have c2:=h.procAt i n 2 a b (by omega);have k:=h.procAt i n 3 a b (by omega);have l:=h.procAt i n 4 a b (by omega);have m:=h.procAt i n 5 a b (by omega);simp only[aY,List.getElem?_cons_succ,List.getElem?_cons_zero]at c1 c2 k l m;have f:=aJ (h.procs i a);have o:=f (n*6+1);have p:=f (n*6+2);have q:=f (n*6+3);have f4:=f (n*6+4);have r:=f (n*6+5);clear f h;generalize (st.proc i n)=x at *
 go_enter Tryz.func159,Tryz.ntmps159
 go_wp2
 go_end0
 exact⟨rfl,j.out,Tj _ _ _ _ _ _ _ _ _ _ _ _⟩
theorem zR(st:aQ)(i n:Nat)(x a:cQ)(c:i<st.parts.length):(st.setProc i n x).setProc i n a=st.setProc i n a:=by
 have b:(st.setProc i n x).part i={ st.part i with procs:=(st.part i).procs.set n x }:=aQ.part_set c;unfold aQ.setProc at b ⊢;rw[b,aQ.setPart_set];simp
theorem Cw(st:aQ)(i n:Nat)(x:cQ)(a:i<st.parts.length)(b:n<(st.part i).procs.length):(st.setProc i n x).proc i n=x:=by
 have c:(st.setProc i n x).part i={ st.part i with procs:=(st.part i).procs.set n x }:=aQ.part_set a;unfold aQ.proc;rw[c];simp[List.getD_eq_getElem?_getD,b]
theorem aU.procCell2{w:World}{a:bN}{g:Nat}{st:aQ}{i n:Nat}{x:cQ}(h:aU w a g (st.setProc i n x))(f:nI a st.parts.length st.cf.chans.length)(k:Nat)(v:Value)(b:cQ)(c:i<st.parts.length)(d:n<(st.part i).procs.length)(j:k<6)
 (l:(aY (a.code i n) x).set k v=aY (a.code i n) b):aU (w.setCell ⟨a.pr i,n*6+k,none⟩ v) a g (st.setProc i n b):=by
 have m:(st.setProc i n x).part i={ st.part i with procs:=(st.part i).procs.set n x }:=aQ.part_set c;have:=h.procCell (by simpa[aQ.setProc,aQ.setPart]using f) i n k v b (by simpa[aQ.setProc,aQ.setPart]using c) (by rw[m];simpa using d) j (by rw[Cw st i n x c d];exact l);rw[zR st i n x b c]at this;exact this
theorem yJ(b:bN)(g:Nat)(st:aQ)(i n:Nat)(d:Int)(w:World)(h:aU w b g st)(l:nI b st.parts.length st.cf.chans.length)(a:i<st.parts.length)(j:n<(st.part i).procs.length):
 Calls Tryz.prog 212 #[.pointer (some ⟨b.pr i,n*6,none⟩),.int .i64 d] w fun e w'=>e=.returned (.tuple #[])∧aU w' b g (st.setProc i n (st.follow i n d))∧aH (·=b.pr i) w w':=by
 obtain⟨ad,c,m⟩:=bL (h.code i n a j);have o:=h.procCell l i n 1 (.int .i64 d) { st.proc i n with next:=d } a j (by omega) rfl;have q:=aI (o.procCell2 l 3 (.bool (decide (((st.codeOf i n).length:Int)≤d))) (st.follow i n d) a j (by omega) rfl);have k:=h.procAt i n 0 a j (by omega);have c1:=h.procAt i n 1 a j (by omega);have r:=h.procAt i n 3 a j (by omega);simp only[aY,List.getElem?_cons_succ,List.getElem?_cons_zero]at k c1 r;rw[m]at k;have p:((st.cf.parts.getD i default).procs.getD n default).code.length=(st.codeOf i n).length:=rfl;rw[p]at k;rw[show n*6+0=n*6 from rfl]at k;have f:=aJ (h.procs i a);have s:=f (n*6+1);have u:=f (n*6+3);clear f h o m p;generalize (st.codeOf i n).length=len at *;generalize (st.proc i n)=x at *
 go_enter Tryz.func212,Tryz.ntmps212
 go_wp2
 go_end0
 exact⟨rfl,q.out,(aH.ofSet (S:=(·=b.pr i)) w _ _ _ rfl).thenSet _ _ rfl⟩
theorem Jo(bs:List Int)(left res:Int)(dead:Bool)(done:Int)(k:Nat)(z:Int)(a:k<bs.length):(iA bs left res dead done).toArray.setIfInBounds k (.int .u8 z)=(iA (bs.set k z) left res dead done).toArray:=by
 apply Array.ext'
 rw[Array.toList_setIfInBounds];show(bZ bs++_).set k _=bZ (bs.set k z)++_
 rw[List.set_append_left _ _ (by rw[bX];exact a)]
 congr 1
 unfold bZ;rw[List.map_set]
theorem aS.at{w:World}{g:Nat}{bs:List Int}{left res:Int}{dead:Bool}{done:Int}(h:aS w g bs left res dead done)(k:Nat)(z:Int)(a:k<256)(b:0≤z∧z≤255):aS (w.setCell ⟨g,k,none⟩ (.int .u8 z)) g (bs.set k z) left res dead done:=by
 refine⟨?_,by rw[List.length_set];exact h.len,h.bytes.set k z b⟩;rw[aK h.blk k _,Jo _ _ _ _ _ _ _ (by rw[h.len];exact a)]
theorem oY(bs:List Int)(l:List Value)(k:Nat)(v:Value)(a:bs.length=256):(bZ bs++l).toArray.setIfInBounds (256+k) v=(bZ bs++l.set k v).toArray:=by
 apply Array.ext'
 rw[Array.toList_setIfInBounds];show(bZ bs++l).set (256+k) v=bZ bs++l.set k v
 rw[List.set_append_right _ _ (by rw[bX,a];omega),bX,a,show 256+k-256=k from by omega]
theorem aS.setLeft{w:World}{g:Nat}{bs:List Int}{left res:Int}{dead:Bool}{done:Int}(h:aS w g bs left res dead done)(x:Int):aS (w.setCell ⟨g,256,none⟩ (.int .i64 x)) g bs x res dead done:=
 ⟨by rw[aK h.blk 256 _];exact congrArg (fun c=>some (Obj.cells c 80 (0,0))) (oY bs _ 0 _ h.len),h.len,h.bytes⟩
theorem aS.setRes{w:World}{g:Nat}{bs:List Int}{left res:Int}{dead:Bool}{done:Int}(h:aS w g bs left res dead done)(x:Int):aS (w.setCell ⟨g,257,none⟩ (.int .u8 x)) g bs left x dead done:=
 ⟨by rw[aK h.blk 257 _];exact congrArg (fun c=>some (Obj.cells c 80 (0,0))) (oY bs _ 1 _ h.len),h.len,h.bytes⟩
theorem aS.setDead{w:World}{g:Nat}{bs:List Int}{left res:Int}{dead:Bool}{done:Int}(h:aS w g bs left res dead done)(x:Bool):aS (w.setCell ⟨g,258,none⟩ (.bool x)) g bs left res x done:=
 ⟨by rw[aK h.blk 258 _];exact congrArg (fun c=>some (Obj.cells c 80 (0,0))) (oY bs _ 2 _ h.len),h.len,h.bytes⟩
theorem aS.setDone{w:World}{g:Nat}{bs:List Int}{left res:Int}{dead:Bool}{done:Int}(h:aS w g bs left res dead done)(x:Int):aS (w.setCell ⟨g,259,none⟩ (.int .i64 x)) g bs left res dead x:=
 ⟨by rw[aK h.blk 259 _];exact congrArg (fun c=>some (Obj.cells c 80 (0,0))) (oY bs _ 3 _ h.len),h.len,h.bytes⟩
theorem Ag(g:Nat)(F:Fl)(w:World)(h:fO w g F)(d:F.left≤1000000):
 Calls Tryz.prog 194 #[.pointer (some ⟨g,0,none⟩)] w fun e w'=>e=.returned (.tuple #[])∧fO w' g F.tally∧aH (·=g) w w':=by
 obtain⟨bs,left,res,dead,done⟩:=F;simp only at h d;have j:=h.last.1;have k:=h.last.2.2.2;have l:=aJ h.blk 256;have m:=aJ h.blk 259
 by_cases c:0<left
 ·have a:Hid (aS ((w.setCell ⟨g,259,none⟩ (.int .i64 (IntKind.i64.wrap (done+1)))).setCell ⟨g,256,none⟩ (.int .i64 (left-1))) g bs (left-1) res dead (IntKind.i64.wrap (done+1))∧aH (·=g) w ((w.setCell ⟨g,259,none⟩ (.int .i64 (IntKind.i64.wrap (done+1)))).setCell ⟨g,256,none⟩ (.int .i64 (left-1)))):=⟨(h.setDone _).setLeft _,(aH.ofSet (S:=(·=g)) w g _ _ rfl).thenSet _ _ rfl⟩;have b:Hid ((⟨bs,left,res,dead,done⟩:Fl).tally=⟨bs,left-1,res,dead,IntKind.i64.wrap (done+1)⟩):=by show _=_;simp[Fl.tally,c]
  clear h;generalize f:IntKind.i64.wrap (done+1)=i at a b
  go_enter Tryz.func194,Tryz.ntmps194
  go_wp2
  rw[b.out]
  go_end0
  exact⟨rfl,a.out.1,a.out.2⟩
 ·have a:Hid (aS (w.setCell ⟨g,259,none⟩ (.int .i64 (IntKind.i64.wrap (done+1)))) g bs left res dead (IntKind.i64.wrap (done+1))∧aH (·=g) w (w.setCell ⟨g,259,none⟩ (.int .i64 (IntKind.i64.wrap (done+1))))):=⟨h.setDone _,aH.ofSet w g _ _ rfl⟩;have b:Hid ((⟨bs,left,res,dead,done⟩:Fl).tally=⟨bs,left,res,dead,IntKind.i64.wrap (done+1)⟩):=by show _=_;simp[Fl.tally,c]
  clear h;generalize f:IntKind.i64.wrap (done+1)=i at a b
  go_enter Tryz.func194,Tryz.ntmps194
  go_wp2
  rw[b.out]
  go_end0
  exact⟨rfl,a.out.1,a.out.2⟩
theorem aH.ofDrew{S:Nat→Prop}(a:World):aH S a a.drew:=⟨rfl,rfl,rfl,Nat.le_refl _,fun _ _ _=>rfl⟩
theorem aH.drewN2{S:Nat→Prop}{a b:World}(h:aH S a b)(n:Nat):aH S a (b.drewN n):=h.andThen (aH.ofDrewN b n)
theorem nO(g:Nat)(F:Fl)(a:Nat)(v:Int)(w:World)(h:fO w g F)(k:gU F)(i:a<256):
 Calls Tryz.prog 193 #[.pointer (some ⟨g,0,none⟩),.int .i64 a,.int .u8 v] w fun e w'=>e=.returned (.bool (F.prog a v).1)∧fO w' g (F.prog a v).2∧aH (·=g) w w':=by
 obtain⟨r,b⟩:∃r,r=F.prog a v:=⟨_,rfl⟩;rw[←b];have l:=aI k.left.2;clear k;obtain⟨bs,left,res,dead,done⟩:=F;simp only at h l;have z:=h.last.1;have c1:=h.last.2.1;have c2:=h.last.2.2.1;have cb:=h.byte a i;have A:=aJ h.blk a;have B:=aJ h.blk 258;have C:decide ((a:Int)<0)=false:=by simp
 have D:decide ((256:Int)≤a)=false:=by simp;omega
 unfold Fl.prog at b;simp only at b
 by_cases c:dead=true
 ·rw[if_pos c]at b;have d:=aI b;have q:=aI h;rw[c]at c2;clear h b c
  go_enter Tryz.func193,Tryz.ntmps193
  go_wp2
  go_ret
  rw[d.out];exact⟨rfl,q.out,aH.refl _ _⟩
 ·rw[if_neg c]at b;have s:dead=false:=by simpa using c
  subst s
  by_cases f:left=0
  ·rw[if_pos f]at b;subst f;have d:=aI b;have m:Hid (aS ((w.setCell ⟨g,a,none⟩ (.int .u8 (nA (bs.getD a 0) (vN v res)))).setCell ⟨g,258,none⟩ (.bool true)) g (bs.set a (nA (bs.getD a 0) (vN v res))) 0 res true done∧aH (·=g) w ((w.setCell ⟨g,a,none⟩ (.int .u8 (nA (bs.getD a 0) (vN v res)))).setCell ⟨g,258,none⟩ (.bool true))):=⟨(h.at a _ i (rD _ _)).setDead true,(aH.ofSet (S:=(·=g)) w g _ _ rfl).thenSet _ _ rfl⟩;have j:Hid (nA (bs.getD a 0) (vN v res)=bits .and .u8 (bs.getD a 0) (bits .or .u8 v res)):=rfl;have E:¬ (258:Nat)=a:=by omega
   clear h b c;generalize bs.getD a 0=x at *
   go_enter Tryz.func193,Tryz.ntmps193
   go_wp2_with fail
   go_region
   all_goals
    go_wp2
    go_ret
    rw[d.out];rw[←j.out];exact⟨rfl,m.out.1.keep rfl,m.out.2.andThen ⟨rfl,rfl,rfl,Nat.le_refl _,fun _ _ _=>rfl⟩⟩
  ·rw[if_neg f]at b;have d:=aI b;have G:(left == 0)=false:=by simpa using f
   have n:Hid (aS (w.setCell ⟨g,a,none⟩ (.int .u8 (nA (bs.getD a 0) v))) g (bs.set a (nA (bs.getD a 0) v)) left res false done∧aH (·=g) w (w.setCell ⟨g,a,none⟩ (.int .u8 (nA (bs.getD a 0) v)))):=⟨h.at a _ i (rD _ _),aH.ofSet w g _ _ rfl⟩;have j:Hid (nA (bs.getD a 0) v=bits .and .u8 (bs.getD a 0) v):=rfl;clear h b c;generalize bs.getD a 0=x at *
   go_enter Tryz.func193,Tryz.ntmps193
   go_wp2_with fail
   go_region
   all_goals
    go_wp2_with fail
    rw[←j.out];refine(Ag g ⟨bs.set a (nA x v),left,res,false,done⟩ (w.setCell ⟨g,a,none⟩ (.int .u8 (nA x v))).drew (n.out.1.keep rfl) l.out).mono ?_;rintro e w' ⟨rfl,o,p⟩;have u:=aI o;have y:Hid (aH (·=g) w w'):=n.out.2.andThen ((aH.ofDrew _).andThen p);clear o p;go_wp2
    go_ret
    rw[d.out];exact⟨rfl,u.out,y.out⟩
theorem tV(g:Nat)(F:Fl)(s:Nat)(w:World)(h:fO w g F)(y:gU F)(S:s<2):
 Calls Tryz.prog 158 #[.pointer (some ⟨g,0,none⟩),.int .i64 s] w fun e w'=>e=.returned (.bool (F.erase s).1)∧fO w' g (F.erase s).2∧aH (·=g) w w':=by
 obtain⟨r,b⟩:∃r,r=F.erase s:=⟨_,rfl⟩;rw[←b];have z:=aI y.left.2;clear y;obtain⟨bs,left,res,dead,done⟩:=F;simp only at h z;have c2:=h.last.2.2.1;have T:decide ((s:Int)<0)=false:=by simp
 have U:decide ((1:Int)<s)=false:=by simp;omega
 unfold Fl.erase at b;simp only at b
 by_cases j:dead=true
 ·rw[if_pos j]at b;have l:=aI b;have n:=aI h;rw[j]at c2;clear h b j
  go_enter Tryz.func158,Tryz.ntmps158
  go_wp2
  go_ret
  rw[l.out];exact⟨rfl,n.out,aH.refl _ _⟩
 ·rw[if_neg j]at b;have G:dead=false:=by simpa using j
  subst G;obtain⟨f,d⟩:∃f:Int→Int,f=if left=0 then(fun x=>vN x res)else(fun _=>255):=⟨_,rfl⟩
  have A:Hid (∀x,0≤f x∧f x≤255):=fun x=>by
   rw[d];split
   ·exact Dx _ _
   ·exact⟨(by decide:(0:Int)≤255),(by decide:(255:Int)≤255)⟩
  obtain⟨a,m⟩:∃a:Nat→List Int,a=qQ f (128*s) bs:=⟨_,rfl⟩;have B:Hid (a 0=bs):=by show _=_;rw[m];rfl
  have C:Hid (∀k,a (k+1)=(a k).set (128*s+k) (f ((a k).getD (128*s+k) 0))):=fun k=>by rw[m];rfl
  have o:Hid (a 128=qQ f (128*s) bs 128):=by show _=_;rw[m]
  have n:=aI h
  by_cases p:left=0
  ·rw[if_pos p]at b d;have u:Hid (∀x,f x=bits .or .u8 x res):=fun x=>by rw[d];rfl
   rw[←d,←o.out]at b;have l:=aI b;subst p;clear h b j d m o
   go_enter Tryz.func158,Tryz.ntmps158
   go_wp2_with fail
   go_loopw [5] (fun t wr=>∃k:Nat,k≤128∧t=.int .i64 (128*s+k:Nat)∧aS wr g (a k) 0 res false done∧aH (·=g) w wr) (fun t _=>256-(intOf t).toNat)
   case atStart=>exact⟨0,by omega,by go_num,by rw[B.out];exact n.out,aH.refl _ _⟩
   case round=>
    obtain⟨k,H,rfl,hF,i⟩:=hrel;have I:=hF.last.1;have V:=hF.last.2.1
    by_cases J:k<128
    ·have cb:=hF.byte (128*s+k) (by omega);have L:=aJ hF.blk (128*s+k);have c:Hid (aS (wr.setCell ⟨g,128*s+k,none⟩ (.int .u8 (f ((a k).getD (128*s+k) 0)))) g (a (k+1)) 0 res false done∧aH (·=g) w (wr.setCell ⟨g,128*s+k,none⟩ (.int .u8 (f ((a k).getD (128*s+k) 0))))):=⟨by rw[C.out];exact hF.at _ _ (by omega) (A.out _),i.thenSet _ _ rfl⟩;rw[u.out]at c;clear hF i;generalize (a k).getD (128*s+k) 0=x at *;have v:Hid (128*s+(k+1)=128*s+k+1):=by show _=_;omega
     have M:128*s+k<256:=by omega
     have N:((128*s+k:Nat):Int)<((s:Int)+1)*128:=by omega
     generalize 128*s+k=q at *;go_wp2_with fail
     go_region
     all_goals
      go_wp2
      go_roundw
      case rel=>exact⟨k+1,by omega,by rw[v.out];go_num,c.out.1.keep rfl,c.out.2.andThen ⟨rfl,rfl,rfl,Nat.le_refl _,fun _ _ _=>rfl⟩⟩
      case measure=>simp[intOf];omega
    ·obtain rfl:k=128:=by omega
     have W:=aJ hF.blk 258;have X:=hF.last.2.2.1;have c:Hid (aS (wr.setCell ⟨g,258,none⟩ (.bool true)) g (a 128) 0 res true done∧aH (·=g) w (wr.setCell ⟨g,258,none⟩ (.bool true))):=⟨hF.setDead true,i.thenSet _ _ rfl⟩;clear hF i;go_wp2
     go_ret
     rw[l.out];exact⟨rfl,c.out.1,c.out.2⟩
  ·rw[if_neg p]at b d;have u:Hid (∀x,f x=255):=fun x=>by rw[d]
   rw[←d,←o.out]at b;have l:=aI b;have Y:(left == 0)=false:=by simpa using p
   clear h b j d m o
   go_enter Tryz.func158,Tryz.ntmps158
   go_wp2_with fail
   go_loopw [5] (fun t wr=>∃k:Nat,k≤128∧t=.int .i64 (128*s+k:Nat)∧aS wr g (a k) left res false done∧aH (·=g) w wr) (fun t _=>256-(intOf t).toNat)
   case atStart=>exact⟨0,by omega,by go_num,by rw[B.out];exact n.out,aH.refl _ _⟩
   case round=>
    obtain⟨k,H,rfl,hF,i⟩:=hrel;have I:=hF.last.1
    by_cases J:k<128
    ·have cb:=hF.byte (128*s+k) (by omega);have L:=aJ hF.blk (128*s+k);have c:Hid (aS (wr.setCell ⟨g,128*s+k,none⟩ (.int .u8 (f ((a k).getD (128*s+k) 0)))) g (a (k+1)) left res false done∧aH (·=g) w (wr.setCell ⟨g,128*s+k,none⟩ (.int .u8 (f ((a k).getD (128*s+k) 0))))):=⟨by rw[C.out];exact hF.at _ _ (by omega) (A.out _),i.thenSet _ _ rfl⟩;rw[u.out]at c;clear hF i;generalize (a k).getD (128*s+k) 0=x at *;have v:Hid (128*s+(k+1)=128*s+k+1):=by show _=_;omega
     have M:128*s+k<256:=by omega
     have N:((128*s+k:Nat):Int)<((s:Int)+1)*128:=by omega
     generalize 128*s+k=q at *;go_wp2
     go_roundw
     case rel=>exact⟨k+1,by omega,by rw[v.out];go_num,c.out.1,c.out.2⟩
     case measure=>simp[intOf];omega
    ·obtain rfl:k=128:=by omega
     have O:=aI (Ag g ⟨a 128,left,res,false,done⟩ wr hF z.out);have P:=aI i;clear hF i;go_wp2_with fail
     refine O.out.mono ?_;rintro e w' ⟨rfl,D,E⟩;have Q:=aI D;have R:Hid (aH (·=g) w w'):=P.out.andThen E;clear D E;go_wp2
     go_ret
     rw[l.out];exact⟨rfl,Q.out,R.out⟩
def Fl.cut(F:Fl)(a res:Int):Fl:={ F with left:=a,res:=res }
def Fl.restore(F:Fl):Fl:={ F with left:=-1,dead:=false }
theorem Kv(g:Nat)(F:Fl)(a r:Int)(w:World)(h:fO w g F)(c:0≤a):
 Calls Tryz.prog 25 #[.pointer (some ⟨g,0,none⟩),.int .i64 a,.int .u8 r] w fun e w'=>e=.returned (.tuple #[])∧fO w' g (F.cut a r)∧aH (·=g) w w':=by
 obtain⟨bs,left,res,dead,done⟩:=F;have d:=h.last.1;have c1:=h.last.2.1;have f:=aJ h.blk 256;have i:=aJ h.blk 257;have b:Hid (aS ((w.setCell ⟨g,256,none⟩ (.int .i64 a)).setCell ⟨g,257,none⟩ (.int .u8 r)) g bs a r dead done∧aH (·=g) w ((w.setCell ⟨g,256,none⟩ (.int .i64 a)).setCell ⟨g,257,none⟩ (.int .u8 r))):=⟨(h.setLeft a).setRes r,(aH.ofSet (S:=(·=g)) w g _ _ rfl).thenSet _ _ rfl⟩;clear h
 by_cases j:0<a
 ·go_enter Tryz.func25,Tryz.ntmps25
  go_wp2
  go_end0
  exact⟨rfl,b.out.1,b.out.2⟩
 ·obtain rfl:a=0:=by omega
  go_enter Tryz.func25,Tryz.ntmps25
  go_wp2
  go_end0
  exact⟨rfl,b.out.1,b.out.2⟩
theorem uW(g:Nat)(F:Fl)(w:World)(h:fO w g F):
 Calls Tryz.prog 27 #[.pointer (some ⟨g,0,none⟩)] w fun e w'=>e=.returned (.tuple #[])∧fO w' g F.restore∧aH (·=g) w w':=by
 obtain⟨bs,left,res,dead,done⟩:=F;have b:=h.last.1;have c1:=h.last.2.2.1;have c:=aJ h.blk 256;have d:=aJ h.blk 258;have a:Hid (aS ((w.setCell ⟨g,256,none⟩ (.int .i64 (-1))).setCell ⟨g,258,none⟩ (.bool false)) g bs (-1) res false done∧aH (·=g) w ((w.setCell ⟨g,256,none⟩ (.int .i64 (-1))).setCell ⟨g,258,none⟩ (.bool false))):=⟨(h.setLeft (-1)).setDead false,(aH.ofSet (S:=(·=g)) w g _ _ rfl).thenSet _ _ rfl⟩;clear h
 go_enter Tryz.func27,Tryz.ntmps27
 go_wp2
 go_end0
 exact⟨rfl,a.out.1,a.out.2⟩
section
open Go.RowKit Go.Shelf
attribute [local go_sem] Oper.semAt_some
structure Mo(w:World)(L:bN)(g:Nat)(st:aQ)(F:Fl):Prop where
 mach:aU w L g st
 lay:nI L st.parts.length st.cf.chans.length
 ok:eA st
 fl:fO w g F
 flok:gU F
def Dm(a:bN)(g:Nat)(st:aQ)(b:Nat):Prop:=b=a.mb∨b=a.pb∨(∃i,i<st.parts.length∧(b=a.wd i∨b=a.pr i))∨(∃c,c<st.cf.chans.length∧b=a.ch c)∨b=g
theorem Mo.lt{w:World}{a:bN}{g:Nat}{st:aQ}{F:Fl}(h:Mo w a g st F)(b:Nat)(d:Dm a g st b):b<w.heap.size:=by
 rcases d with rfl| rfl| ⟨i,c,rfl| rfl⟩| ⟨f,j,rfl⟩| rfl
 ·exact lt_of_block h.mach.mach
 ·exact lt_of_block h.mach.parts
 ·exact lt_of_block (h.mach.words i c)
 ·exact lt_of_block (h.mach.procs i c)
 ·obtain⟨s,r,k⟩:=h.mach.queue f j;exact lt_of_block k
 ·exact h.fl.lt
theorem Mo.mono{w w':World}{a:bN}{g:Nat}{st:aQ}{F:Fl}(h:Mo w a g st F)(b:Below w.heap.size w w'):Mo w' a g st F:=
 ⟨h.mach.keep (fun _ _=>eT b),h.lay,h.ok,h.fl.below b,h.flok⟩
theorem aU.same{w w':World}{f:bN}{g:Nat}{st:aQ}(h:aU w f g st)(j:∀ (b:Nat) (c:Array Value) (t:TypeId),w.heap[b]?=some (Obj.cells c t (0,0))→t≠80→w'.heap[b]?=w.heap[b]?)(o:∀d,d<st.cf.chans.length→w'.heap[f.ch d]?=w.heap[f.ch d]?):aU w' f g st:=by
 have kc:∀ {b:Nat} {c:Array Value} {s:TypeId},w.heap[b]?=some (.cells c s (0,0))→s≠80→w'.heap[b]?=some (.cells c s (0,0)):=fun l p=>(j _ _ _ l p).trans l
 refine⟨kc h.mach (by decide),kc h.parts (by decide),fun i a=>kc (h.words i a) (by decide),fun i a=>kc (h.procs i a) (by decide),fun i a=>kc (h.turns i a) (by decide),kc h.wins (by decide),kc h.chans (by decide),fun d m=>?_,fun i k a n=>?_⟩
 ·obtain⟨s,r,q⟩:=h.queue d m;exact⟨s,r,(o d m).trans q⟩
 ·refine aO (h.code i k a n) (fun b e=>?_);obtain⟨cur,u⟩:=cV (h.code i k a n) e;exact j _ _ _ u (by decide)
theorem Mo.flash{w w':World}{a:bN}{g:Nat}{st:aQ}{F d:Fl}(h:Mo w a g st F)(i:aH (·=g) w w')(l:fO w' g d)(m:gU d):Mo w' a g st d:=by
 refine⟨h.mach.same (fun b c t j n=>i.block b (lt_of_block j) (fun e=>?_)) (fun f o=>?_),h.lay,h.ok,l,m⟩
 ·have p:b=g:=e;subst p;have:=h.fl.blk;rw[j]at this;simp at this;exact n this.2
 ·obtain⟨s,r,k⟩:=h.mach.queue f o;exact i.block _ (lt_of_block k) (fun e=>fX h.fl.blk k (show g=a.ch f from(show a.ch f=g from e).symm))
theorem aU.grow{W f:World}{d:bN}{g:Nat}{st:aQ}{row:Option Nat}(h:aU W d g st)(i:W.grownBy f row)(j:∀r,row=some r→(∃o:Obj,W.heap[r]?=some o∧o.isCells=false)∧∀a,a<st.cf.chans.length→d.ch a≠r):aU f d g st:=by
 refine h.same (fun b c t k _=>i.block b (lt_of_block k) (fun e=>?_)) (fun a l=>?_)
 ·obtain⟨o,m,n⟩:=(j b e.symm).1;rw[k]at m;cases m
  cases n
 ·obtain⟨s,r,p⟩:=h.queue a l;exact i.block _ (lt_of_block p) (fun e=>(j _ e.symm).2 a l rfl)
theorem Cp{β:Type}{B:Nat}{b:bN}{g:Nat}(f:β→aQ)(d:∀s a,a<(f s).cf.chans.length→b.ch a<B):OwnFrom B (fun s W=>aU W b g (f s)):=
 fun s _ _ _ h i c=>h.grow i (fun r e=>⟨(c r e).2,fun a j k=>by have:=d s a j;have:=(c r e).1;omega⟩)
theorem dZ{β:Type}{B:Nat}{S:Nat→Prop}{w:World}(a:w.heap.size≤B):OwnFrom B (fun(_:β) W=>aH S w W):=
 fun _ _ _ _ c d f=>c.trans (aH.ofGrown (S:=fun b=>B≤b) d (fun k e=>.inl (f k e).1)) (fun _ g=>.inr (Nat.le_trans a g))
theorem eY{B:Nat}{S:Nat→Prop}{W a:World}(h:aH S W a)(d:∀b,S b→b<B):KeepsFrom B W a:=
 ⟨h.size,fun k _ g c _=>(h.block k (Array.getElem?_eq_some_iff.1 c).1 (fun f=>by have:=d k f;omega)).trans c⟩
theorem eA.setPart{st:aQ}(h:eA st)(i:Nat)(p:fF)(d:p.words.length=(st.part i).words.length)(f:p.procs.length=(st.part i).procs.length):eA (st.setPart i p):=by
 refine⟨h.good,by simpa[aQ.setPart]using h.len,fun a g=>?_,h.qlen⟩;have c:a<st.parts.length:=by simpa[aQ.setPart]using g
 have:=h.part a c
 by_cases e:i=a
 ·subst e;have b:((st.setPart i p).parts.getD i default)=p:=aQ.part_set c;rw[b,d,f];exact this
 ·have b:((st.setPart i p).parts.getD a default)=st.parts.getD a default:=aQ.part_other e;rw[b];exact this
theorem Mo.cells{w w':World}{d:bN}{g b:Nat}{st a:aQ}{F:Fl}{c:Array Value}{t:TypeId}(h:Mo w d g st F)(f:w.heap[b]?=some (.cells c t (0,0)))(i:t≠80)(j:aH (·=b) w w')(k:aU w' d g a)(l:a.parts.length=st.parts.length)(m:a.cf=st.cf)(n:eA a):Mo w' d g a F:=
 ⟨k,by rw[l,m];exact h.lay,n,h.fl.keep (j.block g h.fl.lt (fun e=>by
  have o:g=b:=e;subst o;have:=h.fl.blk;rw[f]at this;simp at this;exact i this.2)),h.flok⟩
theorem Mo.put{W:World}{b:bN}{g:Nat}{st:aQ}{F:Fl}{a:Nat}{o:Obj}(h:Mo W b g st F)(f:W.heap[a]?=some o)(i:o.isCells=false)(c:¬Dm b g st a)(d:Obj):Mo (W.putObj a d) b g st F:=
 ⟨h.mach.grow (grownBy_putObj' W a d) (fun r e=>by cases e;exact⟨⟨o,f,i⟩,fun j k e=>c (.inr (.inr (.inr (.inl ⟨j,k,e.symm⟩))))⟩),h.lay,h.ok,h.fl.keep (World.putObj_heap_other (fun e=>c (.inr (.inr (.inr (.inr e.symm)))))),h.flok⟩
theorem aH.put{S:Nat→Prop}{w W:World}{a:Nat}(h:aH S w W)(c:w.heap.size≤a)(b:Obj):aH S w (W.putObj a b):=
 h.trans (aH.ofGrown (S:=(·=a)) (grownBy_putObj' W a b) (fun k e=>by cases e;exact .inl rfl)) (fun i e=>.inr (by have d:i=a:=e;omega))
theorem gF{β:Type}{B:Nat}{d:bN}{g:Nat}(f:β→aQ)(j:β→Fl)(h:∀s b,Dm d g (f s) b→b<B):OwnFrom B (fun s W=>Mo W d g (f s) (j s)):=
 fun s _ _ _ a i c=>⟨a.mach.grow i (fun r e=>⟨(c r e).2,fun k l m=>by have:=h s _ (.inr (.inr (.inr (.inl ⟨k,l,rfl⟩))));have:=(c r e).1;omega⟩),a.lay,a.ok,a.fl.keep (i.block g a.fl.lt (fun e=>by have:=h s _ (.inr (.inr (.inr (.inr rfl))));have:=(c g e.symm).1;omega)),a.flok⟩
theorem aH.to{S T:Nat→Prop}{w w':World}(h:aH S w w')(a:∀b,S b→T b):aH T w w':=h.mono a
def nC(a:List Int)(k:Nat):List Int:=List.replicate k 0++a.drop k
theorem Bd(a:List Int)(k:Nat)(b:k≤a.length):(nC a k).length=a.length:=by simp[nC];omega
theorem Ao(a:List Int)(k:Nat)(b:k<a.length):(nC a k).set k 0=nC a (k+1):=by
 unfold nC;rw[List.set_append_right _ _ (by simp),List.length_replicate,Nat.sub_self,List.drop_eq_getElem_cons b,List.set_cons_zero,List.replicate_succ',List.append_assoc];rfl
theorem Bn(a:List Int):nC a a.length=List.replicate a.length 0:=by simp[nC]
theorem Ot(b:Nat)(a:List Int)(w:World)(l:w.heap[b]?=some (.cells (a.map (Value.int .i64)).toArray 3 (0,0)))(x:a.length≤1000):
 Calls Tryz.prog 195 #[.agg #[.slice (some ⟨b,0,none⟩) a.length a.length],.int .i64 0] w fun e w'=>e=.returned (.tuple #[])∧w'.heap[b]?=some (.cells ((List.replicate a.length (0:Int)).map (Value.int .i64)).toArray 3 (0,0))∧aH (·=b) w w':=by
 have q:=aI l;have m:=aI (lt_of_block l);obtain⟨c,g⟩:∃c:Nat→List Int,c=nC a:=⟨_,rfl⟩;have r:Hid (c 0=a):=by show _=_;rw[g];simp[nC]
 have s:Hid (∀k,k<a.length→(c k).set k 0=c (k+1)):=fun k h=>by rw[g];exact Ao a k h
 have u:Hid (∀k,k≤a.length→(c k).length=a.length):=fun k h=>by rw[g];exact Bd a k h
 have v:Hid (c a.length=List.replicate a.length 0):=by show _=_;rw[g];exact Bn a
 clear l g;rw[←v.out];generalize o:a.length=n at *;have y:=aI o;clear o
 go_enter Tryz.func195,Tryz.ntmps195
 go_wp2
 go_loopw [8] (fun t wr=>∃k:Nat,k≤n∧t=.int .i64 k∧wr.heap[b]?=some (.cells ((c k).map (Value.int .i64)).toArray 3 (0,0))∧wr.heap[w.heap.size]?=some (.cells #[.slice (some ⟨b,0,none⟩) n n] 115 (0,0))∧aH (·=b) w wr) (fun t _=>n-(intOf t).toNat)
 case atStart=>exact⟨0,by omega,rfl,by rw[r.out,Below.heap_alloc _ _ _ m.out];exact q.out,heap_alloc_new w _,aH.ofBelow (aG _ _)⟩
 case round=>
  obtain⟨k,h,rfl,d,i,j⟩:=hrel;have z:wr.cell? ⟨w.heap.size,0,none⟩=some (.slice (some ⟨b,0,none⟩) n n):=aD i
  by_cases p:k<n
  ·have A:wr.cell? ⟨b,k,none⟩=some (.int .i64 ((c k).getD k 0)):=by
    rw[cell_of_row _ _ _ _ _ _ d,List.getElem?_toArray,List.getElem?_map];have:k<(c k).length:=by rw[u.out k h];exact p
    simp[List.getD_eq_getElem?_getD,this]
   have B:=aJ d k;have f:Hid ((wr.setCell ⟨b,k,none⟩ (.int .i64 0)).heap[b]?=some (.cells ((c (k+1)).map (Value.int .i64)).toArray 3 (0,0))∧(wr.setCell ⟨b,k,none⟩ (.int .i64 0)).heap[w.heap.size]?=some (.cells #[.slice (some ⟨b,0,none⟩) n n] 115 (0,0))∧aH (·=b) w (wr.setCell ⟨b,k,none⟩ (.int .i64 0))):=by
    refine⟨?_,?_,j.thenSet _ _ rfl⟩
    ·rw[aK d k _]
     congr 2
     apply Array.ext'
     rw[Array.toList_setIfInBounds];show List.set (List.map _ _) _ _=List.map _ _
     rw[←s.out k p,List.map_set]
    ·exact((aH.ofSet (S:=(·=b)) wr b _ _ rfl).block _ (lt_of_block i) (by intro e;have C:w.heap.size=b:=e;have:=m.out;omega)).trans i
   clear d i j;generalize (c k).getD k 0=D at *;go_wp2
   go_roundw
   case rel=>exact⟨k+1,by omega,by go_num,f.out.1,f.out.2.1,f.out.2.2⟩
   case measure=>simp[intOf];omega
  ·obtain rfl:k=n:=by omega
   have f:=aI (And.intro d j);clear d i j;go_wp2
   go_end0
   exact⟨rfl,f.out.1,f.out.2⟩
end
end Go.Proofs.YtnjlbgolnbdkaaaGreat
