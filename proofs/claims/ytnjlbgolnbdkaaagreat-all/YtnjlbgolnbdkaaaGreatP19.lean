/- All, with short names -/
import Derived.Test.YtnjlbgolnbdkaaaGreatP18
set_option maxRecDepth 100000
set_option maxHeartbeats 16000000
namespace Go.Proofs.YtnjlbgolnbdkaaaGreat
open Go Go.RowKit
section
open Go.RowKit
def s8(a:Nat):Int:=if(127:Int)<a then(a:Int)-256 else a
theorem Tc(a:Nat)(h:a≤255):IntKind.i8.wrap (a:Int)=s8 a:=by
 unfold s8;have e:IntKind.i8.wrap (a:Int)=if(a:Int) % 256≥128 then(a:Int) % 256-256 else(a:Int) % 256:=by simp[IntKind.wrap,IntKind.signed,IntKind.bits]
 rw[e];split<;>split<;>omega
theorem Mo.fin{w w':World}{L:bN}{g:Nat}{st b:aQ}{F:Fl}(h:Mo w' L g b F)(d:aH (Dm L g st) w w')(o:Obj):Mo (w'.alloc o) L g b F∧aH (Dm L g st) w (w'.alloc o):=by
 have c:Below w'.heap.size w' (w'.alloc o):=aG _ _;exact⟨h.mono c,d.andThen (aH.ofBelow c)⟩
theorem Cr(L:bN)(g:Nat)(st:aQ)(a:Nat)(w:World)(h:aU w L g st)(d:a≤255)(f:0≤st.now∧st.now≤1000000000000):
 Calls Tryz.prog 219 #[.pointer (some ⟨L.mb,0,none⟩),.int .i64 a] w fun e w'=>e=.returned (.int .i64 (if a=0 then 0 else st.now+a))∧w'=w:=by
 have c:=h.machAt 6;simp only[List.getElem?_toArray,List.getElem?_cons_succ,List.getElem?_cons_zero]at c;clear h
 by_cases b:a=0
 ·subst b
  go_enter Tryz.func219,Tryz.ntmps219
  go_wp2
  go_ret
  exact⟨rfl,rfl⟩
 ·have j:((a:Int) == 0)=false:=by simp[b]
  rw[if_neg b];clear b
  go_enter Tryz.func219,Tryz.ntmps219
  go_wp2
  go_ret
  exact⟨rfl,rfl⟩
def mO(bs:List Int)(i n:Nat)(op:Int)(a:Nat)(rc:Int)(st:aQ):Int×aQ:=
 if op=1 then(-1,st.setProc i n { st.proc i n with acc:=IntKind.i64.wrap ((st.proc i n).acc+s8 a) })
 else if op=2∨op=3∨op=12 then fH i n op a st
 else if op=4 then(-1,if(st.proc i n).acc≠0 then st.setProc i n (st.follow i n a)else st)
 else if op=5 then(-1,st.setProc i n { st.proc i n with til:=st.now+a })
 else if op=6 then mQ i n a st
 else if op=7 then(if cZ st i a=true then(-1,st.setProc i n { st.proc i n with acc:=rc })else(4,st))
 else if op=8 then(3,st)
 else if op=9 then(-1,st.setPart i { st.part i with watch:=st.now })
 else if op=10 then(-1,st.setProc i n { st.proc i n with stopped:=true })
 else if op=11 then(-1,st.setProc i n { st.proc i n with dl:=if a=0 then -1 else st.now+a })
 else if op=13 then mR bs i n a st
 else(-1,st)
section
variable (L:bN) (g:Nat) (st:aQ) (F:Fl) (i n a:Nat) (rc:Int) (w:World)
abbrev jR(op:Int)(e:Ending)(w':World):Prop:=e=.returned (.int .i64 (mO F.bs i n op a rc st).1)∧Mo w' L g (mO F.bs i n op a rc st).2 F∧aH (Dm L g st) w w'
theorem do_0(h:Mo w L g st F)(c:i<st.parts.length)(d:n<(st.part i).procs.length)(f:a≤255)(j:0≤st.now∧st.now≤1000000000000):
 Calls Tryz.prog 213 #[.pointer (some ⟨L.mb,0,none⟩),.pointer (some ⟨L.pb,i*14,none⟩),.pointer (some ⟨L.pr i,n*6,none⟩),.agg #[.int .i64 0,.int .i64 a],.int .i64 rc] w (jR L g st F i n a rc w 0):=by
 have b:Below w.heap.size w (w.alloc (.cells #[.int .i64 0,.int .i64 a] 210)):=aG _ _;have _u:=And.intro c (And.intro d (And.intro f j));clear _u;have k:=aI (h.mono b);have l:=aI (aH.ofBelow (S:=Dm L g st) b);have m:Hid (mO F.bs i n 0 a rc st=((-1),st)):=rfl;clear h b
 go_enter Tryz.func213,Tryz.ntmps213
 go_wp2
 go_ret
 show _∧_∧_
 rw[m.out];exact⟨rfl,k.out,l.out⟩
theorem do_8(h:Mo w L g st F)(c:i<st.parts.length)(d:n<(st.part i).procs.length)(f:a≤255)(j:0≤st.now∧st.now≤1000000000000):
 Calls Tryz.prog 213 #[.pointer (some ⟨L.mb,0,none⟩),.pointer (some ⟨L.pb,i*14,none⟩),.pointer (some ⟨L.pr i,n*6,none⟩),.agg #[.int .i64 8,.int .i64 a],.int .i64 rc] w (jR L g st F i n a rc w 8):=by
 have b:Below w.heap.size w (w.alloc (.cells #[.int .i64 8,.int .i64 a] 210)):=aG _ _;have _u:=And.intro c (And.intro d (And.intro f j));clear _u;have k:=aI (h.mono b);have l:=aI (aH.ofBelow (S:=Dm L g st) b);have m:Hid (mO F.bs i n 8 a rc st=(3,st)):=rfl;clear h b
 go_enter Tryz.func213,Tryz.ntmps213
 go_wp2
 go_ret
 show _∧_∧_
 rw[m.out];exact⟨rfl,k.out,l.out⟩
theorem do_10(h:Mo w L g st F)(b:i<st.parts.length)(c:n<(st.part i).procs.length)(j:a≤255)(k:0≤st.now∧st.now≤1000000000000):
 Calls Tryz.prog 213 #[.pointer (some ⟨L.mb,0,none⟩),.pointer (some ⟨L.pb,i*14,none⟩),.pointer (some ⟨L.pr i,n*6,none⟩),.agg #[.int .i64 10,.int .i64 a],.int .i64 rc] w (jR L g st F i n a rc w 10):=by
 have d:Below w.heap.size w (w.alloc (.cells #[.int .i64 10,.int .i64 a] 210)):=aG _ _;have _u:=And.intro b (And.intro c (And.intro j k));clear _u;have m:=aI (h.mono d);have o:=aI (aH.ofBelow (S:=Dm L g st) d);have l:Hid (mO F.bs i n 10 a rc st=(-1,st.setProc i n { st.proc i n with stopped:=true })):=rfl;have p3:=h.mach.procAt i n 3 b c (by omega);simp only[aY,List.getElem?_cons_succ,List.getElem?_cons_zero]at p3;have p:=aN p3;have q:=aJ (h.mach.procs i b) (n*6+3);have f:=aI (Mo.fin (h.setProc i n { st.proc i n with stopped:=true } b (aH.ofSet w (L.pr i) (n*6+3) (.bool true) rfl) (h.mach.procCell h.lay i n 3 (.bool true) _ b c (by omega) rfl)).1 (h.setProc i n { st.proc i n with stopped:=true } b (aH.ofSet w (L.pr i) (n*6+3) (.bool true) rfl) (h.mach.procCell h.lay i n 3 (.bool true) _ b c (by omega) rfl)).2 (.cells #[.int .i64 10,.int .i64 a] 210));clear h d
 go_enter Tryz.func213,Tryz.ntmps213
 go_wp2
 go_ret
 show _∧_∧_
 rw[l.out];exact⟨rfl,f.out.1,f.out.2⟩
theorem do_5(h:Mo w L g st F)(b:i<st.parts.length)(c:n<(st.part i).procs.length)(l:a≤255)(m:0≤st.now∧st.now≤1000000000000):
 Calls Tryz.prog 213 #[.pointer (some ⟨L.mb,0,none⟩),.pointer (some ⟨L.pb,i*14,none⟩),.pointer (some ⟨L.pr i,n*6,none⟩),.agg #[.int .i64 5,.int .i64 a],.int .i64 rc] w (jR L g st F i n a rc w 5):=by
 have d:Below w.heap.size w (w.alloc (.cells #[.int .i64 5,.int .i64 a] 210)):=aG _ _;have _u:=And.intro b (And.intro c (And.intro l m));clear _u;have p:=aI (h.mono d);have q:=aI (aH.ofBelow (S:=Dm L g st) d);have o:Hid (mO F.bs i n 5 a rc st=(-1,st.setProc i n { st.proc i n with til:=st.now+a })):=rfl;have f:=h.mach.procAt i n 4 b c (by omega);simp only[aY,List.getElem?_cons_succ,List.getElem?_cons_zero]at f;have r:=aN f;have f4:=aJ (h.mach.procs i b) (n*6+4);have j:=h.mach.machAt 6;simp only[List.getElem?_toArray,List.getElem?_cons_succ,List.getElem?_cons_zero]at j;have s:=aN j;have k:=aI (Mo.fin (h.setProc i n { st.proc i n with til:=st.now+a } b (aH.ofSet w (L.pr i) (n*6+4) (.int .i64 (st.now+a)) rfl) (h.mach.procCell h.lay i n 4 (.int .i64 (st.now+a)) _ b c (by omega) rfl)).1 (h.setProc i n { st.proc i n with til:=st.now+a } b (aH.ofSet w (L.pr i) (n*6+4) (.int .i64 (st.now+a)) rfl) (h.mach.procCell h.lay i n 4 (.int .i64 (st.now+a)) _ b c (by omega) rfl)).2 (.cells #[.int .i64 5,.int .i64 a] 210));clear h d
 go_enter Tryz.func213,Tryz.ntmps213
 go_wp2_with fail
 go_region
 all_goals (
  go_wp2
  go_ret
  show _∧_∧_
  rw[o.out];exact⟨rfl,k.out.1.mono (Below.refl _ _).drew,k.out.2.andThen (aH.ofDrew _)⟩)
theorem do_9(h:Mo w L g st F)(b:i<st.parts.length)(k:n<(st.part i).procs.length)(l:a≤255)(m:0≤st.now∧st.now≤1000000000000):
 Calls Tryz.prog 213 #[.pointer (some ⟨L.mb,0,none⟩),.pointer (some ⟨L.pb,i*14,none⟩),.pointer (some ⟨L.pr i,n*6,none⟩),.agg #[.int .i64 9,.int .i64 a],.int .i64 rc] w (jR L g st F i n a rc w 9):=by
 have c:Below w.heap.size w (w.alloc (.cells #[.int .i64 9,.int .i64 a] 210)):=aG _ _;have _u:=And.intro b (And.intro k (And.intro l m));clear _u;have p:=aI (h.mono c);have q:=aI (aH.ofBelow (S:=Dm L g st) c);have o:Hid (mO F.bs i n 9 a rc st=(-1,st.setPart i { st.part i with watch:=st.now })):=rfl;have d:=h.mach.machAt 6;simp only[List.getElem?_toArray,List.getElem?_cons_succ,List.getElem?_cons_zero]at d;have r:=aN d;have f:=h.mach.partAt i 13 b (by omega);simp only[fK,List.getElem?_cons_succ,List.getElem?_cons_zero]at f;have s:=aN f;have u:=aJ h.mach.parts (i*14+13);have j:=aI (Mo.fin (h.setPart i { st.part i with watch:=st.now } rfl rfl (aH.ofSet w L.pb (i*14+13) (.int .i64 st.now) rfl) (h.mach.setWatch i st.now b)).1 (h.setPart i { st.part i with watch:=st.now } rfl rfl (aH.ofSet w L.pb (i*14+13) (.int .i64 st.now) rfl) (h.mach.setWatch i st.now b)).2 (.cells #[.int .i64 9,.int .i64 a] 210));clear h c
 go_enter Tryz.func213,Tryz.ntmps213
 go_wp2
 go_ret
 show _∧_∧_
 rw[o.out];exact⟨rfl,j.out.1,j.out.2⟩
theorem do_1(h:Mo w L g st F)(b:i<st.parts.length)(c:n<(st.part i).procs.length)(f:a≤255)(l:0≤st.now∧st.now≤1000000000000):
 Calls Tryz.prog 213 #[.pointer (some ⟨L.mb,0,none⟩),.pointer (some ⟨L.pb,i*14,none⟩),.pointer (some ⟨L.pr i,n*6,none⟩),.agg #[.int .i64 1,.int .i64 a],.int .i64 rc] w (jR L g st F i n a rc w 1):=by
 have d:Below w.heap.size w (w.alloc (.cells #[.int .i64 1,.int .i64 a] 210)):=aG _ _;have _u:=And.intro b (And.intro c (And.intro f l));clear _u;have q:=aI (h.mono d);have r:=aI (aH.ofBelow (S:=Dm L g st) d);have m:Hid (mO F.bs i n 1 a rc st=(-1,st.setProc i n { st.proc i n with acc:=IntKind.i64.wrap ((st.proc i n).acc+s8 a) })):=rfl;have p2:=h.mach.procAt i n 2 b c (by omega);simp only[aY,List.getElem?_cons_succ,List.getElem?_cons_zero]at p2;have s:=aN p2;have u:=aJ (h.mach.procs i b) (n*6+2);have o:=aI (Tc a f);have j:=aI (Mo.fin (h.setProc i n { st.proc i n with acc:=IntKind.i64.wrap ((st.proc i n).acc+s8 a) } b (aH.ofSet w (L.pr i) (n*6+2) (.int .i64 (IntKind.i64.wrap ((st.proc i n).acc+s8 a))) rfl) (h.mach.procCell h.lay i n 2 (.int .i64 (IntKind.i64.wrap ((st.proc i n).acc+s8 a))) _ b c (by omega) rfl)).1 (h.setProc i n { st.proc i n with acc:=IntKind.i64.wrap ((st.proc i n).acc+s8 a) } b (aH.ofSet w (L.pr i) (n*6+2) (.int .i64 (IntKind.i64.wrap ((st.proc i n).acc+s8 a))) rfl) (h.mach.procCell h.lay i n 2 (.int .i64 (IntKind.i64.wrap ((st.proc i n).acc+s8 a))) _ b c (by omega) rfl)).2 (.cells #[.int .i64 1,.int .i64 a] 210));clear h d;generalize (st.proc i n).acc=k at *
 go_enter Tryz.func213,Tryz.ntmps213
 go_wp2_with fail
 go_region
 all_goals (
  go_wp2
  go_ret
  show _∧_∧_
  have p:wrap64 (k+wrap64 (IntKind.i8.wrap (a:Int)))=IntKind.i64.wrap (k+s8 a):=by
   rw[o.out,IntKind.wrap_i64];have v:-128≤s8 a∧s8 a≤127:=by unfold s8;split<;>omega
   unfold wrap64;omega
  rw[m.out,p];exact⟨rfl,j.out.1.mono (Below.refl _ _).drew,j.out.2.andThen (aH.ofDrew _)⟩)
theorem do_2(h:Mo w L g st F)(c:i<st.parts.length)(d:n<(st.part i).procs.length)(l:a≤255)(m:0≤st.now∧st.now≤1000000000000):
 Calls Tryz.prog 213 #[.pointer (some ⟨L.mb,0,none⟩),.pointer (some ⟨L.pb,i*14,none⟩),.pointer (some ⟨L.pr i,n*6,none⟩),.agg #[.int .i64 2,.int .i64 a],.int .i64 rc] w (jR L g st F i n a rc w 2):=by
 have b:Below w.heap.size w (w.alloc (.cells #[.int .i64 2,.int .i64 a] 210)):=aG _ _;have _u:=And.intro c (And.intro d (And.intro l m));clear _u;have r:=aI (h.mono b);have o:=aI (aH.ofBelow (S:=Dm L g st) b);have p:Hid (mO F.bs i n 2 a rc st=fH i n 2 a st):=rfl;have q:=aI (sI L g st F i n 2 a _ (h.mono b) c d (by decide));clear h b
 go_enter Tryz.func213,Tryz.ntmps213
 go_wp2_with fail
 refine q.out.mono ?_;rintro e s ⟨rfl,f,j⟩;have k:=aI (And.intro f (o.out.andThen j));clear f j;go_wp2
 go_ret
 show _∧_∧_
 rw[p.out];exact⟨rfl,k.out.1,k.out.2⟩
theorem do_3(h:Mo w L g st F)(c:i<st.parts.length)(d:n<(st.part i).procs.length)(l:a≤255)(m:0≤st.now∧st.now≤1000000000000):
 Calls Tryz.prog 213 #[.pointer (some ⟨L.mb,0,none⟩),.pointer (some ⟨L.pb,i*14,none⟩),.pointer (some ⟨L.pr i,n*6,none⟩),.agg #[.int .i64 3,.int .i64 a],.int .i64 rc] w (jR L g st F i n a rc w 3):=by
 have b:Below w.heap.size w (w.alloc (.cells #[.int .i64 3,.int .i64 a] 210)):=aG _ _;have _u:=And.intro c (And.intro d (And.intro l m));clear _u;have r:=aI (h.mono b);have o:=aI (aH.ofBelow (S:=Dm L g st) b);have p:Hid (mO F.bs i n 3 a rc st=fH i n 3 a st):=rfl;have q:=aI (sI L g st F i n 3 a _ (h.mono b) c d (by decide));clear h b
 go_enter Tryz.func213,Tryz.ntmps213
 go_wp2_with fail
 refine q.out.mono ?_;rintro e s ⟨rfl,f,j⟩;have k:=aI (And.intro f (o.out.andThen j));clear f j;go_wp2
 go_ret
 show _∧_∧_
 rw[p.out];exact⟨rfl,k.out.1,k.out.2⟩
theorem do_12(h:Mo w L g st F)(c:i<st.parts.length)(d:n<(st.part i).procs.length)(l:a≤255)(m:0≤st.now∧st.now≤1000000000000):
 Calls Tryz.prog 213 #[.pointer (some ⟨L.mb,0,none⟩),.pointer (some ⟨L.pb,i*14,none⟩),.pointer (some ⟨L.pr i,n*6,none⟩),.agg #[.int .i64 12,.int .i64 a],.int .i64 rc] w (jR L g st F i n a rc w 12):=by
 have b:Below w.heap.size w (w.alloc (.cells #[.int .i64 12,.int .i64 a] 210)):=aG _ _;have _u:=And.intro c (And.intro d (And.intro l m));clear _u;have r:=aI (h.mono b);have o:=aI (aH.ofBelow (S:=Dm L g st) b);have p:Hid (mO F.bs i n 12 a rc st=fH i n 12 a st):=rfl;have q:=aI (sI L g st F i n 12 a _ (h.mono b) c d (by decide));clear h b
 go_enter Tryz.func213,Tryz.ntmps213
 go_wp2_with fail
 refine q.out.mono ?_;rintro e s ⟨rfl,f,j⟩;have k:=aI (And.intro f (o.out.andThen j));clear f j;go_wp2
 go_ret
 show _∧_∧_
 rw[p.out];exact⟨rfl,k.out.1,k.out.2⟩
theorem do_6(h:Mo w L g st F)(c:i<st.parts.length)(d:n<(st.part i).procs.length)(l:a≤255)(m:0≤st.now∧st.now≤1000000000000):
 Calls Tryz.prog 213 #[.pointer (some ⟨L.mb,0,none⟩),.pointer (some ⟨L.pb,i*14,none⟩),.pointer (some ⟨L.pr i,n*6,none⟩),.agg #[.int .i64 6,.int .i64 a],.int .i64 rc] w (jR L g st F i n a rc w 6):=by
 have b:Below w.heap.size w (w.alloc (.cells #[.int .i64 6,.int .i64 a] 210)):=aG _ _;have _u:=And.intro c (And.intro d (And.intro l m));clear _u;have r:=aI (h.mono b);have o:=aI (aH.ofBelow (S:=Dm L g st) b);have p:Hid (mO F.bs i n 6 a rc st=mQ i n a st):=rfl;have q:=aI (Lj L g st F i n 6 a _ (h.mono b) c d);clear h b
 go_enter Tryz.func213,Tryz.ntmps213
 go_wp2_with fail
 refine q.out.mono ?_;rintro e s ⟨rfl,f,j⟩;have k:=aI (And.intro f (o.out.andThen j));clear f j;go_wp2
 go_ret
 show _∧_∧_
 rw[p.out];exact⟨rfl,k.out.1,k.out.2⟩
theorem do_13(h:Mo w L g st F)(c:i<st.parts.length)(d:n<(st.part i).procs.length)(l:a≤255)(m:0≤st.now∧st.now≤1000000000000):
 Calls Tryz.prog 213 #[.pointer (some ⟨L.mb,0,none⟩),.pointer (some ⟨L.pb,i*14,none⟩),.pointer (some ⟨L.pr i,n*6,none⟩),.agg #[.int .i64 13,.int .i64 a],.int .i64 rc] w (jR L g st F i n a rc w 13):=by
 have b:Below w.heap.size w (w.alloc (.cells #[.int .i64 13,.int .i64 a] 210)):=aG _ _;have _u:=And.intro c (And.intro d (And.intro l m));clear _u;have r:=aI (h.mono b);have o:=aI (aH.ofBelow (S:=Dm L g st) b);have p:Hid (mO F.bs i n 13 a rc st=mR F.bs i n a st):=rfl;have q:=aI (Ji L g st F i n 13 a _ (h.mono b) c d);clear h b
 go_enter Tryz.func213,Tryz.ntmps213
 go_wp2_with fail
 refine q.out.mono ?_;rintro e s ⟨rfl,f,j⟩;have k:=aI (And.intro f (o.out.andThen j));clear f j;go_wp2
 go_ret
 show _∧_∧_
 rw[p.out];exact⟨rfl,k.out.1,k.out.2⟩
theorem do_4(h:Mo w L g st F)(d:i<st.parts.length)(j:n<(st.part i).procs.length)(q:a≤255)(r:0≤st.now∧st.now≤1000000000000):
 Calls Tryz.prog 213 #[.pointer (some ⟨L.mb,0,none⟩),.pointer (some ⟨L.pb,i*14,none⟩),.pointer (some ⟨L.pr i,n*6,none⟩),.agg #[.int .i64 4,.int .i64 a],.int .i64 rc] w (jR L g st F i n a rc w 4):=by
 have b:Below w.heap.size w (w.alloc (.cells #[.int .i64 4,.int .i64 a] 210)):=aG _ _;have _u:=And.intro d (And.intro j (And.intro q r));clear _u;have s:=aI (h.mono b);have l:=aI (aH.ofBelow (S:=Dm L g st) b);have f:Hid (mO F.bs i n 4 a rc st=(-1,if(st.proc i n).acc≠0 then st.setProc i n (st.follow i n a)else st)):=rfl;have p2:=h.mach.procAt i n 2 d j (by omega);simp only[aY,List.getElem?_cons_succ,List.getElem?_cons_zero]at p2;have z:=aN p2;have A:=aJ (h.mach.procs i d) (n*6+2);have u:=aI (yJ L g st i n a _ (h.mono b).mach (h.mono b).lay d j);have v:=aI (h.mono b);clear h b
 by_cases c:(st.proc i n).acc=0
 ·rw[if_neg (by simpa using c)]at f;have x:((st.proc i n).acc != 0)=false:=by simp[c]
  clear c;generalize (st.proc i n).acc=y at *
  go_enter Tryz.func213,Tryz.ntmps213
  go_wp2
  go_ret
  show _∧_∧_
  rw[f.out];exact⟨rfl,s.out,l.out⟩
 ·rw[if_pos c]at f;have x:((st.proc i n).acc != 0)=true:=by simp[c]
  clear c;generalize (st.proc i n).acc=y at *
  go_enter Tryz.func213,Tryz.ntmps213
  go_wp2_with fail
  refine u.out.mono ?_;rintro e B ⟨rfl,m,o⟩;have k:=v.out.setProc i n (st.follow i n a) d o m;have p:=aI (And.intro k.1 (l.out.andThen k.2));clear m o k;go_wp2
  go_ret
  show _∧_∧_
  rw[f.out];exact⟨rfl,p.out.1,p.out.2⟩
theorem do_11(h:Mo w L g st F)(b:i<st.parts.length)(c:n<(st.part i).procs.length)(k:a≤255)(l:0≤st.now∧st.now≤1000000000000):
 Calls Tryz.prog 213 #[.pointer (some ⟨L.mb,0,none⟩),.pointer (some ⟨L.pb,i*14,none⟩),.pointer (some ⟨L.pr i,n*6,none⟩),.agg #[.int .i64 11,.int .i64 a],.int .i64 rc] w (jR L g st F i n a rc w 11):=by
 have d:Below w.heap.size w (w.alloc (.cells #[.int .i64 11,.int .i64 a] 210)):=aG _ _;have _u:=And.intro b (And.intro c (And.intro k l));clear _u;have r:=aI (h.mono d);have s:=aI (aH.ofBelow (S:=Dm L g st) d);have q:Hid (mO F.bs i n 11 a rc st=(-1,st.setProc i n { st.proc i n with dl:=if a=0 then -1 else st.now+a })):=rfl;have m:=h.mach.procAt i n 5 b c (by omega);simp only[aY,List.getElem?_cons_succ,List.getElem?_cons_zero]at m;have u:=aN m;have v:=aJ (h.mach.procs i b) (n*6+5);have o:=aI (Cr L g st a _ (h.mono d).mach k l);have f:Ea (if a=0 then -1 else st.now+a)=if a=0 then 0 else st.now+a:=by
  unfold Ea;split<;>split<;>omega
 have j:=aI (Mo.fin (h.setProc i n { st.proc i n with dl:=if a=0 then -1 else st.now+a } b (aH.ofSet w (L.pr i) (n*6+5) (.int .i64 (if a=0 then 0 else st.now+a)) rfl) (h.mach.procCell h.lay i n 5 (.int .i64 (if a=0 then 0 else st.now+a)) _ b c (by omega) (by rw[←f];rfl))).1 (h.setProc i n { st.proc i n with dl:=if a=0 then -1 else st.now+a } b (aH.ofSet w (L.pr i) (n*6+5) (.int .i64 (if a=0 then 0 else st.now+a)) rfl) (h.mach.procCell h.lay i n 5 (.int .i64 (if a=0 then 0 else st.now+a)) _ b c (by omega) (by rw[←f];rfl))).2 (.cells #[.int .i64 11,.int .i64 a] 210));clear h d f;generalize p:(if a=0 then(0:Int)else st.now+a)=x at o j;have y:=aI p;clear p
 go_enter Tryz.func213,Tryz.ntmps213
 go_wp2_with fail
 refine o.out.mono ?_;rintro e z ⟨rfl,rfl⟩;go_wp2
 go_ret
 show _∧_∧_
 rw[q.out];exact⟨rfl,j.out.1,j.out.2⟩
theorem do_7(h:Mo w L g st F)(c:i<st.parts.length)(l:n<(st.part i).procs.length)(q:a≤255)(r:0≤st.now∧st.now≤1000000000000):
 Calls Tryz.prog 213 #[.pointer (some ⟨L.mb,0,none⟩),.pointer (some ⟨L.pb,i*14,none⟩),.pointer (some ⟨L.pr i,n*6,none⟩),.agg #[.int .i64 7,.int .i64 a],.int .i64 rc] w (jR L g st F i n a rc w 7):=by
 have f:Below w.heap.size w (w.alloc (.cells #[.int .i64 7,.int .i64 a] 210)):=aG _ _;have _u:=And.intro c (And.intro l (And.intro q r));clear _u;have u:=aI (h.mono f);have o:=aI (aH.ofBelow (S:=Dm L g st) f);have d:Hid (mO F.bs i n 7 a rc st=if cZ st i a=true then(-1,st.setProc i n { st.proc i n with acc:=rc })else(4,st)):=rfl;have m:=aI (sV L g st F i 7 a _ (h.mono f) c);have p:=aI (h.mono f);clear h f;cases hmt:cZ st i a with
 | false=>
  rw[hmt]at m d;rw[if_neg (by decide)]at d;clear hmt
  go_enter Tryz.func213,Tryz.ntmps213
  go_wp2_with fail
  refine m.out.mono ?_;rintro e s ⟨rfl,b⟩;have j:=aI (And.intro (p.out.mono b) (o.out.andThen (aH.ofBelow b)));clear b;go_wp2
  go_ret
  show _∧_∧_
  rw[d.out];exact⟨rfl,j.out.1,j.out.2⟩
 | true=>
  rw[hmt]at m d;rw[if_pos rfl]at d;clear hmt
  go_enter Tryz.func213,Tryz.ntmps213
  go_wp2_with fail
  refine m.out.mono ?_;rintro e s ⟨rfl,b⟩;have k:=p.out.mono b;have p2:=tP k.mach i n c l;have v:=aJ (k.mach.procs i c) (n*6+2);have j:=aI (And.intro (k.setAcc i n rc c l).1 ((o.out.andThen (aH.ofBelow b)).andThen (k.setAcc i n rc c l).2));clear b k;go_wp2
  go_ret
  show _∧_∧_
  rw[d.out];exact⟨rfl,j.out.1,j.out.2⟩
theorem Tt(op:Int)(h:Mo w L g st F)(b:i<st.parts.length)(c:n<(st.part i).procs.length)(d:a≤255)(f:0≤st.now∧st.now≤1000000000000)(j:0≤op∧op≤13):
 Calls Tryz.prog 213 #[.pointer (some ⟨L.mb,0,none⟩),.pointer (some ⟨L.pb,i*14,none⟩),.pointer (some ⟨L.pr i,n*6,none⟩),.agg #[.int .i64 op,.int .i64 a],.int .i64 rc] w (jR L g st F i n a rc w op):=by
 obtain rfl| rfl| rfl| rfl| rfl| rfl| rfl| rfl| rfl| rfl| rfl| rfl| rfl| rfl:op=0∨op=1∨op=2∨op=3∨op=4∨op=5∨op=6∨op=7∨op=8∨op=9∨op=10∨op=11∨op=12∨op=13:=by omega
 ·exact do_0 L g st F i n a rc w h b c d f
 ·exact do_1 L g st F i n a rc w h b c d f
 ·exact do_2 L g st F i n a rc w h b c d f
 ·exact do_3 L g st F i n a rc w h b c d f
 ·exact do_4 L g st F i n a rc w h b c d f
 ·exact do_5 L g st F i n a rc w h b c d f
 ·exact do_6 L g st F i n a rc w h b c d f
 ·exact do_7 L g st F i n a rc w h b c d f
 ·exact do_8 L g st F i n a rc w h b c d f
 ·exact do_9 L g st F i n a rc w h b c d f
 ·exact do_10 L g st F i n a rc w h b c d f
 ·exact do_11 L g st F i n a rc w h b c d f
 ·exact do_12 L g st F i n a rc w h b c d f
 ·exact do_13 L g st F i n a rc w h b c d f
end
end
theorem vE{w:World}{b:bN}{g:Nat}{st:aQ}(h:aU w b g st)(i n k:Nat)(f:i<st.parts.length)(j:n<(st.part i).procs.length)(a:k<(st.codeOf i n).length):
 ∃x c,b.code i n=.slice (some ⟨x,0,none⟩) (st.codeOf i n).length c∧w.cell? ⟨x,k*2,none⟩=some (.int .i64 ((st.codeOf i n).getD k (0,0)).1)∧w.cell? ⟨x,k*2+1,none⟩=some (.int .i64 ((st.codeOf i n).getD k (0,0)).2):=by
 obtain⟨_,ad,c,l,m⟩:=iI (fun c:Int×Int=>[Value.int .i64 c.1,.int .i64 c.2]) (fun _=>rfl) (st.codeOf i n) rfl (h.code i n f j);obtain⟨x,o,d⟩:=m k _ (List.getElem?_eq_getElem a);subst o;refine⟨x,c,l,?_,?_⟩
 ·have:=d 0 (by omega);simp only[List.getD_eq_getElem?_getD,List.getElem?_eq_getElem a]at this ⊢
  simpa using this
 ·have:=d 1 (by omega);simp only[List.getD_eq_getElem?_getD,List.getElem?_eq_getElem a]at this ⊢
  simpa using this
theorem sT{st:aQ}(a:eA st)(i n k:Nat)(b:i<st.parts.length)(d:n<(st.part i).procs.length)(c:k<(st.codeOf i n).length):(0≤((st.codeOf i n).getD k (0,0)).1∧((st.codeOf i n).getD k (0,0)).1≤13)∧(0≤((st.codeOf i n).getD k (0,0)).2∧((st.codeOf i n).getD k (0,0)).2≤255)∧(((st.codeOf i n).getD k (0,0)).1=4→((st.codeOf i n).getD k (0,0)).2<(st.codeOf i n).length):=by
 have f:=a.good.parts (st.cf.parts.getD i default) (dB (by rw[←a.len];exact b));have g:=(a.part i b).2;have h:=f.procs ((st.cf.parts.getD i default).procs.getD n default) (dB (by rw[←g];exact d));refine h.code _ ?_;show(st.codeOf i n).getD k (0,0)∈st.codeOf i n
 rw[List.getD_eq_getElem?_getD,List.getElem?_eq_getElem c];exact List.getElem_mem c
def pU(i n:Nat)(rc:Int)(s:SF):Int×aQ:=mO s.2.bs i n (dE s.1 i n).1 (dE s.1 i n).2.toNat rc (s.1.setProc i n (s.1.follow i n ((s.1.proc i n).next+1)))
def oG(i n:Nat)(rc:Int)(s:SF):Bool×SF:=if(pU i n rc s).1=-1 then(true,(pU i n rc s).2,s.2)else cK i n (pU i n rc s).1.toNat ((pU i n rc s).2,s.2)
theorem kJ{α:Type}{P:α→Prop}{b:Prop}[Decidable b]{x a:α}(c:P x)(d:P a):P (if b then x else a):=by split<;>assumption
def lX(r:Int×aQ):Prop:=-1≤r.1∧r.1<5
theorem Gr(bs:List Int)(i n:Nat)(op:Int)(a:Nat)(rc:Int)(st:aQ):lX (mO bs i n op a rc st):=by
 have b:∀x:aQ,lX (-1,x):=fun _=>⟨Int.le_refl (-1),(by decide:(-1:Int)<5)⟩
 have c:∀x:aQ,lX (0,x):=fun _=>⟨(by decide:(-1:Int)≤0),(by decide:(0:Int)<5)⟩
 have d:∀x:aQ,lX (1,x):=fun _=>⟨(by decide:(-1:Int)≤1),(by decide:(1:Int)<5)⟩
 have f:∀x:aQ,lX (3,x):=fun _=>⟨(by decide:(-1:Int)≤3),(by decide:(3:Int)<5)⟩
 have g:∀x:aQ,lX (4,x):=fun _=>⟨(by decide:(-1:Int)≤4),(by decide:(4:Int)<5)⟩
 unfold mO fH mQ mR
 repeat' (first| exact b _| exact c _| exact d _| exact f _| exact g _| apply kJ)
def zI(st:aQ)(r:Int×aQ):Prop:=Lk st r.2
theorem zD(bs:List Int)(i n:Nat)(op:Int)(a:Nat)(rc:Int)(st:aQ):zI st (mO bs i n op a rc st):=by
 have b:∀ (c:Int) (x:cQ),zI st (c,st.setProc i n x):=fun _ _=>Lk.setProc _ _ _ _
 have d:∀ (c:Int) (x:fF),zI st (c,st.setPart i x):=fun _ _=>Lk.setPart _ _ _
 have f:∀ (c:Int),zI st (c,st):=fun _=>Lk.refl _
 have g:∀ (c:Int) (q:List (List Int)),zI st (c,{ st with queues:=q }):=fun _ _=>⟨rfl,rfl,rfl⟩
 have h:zI st (-1,if(st.proc i n).acc≠0 then st.setProc i n (st.follow i n a)else st):=by
  show Lk st (if _ then _ else _)
  split
  ·exact Lk.setProc _ _ _ _
  ·exact Lk.refl _
 unfold mO fH mQ mR
 repeat' (first| exact b _ _| exact d _ _| exact f _| exact h| exact g _ _| apply kJ)
theorem Ql(d:bN)(g:Nat)(st:aQ)(F:Fl)(i n:Nat)(rc:Int)(w:World)(h:Mo w d g st F)(C:dY st)(j:i<st.parts.length)(m:n<(st.part i).procs.length)(Q:(st.proc i n).stopped=false):
 Calls Tryz.prog 190 #[.pointer (some ⟨d.mb,0,none⟩),.pointer (some ⟨d.pb,i*14,none⟩),.pointer (some ⟨d.pr i,n*6,none⟩),.int .i64 rc] w fun e w'=>e=.returned (.bool (oG i n rc (st,F)).1)∧Mo w' d g (oG i n rc (st,F)).2.1 (oG i n rc (st,F)).2.2∧aH (Dm d g st) w w':=by
 have y:=C.proc i n j m;have c2:(st.proc i n).next<(st.codeOf i n).length:=by
  rcases y.next.2.2 with l| l
  ·rw[Q]at l;cases l
  ·exact l
 obtain⟨k,D⟩:∃k:Nat,(st.proc i n).next=k:=⟨(st.proc i n).next.toNat,by have:=y.next.1;omega⟩;have R:k<(st.codeOf i n).length:=by omega
 obtain⟨x,c,S,E,T⟩:=vE h.mach i n k j m R;obtain⟨U,b1,b2⟩:=sT h.ok i n k j m R;have c3:=h.ok.codeLen i n j m;have V:Hid (dE st i n=(st.codeOf i n).getD k (0,0)):=by show _=_;unfold dE;rw[D];rfl
 generalize (st.codeOf i n).getD k (0,0)=ins at *;obtain⟨op,X⟩:=ins;simp only at E T U b1 b2 V;obtain⟨a,rfl⟩:∃a:Nat,X=a:=⟨X.toNat,by omega⟩;have p0:=h.mach.procAt i n 0 j m (by omega);have p1:=h.mach.procAt i n 1 j m (by omega);simp only[aY,List.getElem?_cons_succ,List.getElem?_cons_zero,Nat.add_zero]at p0 p1;rw[S]at p0;rw[D]at p1;have c4:=aN p0;have c5:=aN E;obtain⟨f,r⟩:∃f,f=st.setProc i n (st.follow i n ((k:Int)+1)):=⟨_,rfl⟩;have p:Hid (oG i n rc (st,F)=if(mO F.bs i n op a rc f).1=-1 then(true,(mO F.bs i n op a rc f).2,F)else cK i n (mO F.bs i n op a rc f).1.toNat ((mO F.bs i n op a rc f).2,F)):=by
  show _=_
  unfold oG pU;simp only[V.out,D,Int.toNat_natCast];rw[←r]
 have z:Hid (Lk st f):=by rw[r];exact Lk.setProc _ _ _ _
 have Y:Hid (∀o,Below w.heap.size w (w.alloc o)):=fun o=>aG _ _
 have Z:Hid (∀W,Below w.heap.size w W→Calls Tryz.prog 212 #[.pointer (some ⟨d.pr i,n*6,none⟩),.int .i64 ((k:Int)+1)] W fun e w'=>e=.returned (.tuple #[])∧Mo w' d g f F∧aH (Dm d g st) W w'∧aH (·=d.pr i) W w'):=fun W b3=>by
  have G:=h.mono b3;refine(yJ d g st i n ((k:Int)+1) W G.mach G.lay j m).mono ?_;rintro e w' ⟨rfl,l,s⟩;have H:=G.setProc i n _ j s l;rw[←r]at H;exact⟨rfl,H.1,H.2,s⟩
 have b4:=C.now;have I:i<f.parts.length:=by rw[z.out.len];exact j
 have a0:n<(f.part i).procs.length:=by rw[r,(eK _ _ _ _).2.2];exact m
 have b5:Hid (f.now=st.now):=z.out.now;have c6:(k:Int)≤1000:=by have:=y.next.2.1;omega
 have b6:¬w.heap.size=d.pr i:=by have:=lt_of_block (h.mach.procs i j);omega
 have c7:=aI h;clear h S r C y Q;generalize (st.codeOf i n).length=len at *
 go_enter Tryz.func190,Tryz.ntmps190
 go_wp2_with fail
 go_region
 all_goals
  go_wp2_with fail
  refine(Z.out _ ((Y.out _).drew)).mono ?_;rintro e u ⟨rfl,J,a1,a2⟩;have L:u.heap[w.heap.size]?=some (.cells #[.int .i64 op,.int .i64 a] 210 (0,0)):=(a2.block _ (by simp[World.drew]) b6).trans (heap_alloc_new w _);have c8:u.cell? ⟨w.heap.size,0,none⟩=some (.int .i64 op):=aD L;have c9:u.cell? ⟨w.heap.size,1,none⟩=some (.int .i64 a):=aD L;have a3:=aI (Tt d g f F i n a rc u op J I a0 (by omega) (by rw[b5.out];exact b4) U);have b7:Hid (aH (Dm d g st) w u):=(aH.ofBelow ((Y.out _).drew)).andThen a1;have b8:=aI J;clear J a1 a2 L E T p0 p1 Z;go_wp2_with fail
  refine a3.out.mono ?_;rintro e a4 ⟨rfl,q,M⟩;have N:=Gr F.bs i n op a rc f;have A:=zD F.bs i n op a rc f;have a5:Hid (aH (Dm d g st) w a4):=b7.out.andThen (M.to (fun b O=>Dm.like z.out O));have a6:i<(mO F.bs i n op a rc f).2.parts.length:=by rw[Lk.len A];exact I
  have a7:n<((mO F.bs i n op a rc f).2.part i).procs.length:=by
   rw[Lk.procs A b8.out.ok q.ok i I];exact a0
  have a8:Hid (∀b,Dm d g (mO F.bs i n op a rc f).2 b→Dm d g st b):=fun b O=>Dm.like z.out (Dm.like A O)
  generalize mO F.bs i n op a rc f=b9 at *;obtain⟨v,c0⟩:=b9;simp only at q a6 a7 a8 p;have d0:-1≤v:=N.1;have d1:v<5:=N.2;clear N A a3
  by_cases P:v=-1
  ·subst P;rw[if_pos rfl]at p;have c1:=aI q;clear q M;go_wp2
   go_ret
   rw[p.out];exact⟨rfl,c1.out,a5.out⟩
  ·rw[if_neg P]at p;obtain⟨B,rfl⟩:∃B:Nat,v=B:=⟨v.toNat,by omega⟩;rw[Int.toNat_natCast]at p;have a9:=aI (qZ d g c0 F i n B (some ⟨d.pr i,n*6,none⟩) a4 q a6 a7 (by omega) (.inl rfl));rw[←p.out]at a9;have d2:((B:Int) == -1)=false:=by simp
   clear q M P p;go_wp2_with fail
   refine a9.out.mono ?_;rintro e d3 ⟨rfl,l,s⟩;have b0:=aI (And.intro l (a5.out.andThen (s.to a8.out)));clear l s;go_wp2
   go_ret
   exact⟨rfl,b0.out.1,b0.out.2⟩
def dI(i n:Nat)(st:aQ):(Int×Bool)×aQ:=
 if((dE st i n).1 == 7&&cZ st i (dE st i n).2)=true then
  (match st.queues.getD (dE st i n).2.toNat []with| []=>((0,false),st)| v::vs=>((v,true),{ st with queues:=st.queues.set (dE st i n).2.toNat vs }))
 else((0,true),st)
theorem Co(d:bN)(g:Nat)(st:aQ)(F:Fl)(i n:Nat)(w:World)(h:Mo w d g st F)(R:dY st)(r:i<st.parts.length)(C:n<(st.part i).procs.length)(T:(st.proc i n).stopped=false):
 Calls Tryz.prog 189 #[.pointer (some ⟨d.mb,0,none⟩),.pointer (some ⟨d.pb,i*14,none⟩),.pointer (some ⟨d.pr i,n*6,none⟩)] w fun e w'=>e=.returned (.tuple #[.int .i64 (dI i n st).1.1,.bool (dI i n st).1.2])∧Mo w' d g (dI i n st).2 F∧aH (Dm d g st) w w':=by
 have I:=R.proc i n r C;have d7:(st.proc i n).next<(st.codeOf i n).length:=by
  rcases I.next.2.2 with q| q
  ·rw[T]at q;cases q
  ·exact q
 obtain⟨k,a4⟩:∃k:Nat,(st.proc i n).next=k:=⟨(st.proc i n).next.toNat,by have:=I.next.1;omega⟩;have a5:k<(st.codeOf i n).length:=by omega
 obtain⟨x,c,J,G,L⟩:=vE h.mach i n k r C a5;obtain⟨c4,c5,U⟩:=sT h.ok i n k r C a5;have a6:Hid (dE st i n=(st.codeOf i n).getD k (0,0)):=by show _=_;unfold dE;rw[a4];rfl
 generalize (st.codeOf i n).getD k (0,0)=ins at *;obtain⟨op,a7⟩:=ins;simp only at G L c4 c5 U a6;obtain⟨a,rfl⟩:∃a:Nat,a7=a:=⟨a7.toNat,by omega⟩;have p0:=h.mach.procAt i n 0 r C (by omega);have p1:=h.mach.procAt i n 1 r C (by omega);simp only[aY,List.getElem?_cons_succ,List.getElem?_cons_zero,Nat.add_zero]at p0 p1;rw[J]at p0;rw[a4]at p1;have a8:=aN p0;have a9:=aN G;obtain⟨ι,d8,f,m,D⟩:=lA w;have b0:Hid (∃i,w.drew=f i):=D _ (Below.refl _ _).drew;have c6:Hid (∀j,∃k,(f j).drew=f k):=fun j=>D _ ((m j).drew)
 have l:Hid (∀j,Mo (f j) d g st F):=fun j=>h.mono (m j)
 have V:Hid (∀j,Below w.heap.size w (f j)):=m;have c7:∀j,(f j).cell? ⟨d.pr i,n*6,none⟩=some (.slice (some ⟨x,0,none⟩) (st.codeOf i n).length c):=fun j=>((m j).cell (p:=⟨d.pr i,n*6,none⟩) a8).trans p0
 have c8:∀j,(f j).cell? ⟨d.pr i,n*6+1,none⟩=some (.int .i64 k):=fun j=>((m j).cell (p:=⟨d.pr i,n*6+1,none⟩) a8).trans p1
 have d9:∀j,(f j).cell? ⟨x,k*2,none⟩=some (.int .i64 op):=fun j=>((m j).cell (p:=⟨x,k*2,none⟩) a9).trans G
 have c9:∀j,(f j).cell? ⟨x,k*2+1,none⟩=some (.int .i64 a):=fun j=>((m j).cell (p:=⟨x,k*2+1,none⟩) a9).trans L
 have M:Hid (∀j,Calls Tryz.prog 209 #[.pointer (some ⟨d.mb,0,none⟩),.pointer (some ⟨d.pb,i*14,none⟩),.agg #[.int .i64 op,.int .i64 a]] (f j) fun e w'=>e=.returned (.bool (op == 7&&cZ st i a))∧∃k,w'=f k):=fun j=>Calls.inClass m D j (sV d g st F i op a _ (l.out j) r)
 obtain⟨z,N⟩:∃z,z=dI i n st:=⟨_,rfl⟩;rw[←N];have A:Hid (z=if(op == 7&&cZ st i a)=true then(match st.queues.getD a []with| []=>((0,false),st)| v::O=>((v,true),{ st with queues:=st.queues.set a O }))else((0,true),st)):=by
  show _=_
  rw[N];unfold dI;rw[a6.out];simp only[Int.toNat_natCast]
 cases o:(op == 7&&cZ st i a)with
 | false=>
  rw[o]at M A;rw[if_neg (by decide)]at A;clear h N o J p0 p1 G L R I T m D U;generalize (st.codeOf i n).length=len at *
  go_enter Tryz.func189,Tryz.ntmps189
  go_wp2_with fail
  refine bV f (by kernel_rfl) (by kernel_rfl) b0.out ?_
  repeat (go_big_quiet_step (first| (go_at_call 209;with_reducible exact M.out _)))
  refine wpQuiet_nil ?_;rintro _ ⟨j,rfl⟩;go_wp2
  go_ret2
  rw[A.out];exact⟨rfl,l.out j,aH.ofBelow (V.out j)⟩
 | true=>
  rw[o]at M A;rw[if_pos rfl]at A;have X:cZ st i a=true:=by simp only[Bool.and_eq_true]at o;exact o.2
  have E:a<st.cf.chans.length:=by
   unfold cZ at X;simp only[decide_eq_true_eq]at X;omega
  have d0:Hid (∀j,Calls Tryz.prog 210 #[.agg #[.slice (some ⟨d.cb,0,none⟩) st.cf.chans.length st.cf.chans.length],.int .i64 a] (f j) fun e w'=>e=.returned (.pointer (some ⟨d.cb,a*3,none⟩))∧∃k,w'=f k):=fun j=>Calls.inClass m D j (sB d.cb _ a _ E)
  obtain⟨s,b1⟩:∃s,s=(st.cf.chans.getD a default).src:=⟨_,rfl⟩;obtain⟨u,b2⟩:∃u,u=(st.cf.chans.getD a default).dst:=⟨_,rfl⟩;obtain⟨S,P⟩:∃S:World→Prop,S=fun W=>W.cell? ⟨d.mb,5,none⟩=some (.slice (some ⟨d.cb,0,none⟩) st.cf.chans.length st.cf.chans.length)∧W.cell? ⟨d.pr i,n*6,none⟩=some (.slice (some ⟨x,0,none⟩) (st.codeOf i n).length c)∧W.cell? ⟨d.pr i,n*6+1,none⟩=some (.int .i64 k)∧W.cell? ⟨x,k*2+1,none⟩=some (.int .i64 a)∧W.cell? ⟨d.cb,a*3,none⟩=some (.int .i64 s)∧W.cell? ⟨d.cb,a*3+1,none⟩=some (.int .i64 u)∧W.cell? ⟨d.cb,a*3+2,none⟩=some (.chan (some (d.ch a))):=⟨_,rfl⟩
  have Y:Hid (∀W,S W→W.cell? ⟨d.mb,5,none⟩=some (.slice (some ⟨d.cb,0,none⟩) st.cf.chans.length st.cf.chans.length)∧W.cell? ⟨d.pr i,n*6,none⟩=some (.slice (some ⟨x,0,none⟩) (st.codeOf i n).length c)∧W.cell? ⟨d.pr i,n*6+1,none⟩=some (.int .i64 k)∧W.cell? ⟨x,k*2+1,none⟩=some (.int .i64 a)∧W.cell? ⟨d.cb,a*3,none⟩=some (.int .i64 s)∧W.cell? ⟨d.cb,a*3+1,none⟩=some (.int .i64 u)∧W.cell? ⟨d.cb,a*3+2,none⟩=some (.chan (some (d.ch a)))):=fun W h=>by rw[P]at h;exact h
  have Z:Hid (∀k,S (f k)):=fun k=>by
   rw[P];have b3:=(l.out k).mach.machAt 5;simp only[List.getElem?_toArray,List.getElem?_cons_succ,List.getElem?_cons_zero]at b3;have k0:=(l.out k).mach.chanC a 0 E (by omega);have a0:=(l.out k).mach.chanC a 1 E (by omega);have b4:=(l.out k).mach.chanC a 2 E (by omega);simp only[jS,List.getElem?_cons_succ,List.getElem?_cons_zero,Nat.add_zero]at k0 a0 b4;rw[←b1]at k0;rw[←b2]at a0;exact⟨b3,c7 k,c8 k,c9 k,k0,a0,b4⟩
  have b5:Hid (∀k,Calls Tryz.prog 211 #[.agg #[.int .i64 s,.int .i64 u,.chan (some (d.ch a))]] (f k) fun e w'=>e=.returned (.tuple #[.int .i64 z.1.1,.bool z.1.2])∧S w'∧Mo w' d g z.2 F∧aH (Dm d g st) w w'):=fun kk=>by
   obtain⟨a1,a2,H⟩:=(l.out kk).mach.queue a E;have b6:∀W,(∀b c t,(f kk).heap[b]?=some (Obj.cells c t (0,0))→W.heap[b]?=(f kk).heap[b]?)→S W:=fun W B=>by
    have y:=Z.out kk;rw[P]at y ⊢;obtain⟨cur,d1⟩:=cV ((l.out kk).mach.code i n r C) (by rw[J];rfl);have d2:(f kk).heap[x]?=some (.cells cur 210 (0,0)):=d1;exact⟨(World.cell?_of_block (B _ _ _ (l.out kk).mach.mach)).trans y.1,(World.cell?_of_block (B _ _ _ ((l.out kk).mach.procs i r))).trans y.2.1,(World.cell?_of_block (B _ _ _ ((l.out kk).mach.procs i r))).trans y.2.2.1,(World.cell?_of_block (B x _ _ d2)).trans y.2.2.2.1,(World.cell?_of_block (B _ _ _ (l.out kk).mach.chans)).trans y.2.2.2.2.1,(World.cell?_of_block (B _ _ _ (l.out kk).mach.chans)).trans y.2.2.2.2.2.1,(World.cell?_of_block (B _ _ _ (l.out kk).mach.chans)).trans y.2.2.2.2.2.2⟩
   rw[A.out];cases hqq:st.queues.getD a []with
   | nil=>
    rw[hqq]at H;refine(Cq (d.ch a) _ a1 a2 s u (f kk) H).mono ?_;rintro e w' ⟨rfl,q⟩;exact⟨rfl,b6 w' (fun b c t o=>q.block b (lt_of_block o)),(l.out kk).mono q,(aH.ofBelow (V.out kk)).andThen (aH.ofBelow q)⟩
   | cons v O=>
    rw[hqq]at H;refine(Cu (d.ch a) _ a1 a2 v (O.map (Value.int .i64)) s u (f kk) H).mono ?_;rintro e w' ⟨rfl,q,b7⟩;have b8:=(l.out kk).setQueue a E b7 O ⟨a1,a2+1,q⟩;exact⟨rfl,b6 w' (fun b c t o=>b7.block b (lt_of_block o) (fun e=>fX o H e)),b8.1,(aH.ofBelow (V.out kk)).andThen b8.2⟩
  obtain⟨⟨e0,e1⟩,e2⟩:=z;simp only at b5;clear h N o J p0 p1 G L R I T m D U b1 b2 P A X;generalize (st.codeOf i n).length=len at *;generalize st.cf.chans.length=Q at *
  go_enter Tryz.func189,Tryz.ntmps189
  go_wp2_with fail
  refine bV f (by kernel_rfl) (by kernel_rfl) b0.out ?_
  repeat (go_big_quiet_step (first| (go_at_call 209;with_reducible exact M.out _)))
  refine wpQuiet_nil ?_;rintro _ ⟨j,rfl⟩;obtain⟨b9,a3⟩:=c6.out j;have d3:=aI (Y.out _ (by rw[a3];exact Z.out b9:S (f j).drew));have d4:Hid (Calls Tryz.prog 210 #[.agg #[.slice (some ⟨d.cb,0,none⟩) Q Q],.int .i64 a] (f j).drew fun e w'=>e=.returned (.pointer (some ⟨d.cb,a*3,none⟩))∧∃k,w'=f k):=by rw[a3];exact d0.out b9
  clear a3;go_wp2_with fail
  go_region_held (fun W:World=>W.cell? ⟨d.mb,5,none⟩=some (.slice (some ⟨d.cb,0,none⟩) Q Q)∧W.cell? ⟨d.pr i,n*6,none⟩=some (.slice (some ⟨x,0,none⟩) len c)∧W.cell? ⟨d.pr i,n*6+1,none⟩=some (.int .i64 k)∧W.cell? ⟨x,k*2+1,none⟩=some (.int .i64 a)∧W.cell? ⟨d.cb,a*3,none⟩=some (.int .i64 s)∧W.cell? ⟨d.cb,a*3+1,none⟩=some (.int .i64 u)∧W.cell? ⟨d.cb,a*3+2,none⟩=some (.chan (some (d.ch a))))
   ((first| (with_reducible assumption)| (with_reducible exact d3.out)))
   (first
   | (go_at_call 210;refine d4.out.mono ?_;rintro e d5 ⟨rfl,d6,rfl⟩;have e3:=Y.out _ (Z.out d6))
   | (go_at_call 211;refine(b5.out _).mono ?_;rintro e d5 ⟨rfl,c0,c1,c2⟩;have e4:=Y.out _ c0))
  all_goals (
   have c3:=aI (And.intro c1 c2);clear c1 c2 c0;go_wp2
   go_ret2
   exact⟨rfl,c3.out.1,c3.out.2⟩)
end Go.Proofs.YtnjlbgolnbdkaaaGreat
