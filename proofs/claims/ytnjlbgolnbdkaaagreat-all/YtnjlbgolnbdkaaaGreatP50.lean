/- All, with short names -/
import Derived.Test.YtnjlbgolnbdkaaaGreatP48
import Derived.Test.YtnjlbgolnbdkaaaGreatP49
set_option maxRecDepth 100000
set_option maxHeartbeats 16000000
namespace Go.Proofs.YtnjlbgolnbdkaaaGreat
open Go Go.RowKit
theorem Lg(b:Option Addr)(n cap:Nat)(zs:List Int)(c:Option Addr)(a d:Nat)(l:List Int)(f:Option Addr)(g i:Nat)(w:World)(m:gV w b n cap zs)(v:n≤140737488351232)(o:gV w c a d l)(x:a≤140737488351232)(p:qF w f g):
 Calls Tryz.prog 8 #[.slice b n cap,.slice c a d,.slice f g i] w fun e w'=>e=.returned (.bool true)∧Below w.heap.size w w':=by
 have q:=aI (Aq w);have r:Hid (∀W,Below w.heap.size w W→Calls Tryz.prog 14 #[.slice b n cap,.slice c a d,.slice f g i,.int .i64 8] W fun e w'=>e=.returned (.bool true)∧Below W.heap.size W w'):=fun W j=>Af 8 b n cap zs c a d l f g i W (p.keep (aH.ofBelow j)) (m.touch (aH.ofBelow (S:=fun _=>False) j) (fun _ _ _ h=>h)) v (o.touch (aH.ofBelow (S:=fun _=>False) j) (fun _ _ _ h=>h)) x
 clear m o p
 go_enter Tryz.func8,Tryz.ntmps8
 go_wp2_with fail
 refine q.out.mono ?_;rintro e y ⟨rfl,k⟩;have z:=aI (r.out y k);have s:=aI k;clear k r q;go_wp2_with fail
 refine z.out.mono ?_;rintro e A ⟨rfl,u⟩;have B:Hid (Below w.heap.size w A):=s.out.trans (u.mono s.out.size);clear u;go_wp2
 go_ret
 exact⟨rfl,B.out⟩
theorem Ip(b:Option Addr)(n cap:Nat)(zs:List Int)(c:Option Addr)(a d:Nat)(l:List Int)(f:Option Addr)(g i:Nat)(w:World)(m:gV w b n cap zs)(v:n≤140737488351232)(o:gV w c a d l)(x:a≤140737488351232)(p:qF w f g):
 Calls Tryz.prog 4 #[.slice b n cap,.slice c a d,.slice f g i] w fun e w'=>e=.returned (.bool true)∧Below w.heap.size w w':=by
 have q:=aI (Aq w);have r:Hid (∀W,Below w.heap.size w W→Calls Tryz.prog 14 #[.slice b n cap,.slice c a d,.slice f g i,.int .i64 5] W fun e w'=>e=.returned (.bool true)∧Below W.heap.size W w'):=fun W j=>Af 5 b n cap zs c a d l f g i W (p.keep (aH.ofBelow j)) (m.touch (aH.ofBelow (S:=fun _=>False) j) (fun _ _ _ h=>h)) v (o.touch (aH.ofBelow (S:=fun _=>False) j) (fun _ _ _ h=>h)) x
 clear m o p
 go_enter Tryz.func4,Tryz.ntmps4
 go_wp2_with fail
 refine q.out.mono ?_;rintro e y ⟨rfl,k⟩;have z:=aI (r.out y k);have s:=aI k;clear k r q;go_wp2_with fail
 refine z.out.mono ?_;rintro e A ⟨rfl,u⟩;have B:Hid (Below w.heap.size w A):=s.out.trans (u.mono s.out.size);clear u;go_wp2
 go_ret
 exact⟨rfl,B.out⟩
end Go.Proofs.YtnjlbgolnbdkaaaGreat
