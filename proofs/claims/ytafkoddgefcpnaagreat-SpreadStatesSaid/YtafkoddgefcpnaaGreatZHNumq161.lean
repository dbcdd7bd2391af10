/- Texts of these claims, one after the other. -/
import Derived.Test.YtafkoddgefcpnaaGreatRows
import Derived.Test.YtafkoddgefcpnaaGreatZBSmallq159
import Derived.Test.YtafkoddgefcpnaaGreatZGBaseq14
namespace Go.Proofs.YtafkoddgefcpnaaGreat
open Go.RowKit

theorem Up.set6 {w0 w:World} {p:Nat} {v0 v1 v2 v3 v4 v5:Value} (h:Up w0 w) (hp:w0.heap.size≤p):Up w0 (((((((w.setCell ⟨p,0,none⟩ v0).setCell ⟨p,1,none⟩ v1).setCell ⟨p,2,none⟩ v2).setCell ⟨p,3,none⟩ v3).setCell ⟨p,4,none⟩ v4).setCell ⟨p,5,none⟩ v5)) :=
  ((((((h.setCell hp _).setCell hp _).setCell hp _).setCell hp _).setCell hp _).setCell hp _)
set_option maxHeartbeats 8000000 in
set_option maxRecDepth 100000 in
theorem whole8_up (n:Int) (hn:In n) (w:World) :
    Calls Tryz.prog 38 #[.int .i64 n] w fun e w'=>e=.returned (.agg #[.int .i64 n,.int .i64 1,.int .i64 n,.int .i64 1,.int .i64 n,.int .i64 1])∧Up w w':=by
  have H1:=Lib.hid (fun W=>rofr_up n W)
  have H2:=Lib.hid (fun W=>rbexact_up n 1 hn (by unfold In;omega) W)
  rw [valid_one n] at H2
  simp only [oz_yes] at H2
  clear hn
  go_enter Tryz.func38,Tryz.ntmps38
  go_wp2_with fail
  refine (H1.out _).mono ?_
  rintro e w1 ⟨rfl,hu⟩
  go_wp2_with fail
  refine (H2.out _).mono ?_
  rintro e w2 ⟨rfl,hu2⟩
  have hv:=hu.trans hu2
  have HU1:=Lib.hid (((Up.refl w).alloc #[.int .i64 0,.int .i64 0,.int .i64 0,.int .i64 0,.int .i64 0,.int .i64 0] 33).trans hv)
  have r0:=hv.keep (w.heap.size) 0 (.int .i64 0) (by simp [go_sem])
  have r1:=hv.keep (w.heap.size) 1 (.int .i64 0) (by simp [go_sem])
  have r2:=hv.keep (w.heap.size) 2 (.int .i64 0) (by simp [go_sem])
  have r3:=hv.keep (w.heap.size) 3 (.int .i64 0) (by simp [go_sem])
  have r4:=hv.keep (w.heap.size) 4 (.int .i64 0) (by simp [go_sem])
  have r5:=hv.keep (w.heap.size) 5 (.int .i64 0) (by simp [go_sem])
  have z0:=HU1.out.ownGe (g:=w.heap.size) (by omega) 0
  have z1:=HU1.out.ownGe (g:=w.heap.size) (by omega) 1
  have z2:=HU1.out.ownGe (g:=w.heap.size) (by omega) 2
  have z3:=HU1.out.ownGe (g:=w.heap.size) (by omega) 3
  have z4:=HU1.out.ownGe (g:=w.heap.size) (by omega) 4
  have z5:=HU1.out.ownGe (g:=w.heap.size) (by omega) 5
  clear hu hu2 hv
  go_wp2_with fail
  refine bodyPost_ret (v:=.agg #[.int .i64 n,.int .i64 1,.int .i64 n,.int .i64 1,.int .i64 n,.int .i64 1]) (by simp [results,Tryz.results38,go_sem,r0,r1,r2,r3,r4,r5]) rfl ⟨rfl,?_⟩
  exact HU1.out.set6 (by omega)

end Go.Proofs.YtafkoddgefcpnaaGreat

namespace Go.Proofs.YtafkoddgefcpnaaGreat
open Go.RowKit

theorem eqB6 (x0 x1 x2 x3 x4 x5:Int) (w:World):(Op.equalIn 10000 33 (.agg #[.int .i64 x0,.int .i64 x1,.int .i64 x2,.int .i64 x3,.int .i64 x4,.int .i64 x5]) (.agg #[.int .i64 x0,.int .i64 x1,.int .i64 x2,.int .i64 x3,.int .i64 x4,.int .i64 x5])).run Tryz.prog w=.ok true w:=by
  have qu:=Tryz.underlying2
  have qa:=Tryz.isAgg2
  have qz:=Tryz.sizeOf2
  have ru:=Tryz.underlying31
  have ra:=Tryz.isAgg31
  have rz:=Tryz.sizeOf31
  have e:∀ a b w,(Op.equalIn 9999 31 (.agg #[.int .i64 a,.int .i64 b]) (.agg #[.int .i64 a,.int .i64 b])).run Tryz.prog w=.ok true w:=fun a b w=>by
    rw [show (9999:Nat)=9998+1 from rfl,Op.equalIn]
    simp only [Sem.run_bind,run_underlying Tryz.underlying31,Result.andThen_ok]
    go_simp
  rw [show (10000:Nat)=9999+1 from rfl,Op.equalIn]
  simp only [Sem.run_bind,run_underlying Tryz.underlying33,Result.andThen_ok]
  go_simp
end Go.Proofs.YtafkoddgefcpnaaGreat
