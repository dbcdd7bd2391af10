/- Equal lists of marks, equal states of smooth histograms. -/
import Derived.Test.YtafkoddgefcpnaaGreatRows
import Derived.Test.YtafkoddgefcpnaaGreatZKMemq70
import Derived.Test.YtafkoddgefcpnaaGreatZKRowq62
namespace Go.Proofs.YtafkoddgefcpnaaGreat
open Go.RowKit
set_option linter.unusedVariables false

set_option maxHeartbeats 4000000 in
set_option maxRecDepth 100000 in
theorem eqMark (sq t nn s qq lo hi:Int) (w:World):(Op.equalIn 10000 56 (.agg #[.int .i64 sq,.int .i64 t,.int .i64 nn,.int .i64 s,.int .i64 qq,.int .i64 lo,.int .i64 hi]) (.agg #[.int .i64 sq,.int .i64 t,.int .i64 nn,.int .i64 s,.int .i64 qq,.int .i64 lo,.int .i64 hi])).run Tryz.prog w=.ok true w:=by
  have qu:=Tryz.underlying2
  have qa:=Tryz.isAgg2
  have qz:=Tryz.sizeOf2
  rw [show (10000:Nat)=9999+1 from rfl,Op.equalIn]
  simp only [Sem.run_bind,run_underlying Tryz.underlying56,Result.andThen_ok]
  go_simp

set_option maxHeartbeats 4000000 in
set_option maxRecDepth 100000 in
theorem sameM_t (n k q:Nat) (A B:Option Addr) (L:List Mrk) (hn:n≤1000000) (w:World) (hA:SG cM w A n L) (hB:SG cM w B n L) :
    Calls Tryz.prog 46 #[.slice A n k,.slice B n q] w fun e w'=>e=.returned (.bool true)∧Up w w':=by
  have HA:=Lib.hid hA
  have HB:=Lib.hid hB
  clear hA hB
  have t1:((n:Int) != (n:Int))=false:=by simp
  go_enter Tryz.func46,Tryz.ntmps46
  go_wp2
  go_loopw [13] (fun t wr=>∃ i:Nat,t=.int .i64 i∧i≤n∧Hid (Up w wr)) (fun t _=>n - (intOf t).toNat)
  case atStart=>exact ⟨0,rfl,Nat.zero_le _,Lib.hid (Up.refl _)⟩
  case round =>
    obtain ⟨i,rfl,i2,HU⟩:=hrel
    by_cases hlt:i<n
    · obtain ⟨b,o,rfl,d0,d1,d2,d3,d4,d5,d6⟩:=mrk_at (HA.out.up HU.out) mk0 hlt
      obtain ⟨b',o',rfl,d7,d8,d9,d10,d11,d12,d13⟩:=mrk_at (HB.out.up HU.out) mk0 hlt
      generalize L.getD i mk0=M at *
      obtain ⟨sq,t,nn,s,qq,lo,hi⟩:=M
      simp only at d0 d1 d2 d3 d4 d5 d6 d7 d8 d9 d10 d11 d12 d13
      have f2:(i:Int)<n:=by omega
      have f3:(0:Int)≤i:=by omega
      have qe:=eqMark sq t nn s qq lo hi
      go_wp2
      go_quiet (fail)
      go_wp2
      go_roundw
      case rel=>exact ⟨i+1,by go_num,by omega,Lib.hid (HU.out.drewN _)⟩
      case measure=>simp [intOf];omega
    · go_wp2
      go_ret
      exact ⟨rfl,HU.out⟩

end Go.Proofs.YtafkoddgefcpnaaGreat
