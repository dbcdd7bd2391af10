/- Texts of these claims, one after the other. -/
import Derived.Test.YtafkoddgefcpnaaRows
import Derived.Test.YtafkoddgefcpnaaZKPruq168
import Derived.Test.YtafkoddgefcpnaaZKValq177
namespace Go.Proofs.Ytafkoddgefcpnaa
open Go.RowKit
set_option linter.unusedVariables false

theorem keepK16 {w w1 w2 : World} {b0 o0 b1 o1 b2 o2 b3 o3 b4 o4 b5 o5 b6 o6 b7 o7 b8 o8 b9 o9 b10 o10 b11 o11 b12 o12 b13 o13 b14 o14 b15 o15 : Nat} {x0 x1 x2 x3 x4 x5 x6 x7 x8 x9 x10 x11 x12 x13 x14 x15 : Value} (hu : Hid (Up w1 w2)) (h : Up w w1 ∧ w1.cell? ⟨b0, o0, none⟩ = some x0 ∧ w1.cell? ⟨b1, o1, none⟩ = some x1 ∧ w1.cell? ⟨b2, o2, none⟩ = some x2 ∧ w1.cell? ⟨b3, o3, none⟩ = some x3 ∧ w1.cell? ⟨b4, o4, none⟩ = some x4 ∧ w1.cell? ⟨b5, o5, none⟩ = some x5 ∧ w1.cell? ⟨b6, o6, none⟩ = some x6 ∧ w1.cell? ⟨b7, o7, none⟩ = some x7 ∧ w1.cell? ⟨b8, o8, none⟩ = some x8 ∧ w1.cell? ⟨b9, o9, none⟩ = some x9 ∧ w1.cell? ⟨b10, o10, none⟩ = some x10 ∧ w1.cell? ⟨b11, o11, none⟩ = some x11 ∧ w1.cell? ⟨b12, o12, none⟩ = some x12 ∧ w1.cell? ⟨b13, o13, none⟩ = some x13 ∧ w1.cell? ⟨b14, o14, none⟩ = some x14 ∧ w1.cell? ⟨b15, o15, none⟩ = some x15) : Up w w2 ∧ w2.cell? ⟨b0, o0, none⟩ = some x0 ∧ w2.cell? ⟨b1, o1, none⟩ = some x1 ∧ w2.cell? ⟨b2, o2, none⟩ = some x2 ∧ w2.cell? ⟨b3, o3, none⟩ = some x3 ∧ w2.cell? ⟨b4, o4, none⟩ = some x4 ∧ w2.cell? ⟨b5, o5, none⟩ = some x5 ∧ w2.cell? ⟨b6, o6, none⟩ = some x6 ∧ w2.cell? ⟨b7, o7, none⟩ = some x7 ∧ w2.cell? ⟨b8, o8, none⟩ = some x8 ∧ w2.cell? ⟨b9, o9, none⟩ = some x9 ∧ w2.cell? ⟨b10, o10, none⟩ = some x10 ∧ w2.cell? ⟨b11, o11, none⟩ = some x11 ∧ w2.cell? ⟨b12, o12, none⟩ = some x12 ∧ w2.cell? ⟨b13, o13, none⟩ = some x13 ∧ w2.cell? ⟨b14, o14, none⟩ = some x14 ∧ w2.cell? ⟨b15, o15, none⟩ = some x15 :=
  ⟨h.1.trans hu.out, hu.out.keep _ _ _ h.2.1, hu.out.keep _ _ _ h.2.2.1, hu.out.keep _ _ _ h.2.2.2.1, hu.out.keep _ _ _ h.2.2.2.2.1, hu.out.keep _ _ _ h.2.2.2.2.2.1, hu.out.keep _ _ _ h.2.2.2.2.2.2.1, hu.out.keep _ _ _ h.2.2.2.2.2.2.2.1, hu.out.keep _ _ _ h.2.2.2.2.2.2.2.2.1, hu.out.keep _ _ _ h.2.2.2.2.2.2.2.2.2.1, hu.out.keep _ _ _ h.2.2.2.2.2.2.2.2.2.2.1, hu.out.keep _ _ _ h.2.2.2.2.2.2.2.2.2.2.2.1, hu.out.keep _ _ _ h.2.2.2.2.2.2.2.2.2.2.2.2.1, hu.out.keep _ _ _ h.2.2.2.2.2.2.2.2.2.2.2.2.2.1, hu.out.keep _ _ _ h.2.2.2.2.2.2.2.2.2.2.2.2.2.2.1, hu.out.keep _ _ _ h.2.2.2.2.2.2.2.2.2.2.2.2.2.2.2.1, hu.out.keep _ _ _ h.2.2.2.2.2.2.2.2.2.2.2.2.2.2.2.2⟩
end Go.Proofs.Ytafkoddgefcpnaa

namespace Go.Proofs.Ytafkoddgefcpnaa
open Go.RowKit
set_option linter.unusedVariables false

theorem mayM_form2 (g v q c now : Int) : mayM g v q c now = (agB g && (mayB v c now && decide (1 ≤ q ∧ q ≤ 64))) := rfl
end Go.Proofs.Ytafkoddgefcpnaa

namespace Go.Proofs.Ytafkoddgefcpnaa
open Go.RowKit
set_option linter.unusedVariables false

def mg (m : Mrk) : Value := .agg #[.int .i64 m.sq, .int .i64 m.t, .int .i64 m.n, .int .i64 m.s, .int .i64 m.q, .int .i64 m.lo, .int .i64 m.hi]
/-- The marks between whose aggregates that of the live items lies. -/
def enM (now v : Int) : List Mrk → Mrk × Mrk
  | [] => (mk0, mk0)
  | [a] => (a, a)
  | a :: b :: _ => if liveB now v a.t = true then (a, a) else if b.sq = a.sq + 1 then (b, b) else (b, a)

end Go.Proofs.Ytafkoddgefcpnaa

namespace Go.Proofs.Ytafkoddgefcpnaa
open Go.RowKit
set_option linter.unusedVariables false

theorem set7K7 {w w1 : World} {p pa : Nat} {x0 x1 x2 x3 x4 x5 x6 v0 v1 v2 v3 v4 v5 v6 : Value} (h : Up w w1 ∧ w1.cell? ⟨pa, 0, none⟩ = some x0 ∧ w1.cell? ⟨pa, 1, none⟩ = some x1 ∧ w1.cell? ⟨pa, 2, none⟩ = some x2 ∧ w1.cell? ⟨pa, 3, none⟩ = some x3 ∧ w1.cell? ⟨pa, 4, none⟩ = some x4 ∧ w1.cell? ⟨pa, 5, none⟩ = some x5 ∧ w1.cell? ⟨pa, 6, none⟩ = some x6) (hp : w.heap.size ≤ p) (ha : p ≠ pa) : Up w (((((((w1.setCell ⟨p, 0, none⟩ (v0)).setCell ⟨p, 1, none⟩ (v1)).setCell ⟨p, 2, none⟩ (v2)).setCell ⟨p, 3, none⟩ (v3)).setCell ⟨p, 4, none⟩ (v4)).setCell ⟨p, 5, none⟩ (v5)).setCell ⟨p, 6, none⟩ (v6)) ∧ (((((((w1.setCell ⟨p, 0, none⟩ (v0)).setCell ⟨p, 1, none⟩ (v1)).setCell ⟨p, 2, none⟩ (v2)).setCell ⟨p, 3, none⟩ (v3)).setCell ⟨p, 4, none⟩ (v4)).setCell ⟨p, 5, none⟩ (v5)).setCell ⟨p, 6, none⟩ (v6)).cell? ⟨pa, 0, none⟩ = some x0 ∧ (((((((w1.setCell ⟨p, 0, none⟩ (v0)).setCell ⟨p, 1, none⟩ (v1)).setCell ⟨p, 2, none⟩ (v2)).setCell ⟨p, 3, none⟩ (v3)).setCell ⟨p, 4, none⟩ (v4)).setCell ⟨p, 5, none⟩ (v5)).setCell ⟨p, 6, none⟩ (v6)).cell? ⟨pa, 1, none⟩ = some x1 ∧ (((((((w1.setCell ⟨p, 0, none⟩ (v0)).setCell ⟨p, 1, none⟩ (v1)).setCell ⟨p, 2, none⟩ (v2)).setCell ⟨p, 3, none⟩ (v3)).setCell ⟨p, 4, none⟩ (v4)).setCell ⟨p, 5, none⟩ (v5)).setCell ⟨p, 6, none⟩ (v6)).cell? ⟨pa, 2, none⟩ = some x2 ∧ (((((((w1.setCell ⟨p, 0, none⟩ (v0)).setCell ⟨p, 1, none⟩ (v1)).setCell ⟨p, 2, none⟩ (v2)).setCell ⟨p, 3, none⟩ (v3)).setCell ⟨p, 4, none⟩ (v4)).setCell ⟨p, 5, none⟩ (v5)).setCell ⟨p, 6, none⟩ (v6)).cell? ⟨pa, 3, none⟩ = some x3 ∧ (((((((w1.setCell ⟨p, 0, none⟩ (v0)).setCell ⟨p, 1, none⟩ (v1)).setCell ⟨p, 2, none⟩ (v2)).setCell ⟨p, 3, none⟩ (v3)).setCell ⟨p, 4, none⟩ (v4)).setCell ⟨p, 5, none⟩ (v5)).setCell ⟨p, 6, none⟩ (v6)).cell? ⟨pa, 4, none⟩ = some x4 ∧ (((((((w1.setCell ⟨p, 0, none⟩ (v0)).setCell ⟨p, 1, none⟩ (v1)).setCell ⟨p, 2, none⟩ (v2)).setCell ⟨p, 3, none⟩ (v3)).setCell ⟨p, 4, none⟩ (v4)).setCell ⟨p, 5, none⟩ (v5)).setCell ⟨p, 6, none⟩ (v6)).cell? ⟨pa, 5, none⟩ = some x5 ∧ (((((((w1.setCell ⟨p, 0, none⟩ (v0)).setCell ⟨p, 1, none⟩ (v1)).setCell ⟨p, 2, none⟩ (v2)).setCell ⟨p, 3, none⟩ (v3)).setCell ⟨p, 4, none⟩ (v4)).setCell ⟨p, 5, none⟩ (v5)).setCell ⟨p, 6, none⟩ (v6)).cell? ⟨pa, 6, none⟩ = some x6 :=
  ⟨h.1.set7 hp, far7 h.2.1 ha, far7 h.2.2.1 ha, far7 h.2.2.2.1 ha, far7 h.2.2.2.2.1 ha, far7 h.2.2.2.2.2.1 ha, far7 h.2.2.2.2.2.2.1 ha, far7 h.2.2.2.2.2.2.2 ha⟩

end Go.Proofs.Ytafkoddgefcpnaa
