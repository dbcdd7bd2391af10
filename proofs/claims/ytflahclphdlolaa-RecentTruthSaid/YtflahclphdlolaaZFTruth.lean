/- The state of RecentTruth is valid. -/
import Derived.Test.YtflahclphdlolaaZCClock
import Derived.Test.YtflahclphdlolaaZELive
import Derived.Test.YtflahclphdlolaaZELive2
import Derived.Test.YtflahclphdlolaaZFBase
import Derived.Test.YtflahclphdlolaaZFMade
import Derived.Test.YtflahclphdlolaaZFState
import Derived.Test.YtflahclphdlolaaZG0a
import Derived.Test.YtflahclphdlolaaZG2a
namespace Go.Proofs.Ytflahclphdlolaa
open Go.RowKit

theorem md_state {M : List It} {z v : Int} (h : mdP M z) (hl : M.length ≤ 60) (h1 : 1 ≤ v) (h2 : v ≤ 20) (hne : 0 < M.length) :
    0 ≤ (M.getD (M.length - 1) (0, 0)).1 ∧ (M.getD (M.length - 1) (0, 0)).1 ≤ 2460 ∧ stB v 60 (M.getD (M.length - 1) (0, 0)).1 (mlL M (M.getD (M.length - 1) (0, 0)).1 v) = true := by
  obtain ⟨_, hz, hp⟩ := h
  have hlast := hp (M.length - 1) (by omega)
  have hasc := asc_all (fun j hj h0 => (hp j hj).2.2.1 h0)
  generalize ht : (M.getD (M.length - 1) (0, 0)).1 = t at *
  have htk : tickB t = true := tickB_yes hlast.1 (by omega)
  have hw : winB v = true := winB_yes h1 (by omega)
  have hv : valB M t = true := valB_good htk (fun j hj => by
    have g := hp j hj
    refine ⟨g.1, ?_, g.2.2.1⟩
    have := hasc (M.length - 1 - j) j (by omega)
    rw [show j + (M.length - 1 - j) = M.length - 1 by omega, ht] at this
    exact this)
  refine ⟨hlast.1, by omega, ?_⟩
  rw [mlL_live htk hw hv]
  obtain ⟨a, b, d⟩ := val_iff.1 hv
  refine stB_yes ?_ ?_ ?_ ?_
  · unfold mayB; rw [htk, hw, decide_eq_true (show (1 : Int) ≤ 60 ∧ (60 : Int) ≤ 65536 by omega)]; rfl
  · have := livL_len M t v; omega
  · exact val_iff.2 ⟨htk, fun x hx => b x (List.mem_filter.1 hx).1, d.filter _⟩
  · refine ok_iff.2 (fun x hx => ⟨(List.mem_filter.1 hx).2, ?_⟩)
    obtain ⟨j, hj, rfl⟩ := List.mem_iff_getElem.1 (List.mem_filter.1 hx).1
    rw [← getD_at hj]
    exact (hp j hj).2.2.2

theorem keep17 {w w1 w2 : World} {b0 o0 b1 o1 b2 o2 b3 o3 b4 o4 b5 o5 b6 o6 b7 o7 b8 o8 b9 o9 b10 o10 b11 o11 b12 o12 b13 o13 b14 o14 b15 o15 b16 o16 : Nat} {x0 x1 x2 x3 x4 x5 x6 x7 x8 x9 x10 x11 x12 x13 x14 x15 x16 : Value} (hu : Hid (Up w1 w2)) (h : Up w w1 ∧ w1.cell? ⟨b0, o0, none⟩ = some x0 ∧ w1.cell? ⟨b1, o1, none⟩ = some x1 ∧ w1.cell? ⟨b2, o2, none⟩ = some x2 ∧ w1.cell? ⟨b3, o3, none⟩ = some x3 ∧ w1.cell? ⟨b4, o4, none⟩ = some x4 ∧ w1.cell? ⟨b5, o5, none⟩ = some x5 ∧ w1.cell? ⟨b6, o6, none⟩ = some x6 ∧ w1.cell? ⟨b7, o7, none⟩ = some x7 ∧ w1.cell? ⟨b8, o8, none⟩ = some x8 ∧ w1.cell? ⟨b9, o9, none⟩ = some x9 ∧ w1.cell? ⟨b10, o10, none⟩ = some x10 ∧ w1.cell? ⟨b11, o11, none⟩ = some x11 ∧ w1.cell? ⟨b12, o12, none⟩ = some x12 ∧ w1.cell? ⟨b13, o13, none⟩ = some x13 ∧ w1.cell? ⟨b14, o14, none⟩ = some x14 ∧ w1.cell? ⟨b15, o15, none⟩ = some x15 ∧ w1.cell? ⟨b16, o16, none⟩ = some x16) : Up w w2 ∧ w2.cell? ⟨b0, o0, none⟩ = some x0 ∧ w2.cell? ⟨b1, o1, none⟩ = some x1 ∧ w2.cell? ⟨b2, o2, none⟩ = some x2 ∧ w2.cell? ⟨b3, o3, none⟩ = some x3 ∧ w2.cell? ⟨b4, o4, none⟩ = some x4 ∧ w2.cell? ⟨b5, o5, none⟩ = some x5 ∧ w2.cell? ⟨b6, o6, none⟩ = some x6 ∧ w2.cell? ⟨b7, o7, none⟩ = some x7 ∧ w2.cell? ⟨b8, o8, none⟩ = some x8 ∧ w2.cell? ⟨b9, o9, none⟩ = some x9 ∧ w2.cell? ⟨b10, o10, none⟩ = some x10 ∧ w2.cell? ⟨b11, o11, none⟩ = some x11 ∧ w2.cell? ⟨b12, o12, none⟩ = some x12 ∧ w2.cell? ⟨b13, o13, none⟩ = some x13 ∧ w2.cell? ⟨b14, o14, none⟩ = some x14 ∧ w2.cell? ⟨b15, o15, none⟩ = some x15 ∧ w2.cell? ⟨b16, o16, none⟩ = some x16 :=
  ⟨h.1.trans hu.out, hu.out.keep _ _ _ h.2.1, hu.out.keep _ _ _ h.2.2.1, hu.out.keep _ _ _ h.2.2.2.1, hu.out.keep _ _ _ h.2.2.2.2.1, hu.out.keep _ _ _ h.2.2.2.2.2.1, hu.out.keep _ _ _ h.2.2.2.2.2.2.1, hu.out.keep _ _ _ h.2.2.2.2.2.2.2.1, hu.out.keep _ _ _ h.2.2.2.2.2.2.2.2.1, hu.out.keep _ _ _ h.2.2.2.2.2.2.2.2.2.1, hu.out.keep _ _ _ h.2.2.2.2.2.2.2.2.2.2.1, hu.out.keep _ _ _ h.2.2.2.2.2.2.2.2.2.2.2.1, hu.out.keep _ _ _ h.2.2.2.2.2.2.2.2.2.2.2.2.1, hu.out.keep _ _ _ h.2.2.2.2.2.2.2.2.2.2.2.2.2.1, hu.out.keep _ _ _ h.2.2.2.2.2.2.2.2.2.2.2.2.2.2.1, hu.out.keep _ _ _ h.2.2.2.2.2.2.2.2.2.2.2.2.2.2.2.1, hu.out.keep _ _ _ h.2.2.2.2.2.2.2.2.2.2.2.2.2.2.2.2.1, hu.out.keep _ _ _ h.2.2.2.2.2.2.2.2.2.2.2.2.2.2.2.2.2⟩
end Go.Proofs.Ytflahclphdlolaa
