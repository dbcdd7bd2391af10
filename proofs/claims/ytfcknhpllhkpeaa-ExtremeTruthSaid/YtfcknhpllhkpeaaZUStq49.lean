/- Texts of these claims, one after the other. -/
import Derived.Test.YtfcknhpllhkpeaaRows
import Derived.Test.YtfcknhpllhkpeaaZESqq26
import Derived.Test.YtfcknhpllhkpeaaZUMathq15
import Derived.Test.YtfcknhpllhkpeaaZUStq47
import Derived.Test.YtfcknhpllhkpeaaZUStq48
namespace Go.Proofs.Ytfcknhpllhkpeaa
open Go.RowKit
set_option linter.unusedVariables false

/-- Items at ticks from 0 to now, with values. -/
def okQ (now : Int) (M : List It) : Prop := ∀ x ∈ M, 0 ≤ x.1 ∧ x.1 ≤ now ∧ valueB x.2 = true
theorem okQ.later {now t : Int} {M : List It} (h : okQ now M) (hn : now ≤ t) : okQ t M := fun x hx => by have := h x hx; exact ⟨this.1, by omega, this.2.2⟩
theorem okQ.app {now : Int} {A B : List It} (h : okQ now A) (g : okQ now B) : okQ now (A ++ B) := fun x hx => (List.mem_append.1 hx).elim (h x) (g x)
theorem okQ.push {now x : Int} {M : List It} (h : okQ now M) (h0 : 0 ≤ now) (hx : valueB x = true) : okQ now (M ++ [(now, x)]) := h.app (fun y hy => by simp only [List.mem_singleton] at hy; subst hy; exact ⟨h0, Int.le_refl _, hx⟩)
theorem livL_cut {now v : Int} {M : List It} (hn : tickB now = true) (hv : winB v = true) (h : ∀ x ∈ M, 0 ≤ x.1 ∧ x.1 ≤ now) : livL M now v = M.filter (fun x => decide (now - v < x.1)) := by
  unfold livL
  refine List.filter_congr (fun x hx => ?_)
  have := h x hx
  rw [Bool.eq_iff_iff, liveB_iff hn hv, decide_eq_true_iff]
  exact ⟨fun q => q.2.1, fun q => ⟨this.1, q, this.2⟩⟩
/-- The deque of items. -/
def dqX (mx : Bool) (v now : Int) (M : List It) : List It := kpX mx (livL M now v)
theorem dqX_mem {mx : Bool} {v now : Int} {M : List It} {x : It} (h : x ∈ dqX mx v now M) : x ∈ M ∧ liveB now v x.1 = true := by
  have := (((kpX_kd mx (livL M now v)).2 x).1 h).1
  unfold livL at this
  exact List.mem_filter.1 this
theorem dqX_len {mx : Bool} {v now : Int} {M : List It} (hn : tickB now = true) (hv : winB v = true) : ((dqX mx v now M).length : Int) ≤ v := by
  by_cases h : dqX mx v now M = []
  · rw [h]
    have := of_decide_eq_true (show decide (1 ≤ v ∧ v ≤ 1048576) = true from hv)
    simp only [List.length_nil]
    omega
  · have := asc_count (a := now - v) (b := now) (kpX_kd mx (livL M now v)).1 (fun x hx => by
      have q := (liveB_iff hn hv).1 (dqX_mem hx).2
      exact ⟨q.2.1, q.2.2⟩) h
    have e : dqX mx v now M = kpX mx (livL M now v) := rfl
    rw [e]
    omega
theorem dqX_st {mx : Bool} {v c now : Int} {M : List It} (hm : mayB v c now = true) (ho : okQ now M) (hl : ((dqX mx v now M).length : Int) ≤ c) : stX mx v c now (dqX mx v now M) = true := by
  refine stX_of hm hl (fun x hx => ?_) (KdE.desc (kpX_kd mx (livL M now v)))
  have := dqX_mem hx
  exact ⟨this.2, (ho x this.1).2.2⟩
theorem dqX_adv {mx : Bool} {v now t : Int} {M : List It} (hn : tickB now = true) (ht : tickB t = true) (hv : winB v = true) (hnt : now ≤ t) (ho : okQ now M) : livL (dqX mx v now M) t v = dqX mx v t M := by
  have h1 : livL (dqX mx v now M) t v = (dqX mx v now M).filter (fun x => decide (t - v < x.1)) := livL_cut ht hv (fun x hx => by
    have := ho x (dqX_mem hx).1
    exact ⟨this.1, by omega⟩)
  have h2 : livL M t v = (livL M now v).filter (fun x => decide (t - v < x.1)) := by
    rw [livL_cut ht hv (fun x hx => ⟨(ho x hx).1, by have := (ho x hx).2.1; omega⟩), livL_cut hn hv (fun x hx => ⟨(ho x hx).1, (ho x hx).2.1⟩), List.filter_filter]
    refine List.filter_congr (fun x _ => ?_)
    rw [Bool.eq_iff_iff, Bool.and_eq_true, decide_eq_true_iff, decide_eq_true_iff]
    exact ⟨fun q => ⟨q, by omega⟩, fun q => q.1⟩
  rw [h1]
  show _ = kpX mx (livL M t v)
  rw [h2]
  exact (kpX_eq ((kpX_kd mx (livL M now v)).live (t - v))).symm
theorem livL_app (A B : List It) (now v : Int) : livL (A ++ B) now v = livL A now v ++ livL B now v := by unfold livL; rw [List.filter_append]
theorem dqX_add {mx : Bool} {v now x : Int} {M : List It} (hn : tickB now = true) (hv : winB v = true) (ho : okQ now M) : adE mx now x (dqX mx v now M) = dqX mx v now (M ++ [(now, x)]) := by
  have hl : liveB now v now = true := (liveB_iff hn hv).2 (by
    have a := of_decide_eq_true (show decide (0 ≤ now ∧ now ≤ 16777216) = true from hn)
    have b := of_decide_eq_true (show decide (1 ≤ v ∧ v ≤ 1048576) = true from hv)
    omega)
  have e : livL (M ++ [(now, x)]) now v = livL M now v ++ [(now, x)] := by
    rw [livL_app]
    congr 1
    unfold livL
    rw [List.filter_cons, if_pos hl]
    rfl
  show _ = kpX mx (livL (M ++ [(now, x)]) now v)
  rw [e]
  refine (kpX_eq ?_).symm
  have h0 := kpX_kd mx (livL M now v)
  have h1 : KdE mx (dqX mx v now M) (dqX mx v now M) := KdE.self h0.desc
  have h2 := h1.add (now := now) (v := x) (fun y hy => ((liveB_iff hn hv).1 (dqX_mem hy).2).2.2)
  exact (KdE.push (now, x) h0).1 h2
end Go.Proofs.Ytfcknhpllhkpeaa

namespace Go.Proofs.Ytfcknhpllhkpeaa
open Go.RowKit
set_option linter.unusedVariables false

/-- Merging the deques of two lists is the deque of both. -/
theorem dqX_mrg {mx : Bool} {v now : Int} (A B : List It) : kpX mx (dqX mx v now A ++ dqX mx v now B) = dqX mx v now (A ++ B) := by
  show _ = kpX mx (livL (A ++ B) now v)
  rw [livL_app]
  exact kpX_eq ((KdE.app (kpX_kd mx (livL A now v)) (kpX_kd mx (livL B now v))).2 (kpX_kd mx (livL A now v ++ livL B now v)))
end Go.Proofs.Ytfcknhpllhkpeaa
