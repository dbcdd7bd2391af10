/- The states that Advance and Add lead to are valid; where RecentRuns is. -/
import Derived.Test.YtflahclphdlolaaZCClock
import Derived.Test.YtflahclphdlolaaZELive
import Derived.Test.YtflahclphdlolaaZELive2
import Derived.Test.YtflahclphdlolaaZFAdd
import Derived.Test.YtflahclphdlolaaZFAdv
import Derived.Test.YtflahclphdlolaaZFBase
import Derived.Test.YtflahclphdlolaaZG0a
import Derived.Test.YtflahclphdlolaaZG2a
import Derived.Test.YtflahclphdlolaaZG4a
namespace Go.Proofs.Ytflahclphdlolaa
open Go.RowKit

theorem getD_mem {L : List It} {j : Nat} (h : j < L.length) : L.getD j (0, 0) ∈ L := by simp [List.getD, h]
theorem getD_at {L : List It} {j : Nat} (h : j < L.length) : L.getD j (0, 0) = L[j] := by simp [List.getD, h]
theorem asc_all {L : List It} (h : ∀ j, j < L.length → 0 < j → (L.getD (j - 1) (0, 0)).1 ≤ (L.getD j (0, 0)).1) : ∀ d i, i + d < L.length → (L.getD i (0, 0)).1 ≤ (L.getD (i + d) (0, 0)).1 := by
  intro d
  induction d with
  | zero => intro i _; exact Int.le_refl _
  | succ d ih =>
    intro i hi
    have h1 := ih i (by omega)
    have h2 := h (i + (d + 1)) hi (by omega)
    rw [show i + (d + 1) - 1 = i + d by omega] at h2
    omega
theorem val_iff {L : List It} {now : Int} : valB L now = true ↔ tickB now = true ∧ (∀ x ∈ L, 0 ≤ x.1 ∧ x.1 ≤ now) ∧ L.Pairwise (fun x y => x.1 ≤ y.1) := by
  unfold valB
  rw [Bool.and_eq_true, decide_eq_true_eq]
  constructor
  · rintro ⟨h1, h2⟩
    refine ⟨h1, fun x hx => ?_, ?_⟩
    · obtain ⟨j, hj, rfl⟩ := List.mem_iff_getElem.1 hx
      have g := h2 j hj
      rw [← getD_at hj]
      exact ⟨g.1, g.2.1⟩
    · rw [List.pairwise_iff_getElem]
      intro i j hi hj hij
      have g := asc_all (fun j hj h0 => (h2 j hj).2.2 h0) (j - i) i (by omega)
      rw [show i + (j - i) = j by omega, getD_at hi, getD_at hj] at g
      exact g
  · rintro ⟨h1, h2, h3⟩
    refine ⟨h1, fun j hj => ⟨(h2 _ (getD_mem hj)).1, (h2 _ (getD_mem hj)).2, fun h0 => ?_⟩⟩
    rw [getD_at hj, getD_at (show j - 1 < L.length by omega)]
    exact List.pairwise_iff_getElem.1 h3 (j - 1) j (by omega) hj (by omega)
theorem ok_iff {L : List It} {now v : Int} : okB now v L = true ↔ ∀ x ∈ L, liveB now v x.1 = true ∧ valueB x.2 = true := by
  unfold okB okI
  rw [decide_eq_true_eq]
  constructor
  · intro h x hx
    obtain ⟨j, hj, rfl⟩ := List.mem_iff_getElem.1 hx
    rw [← getD_at hj]
    exact h j hj
  · intro h j hj
    exact h _ (getD_mem hj)
theorem adv_state {L : List It} {v c now z : Int} (h : stB v c now L = true) (h1 : now ≤ z) (h2 : z ≤ 16777216) : livE L z v = livL L z v ∧ stB v c z (livE L z v) = true ∧ valB L z = true := by
  have g := stB_true h
  obtain ⟨m1, m2, m3, m4⟩ := mayB_true g.1
  have hz : tickB z = true := tickB_yes (by have := tickB_true m1; omega) h2
  have hvz : valB L z = true := by
    obtain ⟨a, b, d⟩ := val_iff.1 g.2.2.1
    exact val_iff.2 ⟨hz, fun x hx => ⟨(b x hx).1, by have := (b x hx).2; omega⟩, d⟩
  have e : livE L z v = livL L z v := by unfold livE; rw [hvz, m2]; rfl
  obtain ⟨a, b, d⟩ := val_iff.1 hvz
  have hok := ok_iff.1 g.2.2.2
  refine ⟨e, ?_, hvz⟩
  rw [e]
  refine stB_yes ?_ ?_ ?_ ?_
  · unfold mayB; rw [hz, m2, decide_eq_true ⟨m3, m4⟩]; rfl
  · have := livL_len L z v; have := g.2.1; omega
  · exact val_iff.2 ⟨hz, fun x hx => b x (List.mem_filter.1 hx).1, d.filter _⟩
  · exact ok_iff.2 (fun x hx => ⟨(List.mem_filter.1 hx).2, (hok x (List.mem_filter.1 hx).1).2⟩)
theorem add_state {L : List It} {v c now x : Int} (h : stB v c now L = true) (hx : valueB x = true) (hn : (L.length : Int) ≠ c) : stB v c now (L ++ [(now, x)]) = true := by
  have g := stB_true h
  obtain ⟨m1, m2, m3, m4⟩ := mayB_true g.1
  have ht := tickB_true m1
  obtain ⟨a, b, d⟩ := val_iff.1 g.2.2.1
  refine stB_yes g.1 ?_ (val_iff.2 ⟨a, ?_, ?_⟩) (ok_iff.2 ?_)
  · rw [List.length_append]; have := g.2.1; simp only [List.length_cons, List.length_nil]; omega
  · intro y hy
    rcases List.mem_append.1 hy with hy | hy
    · exact b y hy
    · simp only [List.mem_singleton] at hy; subst hy; exact ⟨ht.1, Int.le_refl _⟩
  · rw [List.pairwise_append]
    refine ⟨d, List.pairwise_singleton _ _, ?_⟩
    intro y hy z hz
    simp only [List.mem_singleton] at hz
    subst hz
    exact (b y hy).2
  · intro y hy
    rcases List.mem_append.1 hy with hy | hy
    · exact ok_iff.1 g.2.2.2 y hy
    · simp only [List.mem_singleton] at hy; subst hy
      refine ⟨?_, hx⟩
      have hb : (tickB now && winB v) = true := by rw [m1, m2]; rfl
      rw [liveB_yes hb, firZ_yes hb]
      have := winB_true m2
      simp only [Bool.and_eq_true, decide_eq_true_eq]
      exact ⟨by omega, Int.le_refl _⟩

/-- Where a walk over RecentRuns is: the state behind its variable in block p, and the plain list. -/
def Rn (w wr : World) (p : Nat) (v c : Int) (Am : Option Addr) (nm : Nat) (M : List It) (i : Nat) (s : Value) : Prop :=
  ∃ (now : Int) (K : List It) (A B : Option Addr) (k kb : Nat), s = .slice B K.length kb ∧ K.length ≤ k ∧ Sl wr A K.length K ∧ Sl wr B K.length K ∧ Sl wr Am nm M ∧ stB v c now K = true ∧ (i < nm → now ≤ (M.getD i (0, 0)).1) ∧
    wr.cell? ⟨p, 0, none⟩ = some (.int .i64 v) ∧ wr.cell? ⟨p, 1, none⟩ = some (.int .i64 c) ∧ wr.cell? ⟨p, 2, none⟩ = some (.int .i64 now) ∧ wr.cell? ⟨p, 3, none⟩ = some (.slice A K.length k) ∧ Up w wr ∧ (∀ b o, B = some ⟨b, o, none⟩ → b ≠ p)
theorem Nw.off {w : World} {A : Option Addr} {p : Nat} (h : Nw w A) (hp : p < w.heap.size) : ∀ b o, A = some ⟨b, o, none⟩ → b ≠ p := fun b o e => by have := h b o e; omega
/-- The cells of a variable behind a store of all four. -/
theorem cells4 {w : World} {p : Nat} {v0 v1 v2 v3 x0 x1 x2 x3 : Value} (e0 : w.cell? ⟨p, 0, none⟩ = some x0) (e1 : w.cell? ⟨p, 1, none⟩ = some x1) (e2 : w.cell? ⟨p, 2, none⟩ = some x2) (e3 : w.cell? ⟨p, 3, none⟩ = some x3) :
    let W := (((w.setCell ⟨p, 0, none⟩ v0).setCell ⟨p, 1, none⟩ v1).setCell ⟨p, 2, none⟩ v2).setCell ⟨p, 3, none⟩ v3
    W.cell? ⟨p, 0, none⟩ = some v0 ∧ W.cell? ⟨p, 1, none⟩ = some v1 ∧ W.cell? ⟨p, 2, none⟩ = some v2 ∧ W.cell? ⟨p, 3, none⟩ = some v3 :=
  ⟨cell_set (cell_set (cell_set (cell_set e0))), cell_set (cell_set (cell_set (cell_set e1))), cell_set (cell_set (cell_set (cell_set e2))), cell_set (cell_set (cell_set (cell_set e3)))⟩
end Go.Proofs.Ytflahclphdlolaa
