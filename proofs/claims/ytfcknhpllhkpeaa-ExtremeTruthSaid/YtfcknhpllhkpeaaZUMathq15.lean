/- Monotonic deques: the items that no other one rules out, as a list that is ascending in ticks; what Add, Advance and Merge make of it. No program is named here. -/
import Derived.Test.YtfcknhpllhkpeaaRows
import Derived.Test.YtfcknhpllhkpeaaZUMathq14
namespace Go.Proofs.Ytfcknhpllhkpeaa

/-- Only what stays of each part counts. -/
theorem KdE.app {mx : Bool} {K A B A' B' : List It} (hA : KdE mx A' A) (hB : KdE mx B' B) : KdE mx K (A' ++ B') ↔ KdE mx K (A ++ B) := by
  refine KdE.sub (fun x hx => ?_) (fun x hx => ?_)
  · rcases List.mem_append.1 hx with h | h
    · exact List.mem_append_left _ ((hA.2 x).1 h).1
    · exact List.mem_append_right _ ((hB.2 x).1 h).1
  · rcases List.mem_append.1 hx.1 with h | h
    · exact List.mem_append_left _ ((hA.2 x).2 ⟨h, fun y hy hr => hx.2 y (List.mem_append_left _ hy) hr⟩)
    · exact List.mem_append_right _ ((hB.2 x).2 ⟨h, fun y hy hr => hx.2 y (List.mem_append_right _ hy) hr⟩)
theorem KdE.one (mx : Bool) (x : It) : KdE mx [x] [x] := KdE.self (List.pairwise_singleton _ _)
theorem KdE.push {mx : Bool} {K A A' : List It} (x : It) (hA : KdE mx A' A) : KdE mx K (A' ++ [x]) ↔ KdE mx K (A ++ [x]) := KdE.app hA (KdE.one mx x)
/-- The items behind a tick. -/
theorem KdE.live {mx : Bool} {K L : List It} (h : KdE mx K L) (a : Int) : KdE mx (K.filter (fun x => decide (a < x.1))) (L.filter (fun x => decide (a < x.1))) := by
  refine ⟨h.1.filter _, fun x => ?_⟩
  simp only [List.mem_filter, decide_eq_true_eq]
  constructor
  · rintro ⟨hx, ha⟩
    obtain ⟨h1, h2⟩ := (h.2 x).1 hx
    exact ⟨List.mem_filter.2 ⟨h1, decide_eq_true ha⟩, fun y hy hr => h2 y (List.mem_filter.1 hy).1 hr⟩
  · rintro ⟨hx, h2⟩
    obtain ⟨h1, ha⟩ := List.mem_filter.1 hx
    have ha := of_decide_eq_true ha
    exact ⟨(h.2 x).2 ⟨h1, fun y hy hr => h2 y (List.mem_filter.2 ⟨hy, decide_eq_true (by have := hr.1; omega)⟩) hr⟩, ha⟩
/-- There are at most as many items as ticks. -/
theorem asc_count : ∀ {K : List It} {a b : Int}, K.Pairwise (fun x y => x.1 < y.1) → (∀ x ∈ K, a < x.1 ∧ x.1 ≤ b) → K ≠ [] → (K.length : Int) ≤ b - a := by
  intro K
  induction K with
  | nil => intro a b _ _ h; exact absurd rfl h
  | cons x K ih =>
    intro a b h1 h2 _
    obtain ⟨p, q⟩ := List.pairwise_cons.1 h1
    have hx := h2 x List.mem_cons_self
    by_cases hK : K = []
    · subst hK; simp; omega
    · have := ih (a := x.1) (b := b) q (fun y hy => ⟨p y hy, (h2 y (List.mem_cons_of_mem _ hy)).2⟩) hK
      rw [List.length_cons]; omega
end Go.Proofs.Ytfcknhpllhkpeaa
