/- What two answers have in common: plain facts. -/
import Derived.Test.YtgafcpklocccdaaBMath
namespace Go.Proofs.Ytgafcpklocccdaa

/-- What Meet returns, from its last choice to its first. -/
def meet3 (l lD g gD h hD : Int) : Ending := gotB l lD (pk (decide (0 < cmpR g gD h hD)) g h) (pk (decide (0 < cmpR g gD h hD)) gD hD) h hD true
def meet2 (l lD e eD h hD : Int) : Ending :=
  if decide (0 < cmpR l lD h hD) = true then gotB 0 0 0 0 0 0 false
  else meet3 l lD (pk (decide (cmpR e eD l lD < 0)) e l) (pk (decide (cmpR e eD l lD < 0)) eD lD) h hD
def meetE (n1 d1 n2 d2 n3 d3 m1 c1 m2 c2 m3 c3 : Int) : Ending :=
  if (bvB n1 d1 n2 d2 n3 d3 && bvB m1 c1 m2 c2 m3 c3) = true then
    meet2 (pk (decide (cmpR n1 d1 m1 c1 < 0)) n1 m1) (pk (decide (cmpR n1 d1 m1 c1 < 0)) d1 c1) n2 d2 (pk (decide (0 < cmpR n3 d3 m3 c3)) n3 m3) (pk (decide (0 < cmpR n3 d3 m3 c3)) d3 c3)
  else gotB 0 0 0 0 0 0 false
theorem meet2_yes {l lD e eD h hD : Int} (t : decide (0 < cmpR l lD h hD) = true) : meet2 l lD e eD h hD = gotB 0 0 0 0 0 0 false := by unfold meet2; rw [if_pos t]
theorem meet2_no {l lD e eD h hD : Int} (t : decide (0 < cmpR l lD h hD) = false) : meet2 l lD e eD h hD = meet3 l lD (pk (decide (cmpR e eD l lD < 0)) e l) (pk (decide (cmpR e eD l lD < 0)) eD lD) h hD := by
  unfold meet2; rw [if_neg (by rw [t]; decide)]

theorem pk_in {s : Bool} {n m : Int} (hn : In n) (hm : In m) : In (pk s n m) := by cases s <;> assumption
theorem in_0 : In 0 := ⟨by decide, by decide⟩
/-- The greater one of two valid numbers. -/
theorem greater_facts {n d m c x y : Int} (h : validB n d = true) (k : validB m c = true) (_ : validB x y = true) :
    validB (pk (decide (cmpR n d m c < 0)) n m) (pk (decide (cmpR n d m c < 0)) d c) = true ∧
    cmpR n d (pk (decide (cmpR n d m c < 0)) n m) (pk (decide (cmpR n d m c < 0)) d c) ≤ 0 ∧ cmpR m c (pk (decide (cmpR n d m c < 0)) n m) (pk (decide (cmpR n d m c < 0)) d c) ≤ 0 ∧
    (cmpR n d x y ≤ 0 → cmpR m c x y ≤ 0 → cmpR (pk (decide (cmpR n d m c < 0)) n m) (pk (decide (cmpR n d m c < 0)) d c) x y ≤ 0) := by
  by_cases t : cmpR n d m c < 0
  · rw [decide_eq_true t, pk_true, pk_true]
    exact ⟨k, by omega, cmpR_refl, fun _ b => b⟩
  · rw [decide_eq_false t, pk_false, pk_false]
    exact ⟨h, cmpR_refl, by have := cmpR_anti n d m c; omega, fun a _ => a⟩
theorem lesser_facts {n d m c x y : Int} (h : validB n d = true) (k : validB m c = true) (_ : validB x y = true) :
    validB (pk (decide (0 < cmpR n d m c)) n m) (pk (decide (0 < cmpR n d m c)) d c) = true ∧
    cmpR (pk (decide (0 < cmpR n d m c)) n m) (pk (decide (0 < cmpR n d m c)) d c) n d ≤ 0 ∧ cmpR (pk (decide (0 < cmpR n d m c)) n m) (pk (decide (0 < cmpR n d m c)) d c) m c ≤ 0 ∧
    (cmpR x y n d ≤ 0 → cmpR x y m c ≤ 0 → cmpR x y (pk (decide (0 < cmpR n d m c)) n m) (pk (decide (0 < cmpR n d m c)) d c) ≤ 0) := by
  by_cases t : 0 < cmpR n d m c
  · rw [decide_eq_true t, pk_true, pk_true]
    exact ⟨k, by have := cmpR_anti n d m c; omega, cmpR_refl, fun _ b => b⟩
  · rw [decide_eq_false t, pk_false, pk_false]
    exact ⟨h, cmpR_refl, by omega, fun a _ => a⟩

theorem meet3_holds {l lD g gD h hD n d : Int} (v1 : validB l lD = true) (v2 : validB g gD = true) (v3 : validB h hD = true) (v4 : validB n d = true) (x : cmpR l lD g gD ≤ 0) (y : cmpR l lD h hD ≤ 0) (p : cmpR l lD n d ≤ 0) (q : cmpR n d h hD ≤ 0) :
    hoB l lD (pk (decide (0 < cmpR g gD h hD)) g h) (pk (decide (0 < cmpR g gD h hD)) gD hD) h hD n d = true := by
  obtain ⟨f1, f2, f3, f4⟩ := lesser_facts (x := l) (y := lD) v2 v3 v1
  exact hoB_mk (bvB_mk v1 f1 v3 (f4 x y) f3) v4 p q

/-- The answer as letters, and that it holds what both hold. -/
theorem meetE_form (n1 d1 n2 d2 n3 d3 m1 c1 m2 c2 m3 c3 n d : Int) (in1 : In n1) (id1 : In d1) (in2 : In n2) (id2 : In d2) (in3 : In n3) (id3 : In d3) (im1 : In m1) (ic1 : In c1) (im3 : In m3) (ic3 : In c3) :
    ∃ X1 X2 X3 X4 X5 X6 : Int, ∃ ok : Bool, meetE n1 d1 n2 d2 n3 d3 m1 c1 m2 c2 m3 c3 = gotB X1 X2 X3 X4 X5 X6 ok ∧ In X1 ∧ In X2 ∧ In X3 ∧ In X4 ∧ In X5 ∧ In X6 ∧
      (hoB n1 d1 n2 d2 n3 d3 n d = true → hoB m1 c1 m2 c2 m3 c3 n d = true → ok = true ∧ hoB X1 X2 X3 X4 X5 X6 n d = true) := by
  by_cases hv : (bvB n1 d1 n2 d2 n3 d3 && bvB m1 c1 m2 c2 m3 c3) = true
  · have eE : meetE n1 d1 n2 d2 n3 d3 m1 c1 m2 c2 m3 c3 = meet2 (pk (decide (cmpR n1 d1 m1 c1 < 0)) n1 m1) (pk (decide (cmpR n1 d1 m1 c1 < 0)) d1 c1) n2 d2 (pk (decide (0 < cmpR n3 d3 m3 c3)) n3 m3) (pk (decide (0 < cmpR n3 d3 m3 c3)) d3 c3) := by
      unfold meetE; rw [if_pos hv]
    rw [Bool.and_eq_true] at hv
    obtain ⟨a1, a2, a3, _, _⟩ := bvB_of hv.1
    obtain ⟨b1, _, b3, _, _⟩ := bvB_of hv.2
    rw [eE]
    have iL := pk_in (s := decide (cmpR n1 d1 m1 c1 < 0)) in1 im1
    have iL' := pk_in (s := decide (cmpR n1 d1 m1 c1 < 0)) id1 ic1
    have iH := pk_in (s := decide (0 < cmpR n3 d3 m3 c3)) in3 im3
    have iH' := pk_in (s := decide (0 < cmpR n3 d3 m3 c3)) id3 ic3
    have fL : ∀ x y, validB x y = true → _ := fun x y hx => greater_facts (n := n1) (d := d1) (m := m1) (c := c1) (x := x) (y := y) a1 b1 hx
    have fH : ∀ x y, validB x y = true → _ := fun x y hx => lesser_facts (n := n3) (d := d3) (m := m3) (c := c3) (x := x) (y := y) a3 b3 hx
    have vL := (fL n1 d1 a1).1
    have vH := (fH n1 d1 a1).1
    have kL : ∀ x y, validB x y = true → cmpR n1 d1 x y ≤ 0 → cmpR m1 c1 x y ≤ 0 → cmpR (pk (decide (cmpR n1 d1 m1 c1 < 0)) n1 m1) (pk (decide (cmpR n1 d1 m1 c1 < 0)) d1 c1) x y ≤ 0 := fun x y hx => (fL x y hx).2.2.2
    have kH : ∀ x y, validB x y = true → cmpR x y n3 d3 ≤ 0 → cmpR x y m3 c3 ≤ 0 → cmpR x y (pk (decide (0 < cmpR n3 d3 m3 c3)) n3 m3) (pk (decide (0 < cmpR n3 d3 m3 c3)) d3 c3) ≤ 0 := fun x y hx => (fH x y hx).2.2.2
    clear fL fH eE
    generalize pk (decide (cmpR n1 d1 m1 c1 < 0)) n1 m1 = L at *
    generalize pk (decide (cmpR n1 d1 m1 c1 < 0)) d1 c1 = L' at *
    generalize pk (decide (0 < cmpR n3 d3 m3 c3)) n3 m3 = K at *
    generalize pk (decide (0 < cmpR n3 d3 m3 c3)) d3 c3 = K' at *
    have both : hoB n1 d1 n2 d2 n3 d3 n d = true → hoB m1 c1 m2 c2 m3 c3 n d = true → validB n d = true ∧ cmpR L L' n d ≤ 0 ∧ cmpR n d K K' ≤ 0 := by
      intro p q
      obtain ⟨_, p2, p3, p4⟩ := hoB_of p
      obtain ⟨_, _, q3, q4⟩ := hoB_of q
      exact ⟨p2, kL n d p2 p3 q3, kH n d p2 p4 q4⟩
    by_cases t : 0 < cmpR L L' K K'
    · refine ⟨0, 0, 0, 0, 0, 0, false, meet2_yes (decide_eq_true t), in_0, in_0, in_0, in_0, in_0, in_0, fun p q => ?_⟩
      obtain ⟨v, x, y⟩ := both p q
      have := cmpR_trans vL v vH x y
      omega
    · refine ⟨_, _, _, _, _, _, true, meet2_no (decide_eq_false t), iL, iL', pk_in (pk_in in2 iL) iH, pk_in (pk_in id2 iL') iH', iH, iH', fun p q => ⟨rfl, ?_⟩⟩
      obtain ⟨v, x, y⟩ := both p q
      obtain ⟨g1, _, g3, _⟩ := greater_facts (x := L) (y := L') a2 vL vL
      exact meet3_holds vL g1 vH v g3 (by omega) x y
  · refine ⟨0, 0, 0, 0, 0, 0, false, by unfold meetE; rw [if_neg hv], in_0, in_0, in_0, in_0, in_0, in_0, fun p q => ?_⟩
    rw [(hoB_of p).1, (hoB_of q).1] at hv
    exact absurd rfl hv
end Go.Proofs.Ytgafcpklocccdaa
