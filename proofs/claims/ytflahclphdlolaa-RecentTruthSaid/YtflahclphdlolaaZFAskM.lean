/- The numbers of the answers of package recent: what each question is answered with, and that all of it fits. -/
import Derived.Test.YtflahclphdlolaaZCClock
import Derived.Test.YtflahclphdlolaaZELoFrame
import Derived.Test.YtflahclphdlolaaZEQnt
import Derived.Test.YtflahclphdlolaaZESort
import Derived.Test.YtflahclphdlolaaZESpread
import Derived.Test.YtflahclphdlolaaZESq
import Derived.Test.YtflahclphdlolaaZETotal
import Derived.Test.YtflahclphdlolaaZFBase
import Derived.Test.YtflahclphdlolaaZFState
import Derived.Test.YtflahclphdlolaaZG0a
import Derived.Test.YtflahclphdlolaaZG2a
import Derived.Test.YtflahclphdlolaaZG5a
namespace Go.Proofs.Ytflahclphdlolaa
open Go.RowKit

def smallI (L : List It) : Prop := ∀ x ∈ L, -4096 ≤ x.2 ∧ x.2 ≤ 4096
theorem smallI.tail {x : It} {L : List It} (h : smallI (x :: L)) : smallI L := fun y hy => h y (List.mem_cons_of_mem _ hy)
theorem st_small {v c now : Int} {L : List It} (h : stB v c now L = true) : InI L ∧ L.length ≤ 65536 ∧ smallI L := by
  have g := stB_true h
  obtain ⟨m1, m2, m3, m4⟩ := mayB_true g.1
  have ht := tickB_true m1
  have hv := val_iff.1 g.2.2.1
  have ho := ok_iff.1 g.2.2.2
  have hs : smallI L := fun x hx => valueB_true (ho x hx).2
  refine ⟨fun x hx => ?_, by have := g.2.1; omega, hs⟩
  have h1 := hv.2.1 x hx
  have h2 := hs x hx
  unfold In
  exact ⟨⟨by omega, by omega⟩, by omega, by omega⟩
theorem sq4096 {x : Int} (h1 : -4096 ≤ x) (h2 : x ≤ 4096) : 0 ≤ x * x ∧ x * x ≤ 16777216 := by
  have h3 : 0 ≤ (4096 - x) * (4096 + x) := Int.mul_nonneg (by omega) (by omega)
  have h4 : 0 ≤ (x.natAbs : Int) * (x.natAbs : Int) := Int.mul_nonneg (by omega) (by omega)
  rw [sq_abs] at h4
  rw [Int.sub_mul, Int.mul_add, Int.mul_add, Int.mul_comm x 4096] at h3
  exact ⟨h4, by omega⟩
theorem sm_bound {L : List It} (h : smallI L) : -(4096 * (L.length : Int)) ≤ smZ L ∧ smZ L ≤ 4096 * (L.length : Int) := by
  induction L with
  | nil => simp [smZ]
  | cons x L ih =>
    have h1 := h x (List.mem_cons_self ..)
    have h2 := ih h.tail
    have e : smZ (x :: L) = x.2 + smZ L := by simp [smZ]
    rw [e, List.length_cons]
    omega
theorem sq_bound {L : List It} (h : smallI L) : 0 ≤ sqZ L ∧ sqZ L ≤ 16777216 * (L.length : Int) := by
  induction L with
  | nil => simp [sqZ]
  | cons x L ih =>
    have h1 := h x (List.mem_cons_self ..)
    have h2 := ih h.tail
    have h3 := sq4096 h1.1 h1.2
    have e : sqZ (x :: L) = x.2 * x.2 + sqZ L := by simp [sqZ]
    rw [e, List.length_cons]
    omega
theorem dv_bound {L : List It} (h : smallI L) (hl : L.length ≤ 65536) : 0 ≤ dvZ L ∧ dvZ L ≤ 72057594037927936 := by
  refine ⟨dvZ_nonneg L, ?_⟩
  have h1 := sq_bound h
  have h2 : 0 ≤ smZ L * smZ L := by
    have : 0 ≤ ((smZ L).natAbs : Int) * ((smZ L).natAbs : Int) := Int.mul_nonneg (by omega) (by omega)
    rwa [sq_abs] at this
  have h3 : (L.length : Int) * sqZ L ≤ 65536 * 1099511627776 := Int.mul_le_mul (by omega) (by omega) h1.1 (by omega)
  unfold dvZ
  omega
theorem quo_fit {p q : Int} (h0 : 0 ≤ p) (h1 : p ≤ 4611686018427387904) (h2 : 1 ≤ q) (h3 : q ≤ 4611686018427387904) : quoB p q = true := by
  have hg := quoG_pos (p := p) (q := q) (by omega)
  have e1 : quoP p q = p / quoG p q := by unfold quoP; rw [if_neg (by omega)]
  have a1 : 0 ≤ p / quoG p q := Int.ediv_nonneg h0 (by omega)
  have a2 : p / quoG p q ≤ p := Int.ediv_le_self _ h0
  have e2 : quoQ p q = q / quoG p q := by unfold quoQ; rw [show (q.natAbs : Int) = q by omega]
  have b1 : 0 ≤ q / quoG p q := Int.ediv_nonneg (by omega) (by omega)
  have b2 : q / quoG p q ≤ q := Int.ediv_le_self _ (by omega)
  unfold quoB
  rw [e1, e2, fits_yes (show In (p / quoG p q) by unfold In; omega), fits_yes (show In (q / quoG p q) by unfold In; omega), decide_eq_true (show q ≠ 0 by omega)]
  rfl
theorem spr_ok {L : List It} (h : smallI L) (hl : L.length ≤ 65536) : validB (sprN L) (sprD L) = true ∧ In (sprN L) ∧ In (sprD L) ∧ sprB L = true := by
  by_cases he : L = []
  · unfold sprN sprD sprB
    rw [if_pos he, if_pos he, if_pos he]
    exact ⟨by decide, by unfold In; omega, by unfold In; omega, rfl⟩
  · unfold sprN sprD sprB
    rw [if_neg he, if_neg he, if_neg he]
    have h1 := dv_bound h hl
    have h2 : 0 < L.length := List.length_pos_iff.2 he
    have h3 := quo_fit h1.1 (by omega) (show (1 : Int) ≤ L.length by omega) (by omega)
    obtain ⟨_, a, b, d, _⟩ := quo_yes h3
    exact ⟨d, a, b, h3⟩
theorem valid_one (n : Int) : validB n 1 = true := by unfold validB; exact decide_eq_true ⟨Int.le_refl _, by simp⟩
def leV (L : List It) : Int := if L = [] then 0 else leZ (L.getD 0 (0, 0)).2 L
def grV (L : List It) : Int := if L = [] then 0 else grZ (L.getD 0 (0, 0)).2 L
theorem leE_V (L : List It) : leE L = got (leV L) (decide (L ≠ [])) := by
  unfold leE leV
  by_cases h : L = []
  · rw [if_pos h, if_pos h, decide_eq_false (by simp [h])]
  · rw [if_neg h, if_neg h, decide_eq_true h]
theorem grE_V (L : List It) : grE L = got (grV L) (decide (L ≠ [])) := by
  unfold grE grV
  by_cases h : L = []
  · rw [if_pos h, if_pos h, decide_eq_false (by simp [h])]
  · rw [if_neg h, if_neg h, decide_eq_true h]
theorem leZ_in {L : List It} (h : smallI L) : ∀ x, -4096 ≤ x → x ≤ 4096 → -4096 ≤ leZ x L ∧ leZ x L ≤ 4096 := by
  induction L with
  | nil => intro x h1 h2; exact ⟨h1, h2⟩
  | cons y L ih =>
    intro x h1 h2
    have h3 := h y (List.mem_cons_self ..)
    exact ih h.tail (min x y.2) (by omega) (by omega)
theorem grZ_in {L : List It} (h : smallI L) : ∀ x, -4096 ≤ x → x ≤ 4096 → -4096 ≤ grZ x L ∧ grZ x L ≤ 4096 := by
  induction L with
  | nil => intro x h1 h2; exact ⟨h1, h2⟩
  | cons y L ih =>
    intro x h1 h2
    have h3 := h y (List.mem_cons_self ..)
    exact ih h.tail (max x y.2) (by omega) (by omega)
theorem ext_in {L : List It} (h : smallI L) : -4096 ≤ leV L ∧ leV L ≤ 4096 ∧ -4096 ≤ grV L ∧ grV L ≤ 4096 := by
  by_cases he : L = []
  · unfold leV grV
    rw [if_pos he, if_pos he]
    omega
  · unfold leV grV
    rw [if_neg he, if_neg he]
    have h1 := h _ (getD_mem (List.length_pos_iff.2 he))
    have h2 := leZ_in h _ h1.1 h1.2
    have h3 := grZ_in h _ h1.1 h1.2
    omega

/-- What a question is answered with: the number (zero if there is none), the values, the error. -/
def askR (v c now : Int) (L : List It) (o a b : Int) : Int × Int × List Int × Int :=
  if stB v c now L = false then (0, 0, [], 2)
  else if o = 1 then ((L.length : Int), 1, [], 0)
  else if o = 2 then (smZ L, 1, [], 0)
  else if o = 3 then (sqZ L, 1, [], 0)
  else if o = 4 then (grV L - leV L, 1, [], 0)
  else if o = 5 then (sprN L, sprD L, [], 0)
  else if o = 6 then (if L = [] then (0, 0, [], 7) else (0, 0, [leV L, grV L], 0))
  else if o = 7 then ((rkN a L : Int), 1, [], 0)
  else if o = 8 then (if askB a b = false then (0, 0, [], 1) else if (qnO L a b).isSome = true then (0, 0, [(qnO L a b).getD 0], 0) else (0, 0, [], 7))
  else (0, 0, [], 12)
theorem Lo.refl (w : World) : Lo w w := Lo.of_up (Up.refl w)
theorem Lo.frozen9 {W W' : World} (h : Lo W W') (a : Addr) (ha : a.block < W.heap.size) : W'.frozen? a = W.frozen? a := by
  have := h.block a.block ha
  unfold World.frozen?
  rw [this]
theorem Sn.lo {w w' : World} {A : Option Addr} {n : Nat} {L : List Int} (h : Sn w A n L) (hu : Lo w w') : Sn w' A n L := by
  refine ⟨h.1, fun hn => ?_⟩
  obtain ⟨b, o, e, hc⟩ := h.2 hn
  exact ⟨b, o, e, fun j hj => hu.keep _ _ _ (hc j hj)⟩
end Go.Proofs.Ytflahclphdlolaa
