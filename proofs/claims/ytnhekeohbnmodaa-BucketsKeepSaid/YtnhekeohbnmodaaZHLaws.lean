/- What the laws of layer 10 want besides: insertions into valid lists, numbers of buckets. -/
import Derived.Test.YtnhekeohbnmodaaZGBase
import Derived.Test.YtnhekeohbnmodaaZHCan
import Derived.Test.YtnhekeohbnmodaaZHExp
import Derived.Test.YtnhekeohbnmodaaZHMath
import Derived.Test.YtnhekeohbnmodaaZHTally
import Derived.Test.YtnhekeohbnmodaaZHVal
import Derived.Test.YtnhekeohbnmodaaZJHDel
import Derived.Test.YtnhekeohbnmodaaZJHSame
import Derived.Test.YtnhekeohbnmodaaZJHSmall
namespace Go.Proofs.Ytnhekeohbnmodaa
open Go.RowKit

theorem imL_one {X : List It} {q t : Int} (h : Va X q) (h0 : 0 ≤ t) (h1 : t ≤ 16777216) (hl : ∀ x ∈ X, x.1 ≤ t) (hT : totB X + 1 ≤ 1073741824) : imL X q t 1 = puB q t X := by
  rw [imL_yes]
  · rfl
  · unfold inB rooB
    rw [vaB_iff.2 h, fol_of h0 h1 hl, decide_eq_true (p := totB X + 1 ≤ 1073741824) hT]
    simp
theorem Va.lv {X : List It} {k : Int} (h : Va X k) : lvB X = true := lvB_of (orB_iff.2 ⟨h.rg, h.ds, h.as_⟩)
theorem Va.cu {X : List It} {k : Int} (h : Va X k) (hT : totB X ≤ 1073741824) : cuL X = caR (totB X) k := by
  rw [cuL_yes h.lv, h.can hT, caR_yes]
  unfold caB kB
  rw [decide_eq_true (p := 0 ≤ totB X ∧ totB X ≤ 1073741824) ⟨totB_low X, hT⟩, decide_eq_true (p := 1 ≤ k ∧ k ≤ 128) ⟨h.k1, h.k2⟩]
  rfl
theorem Va.short {X : List It} {k : Int} (h : Va X k) : (X.length : Int) ≤ totB X := by
  have key : ∀ Y : List It, Rg Y → (Y.length : Int) ≤ totB Y := by
    intro Y
    induction Y with
    | nil => intro _; simp [totB]
    | cons y Y ih =>
      intro hr
      have h1 := ih (fun x hx => hr x (List.mem_cons_of_mem _ hx))
      have h2 := (szB_in (hr y List.mem_cons_self).2).1
      simp only [totB, List.length_cons]
      omega
  exact key X h.rg
theorem Va.most {X : List It} {k : Int} (h : Va X k) (hT : totB X ≤ 1073741824) : (X.length : Int) ≤ moZ k (totB X) := by
  unfold moZ
  rw [if_pos (show kB k = true from decide_eq_true ⟨h.k1, h.k2⟩)]
  exact h.few hT
theorem exL_tot (L : List It) (f : Int) : totB (exL L f) ≤ totB L := by
  obtain ⟨P, h⟩ := exL_suffix L f
  have := totB_low P
  have e := totB_app P (exL L f)
  rw [h] at e
  omega
theorem exL_va {L : List It} {k f t : Int} (h : Va L k) (hl : ∀ x ∈ L, x.1 ≤ t) : Va (exL L f) k ∧ ∀ x ∈ exL L f, x.1 ≤ t := by
  obtain ⟨P, e⟩ := exL_suffix L f
  refine ⟨Va.suffix (P := P) (by rw [e]; exact h), fun x hx => hl x ?_⟩
  rw [← e]
  exact List.mem_append_right _ hx
/-- The sum of numbers of buckets by their sizes, up to a level. -/
def pfS (L : List Int) : Nat → Int
  | 0 => 0
  | i + 1 => pfS L i + L.getD i 0 * 2 ^ i
def pfC (L : List Int) : Nat → Int
  | 0 => 0
  | i + 1 => pfC L i + L.getD i 0
theorem pfS_cons (c : Int) (L : List Int) : ∀ i, pfS (c :: L) (i + 1) = c + 2 * pfS L i := by
  intro i
  induction i with
  | zero => simp [pfS]
  | succ i ih =>
    rw [pfS, ih, pfS, List.getD_cons_succ, pow_succ2, Int.mul_add, Int.mul_left_comm]
    omega
theorem pfC_cons (c : Int) (L : List Int) : ∀ i, pfC (c :: L) (i + 1) = c + pfC L i := by
  intro i
  induction i with
  | zero => simp [pfC]
  | succ i ih => rw [pfC, ih, pfC, List.getD_cons_succ]; omega
theorem pfS_all : ∀ L : List Int, pfS L L.length = vlB L := by
  intro L
  induction L with
  | nil => rfl
  | cons c L ih => rw [List.length_cons, pfS_cons, ih]; rfl
theorem pfC_all : ∀ L : List Int, pfC L L.length = smB L := by
  intro L
  induction L with
  | nil => rfl
  | cons c L ih => rw [List.length_cons, pfC_cons, ih]; rfl
theorem pfS_le {L : List Int} (h : ∀ c ∈ L, 0 ≤ c) : ∀ i, i ≤ L.length → 0 ≤ pfS L i ∧ pfS L i ≤ vlB L := by
  induction L with
  | nil =>
    intro i hi
    have : i = 0 := by simpa using hi
    subst this
    exact ⟨Int.le_refl _, Int.le_refl _⟩
  | cons c L ih =>
    have hc := h c List.mem_cons_self
    have ih := ih (fun x hx => h x (List.mem_cons_of_mem _ hx))
    intro i hi
    cases i with
    | zero =>
      have := ih 0 (by omega)
      simp only [pfS, vlB] at *
      omega
    | succ i =>
      rw [pfS_cons]
      have := ih i (by simpa using hi)
      simp only [vlB]
      omega
theorem pfC_le {L : List Int} (h : ∀ c ∈ L, 0 ≤ c) : ∀ i, i ≤ L.length → 0 ≤ pfC L i ∧ pfC L i ≤ smB L := by
  induction L with
  | nil =>
    intro i hi
    have : i = 0 := by simpa using hi
    subst this
    exact ⟨Int.le_refl _, Int.le_refl _⟩
  | cons c L ih =>
    have hc := h c List.mem_cons_self
    have ih := ih (fun x hx => h x (List.mem_cons_of_mem _ hx))
    intro i hi
    cases i with
    | zero =>
      have := ih 0 (by omega)
      simp only [pfC, smB] at *
      omega
    | succ i =>
      rw [pfC_cons]
      have := ih i (by simpa using hi)
      simp only [smB]
      omega
end Go.Proofs.Ytnhekeohbnmodaa
