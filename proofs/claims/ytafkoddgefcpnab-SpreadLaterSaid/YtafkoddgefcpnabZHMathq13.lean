/- Texts of these claims, one after the other. -/
import Derived.Test.YtafkoddgefcpnabRows
import Derived.Test.YtafkoddgefcpnabZWKeepq8
namespace Go.Proofs.Ytafkoddgefcpnab
open Go.RowKit

theorem bitsZ_mono {a b : Int} (h : a ≤ b) : bitsZ a ≤ bitsZ b := by
  have key : ∀ (n : Nat) (a b : Int), a ≤ b → b.toNat ≤ n → bitsZ a ≤ bitsZ b := by
    intro n
    induction n with
    | zero => intro a b h1 h2; rw [bitsZ_low a (by omega)]; exact (bitsZ_bound b).1
    | succ n ih =>
      intro a b h1 h2
      by_cases ha : a ≤ 0
      · rw [bitsZ_low a ha]; exact (bitsZ_bound b).1
      · rw [bitsZ_step a (by omega), bitsZ_step b (by omega)]
        have := ih (a / 2) (b / 2) (by omega) (by omega)
        omega
  exact key _ a b h (Nat.le_refl _)
/-- The size of a bucket of a level. -/
def szB (l : Int) : Int := if 0 ≤ l ∧ l ≤ 30 then 2 ^ l.toNat else 0
/-- Total. -/
def totB : List It → Int
  | [] => 0
  | p :: L => szB p.2 + totB L
theorem szB_low (l : Int) : 0 ≤ szB l := by
  unfold szB
  split
  · exact Int.le_of_lt (Int.pow_pos (by omega))
  · exact Int.le_refl _
theorem pwB1 (a : Nat) : (1 : Int) ≤ 2 ^ a := Int.pow_pos (by omega)
theorem totB_low (L : List It) : 0 ≤ totB L := by
  induction L with
  | nil => exact Int.le_refl _
  | cons p L ih => have := szB_low p.2; simp only [totB]; omega
/-- Buckets of a level; buckets of greater levels. -/
def cn (l : Int) (X : List It) : Nat := X.countP (fun x => x.2 == l)
def Ds (X : List It) : Prop := X.Pairwise (fun x y => y.2 ≤ x.2)
def As (X : List It) : Prop := X.Pairwise (fun x y => x.1 ≤ y.1)
theorem cn_nil (l : Int) : cn l [] = 0 := rfl
theorem cn_cons (l : Int) (x : It) (X : List It) : cn l (x :: X) = cn l X + (if x.2 = l then 1 else 0) := by
  unfold cn; rw [List.countP_cons]; simp
theorem cn_zero {l : Int} {X : List It} (h : ∀ x ∈ X, x.2 ≠ l) : cn l X = 0 := by
  unfold cn; rw [List.countP_eq_zero]; intro x hx; simpa using h x hx
theorem cn_pos {l : Int} {X : List It} : 0 < cn l X ↔ ∃ x ∈ X, x.2 = l := by
  unfold cn; rw [List.countP_pos_iff]; simp
/-- Ticks and levels within their limits. -/
def Rg (X : List It) : Prop := ∀ x ∈ X, (0 ≤ x.1 ∧ x.1 ≤ 16777216) ∧ 0 ≤ x.2 ∧ x.2 ≤ 30
/-- Levels below a bucket's are full. -/
def Fl (k : Int) (X : List It) : Prop := ∀ x ∈ X, ∀ j, 0 ≤ j → j < x.2 → k ≤ (cn j X : Int)
structure Va (X : List It) (k : Int) : Prop where
  k1 : 1 ≤ k
  k2 : k ≤ 128
  rg : Rg X
  ds : Ds X
  as_ : As X
  up : ∀ j, (cn j X : Int) ≤ k + 1
  fl : Fl k X
/-- The list while buckets are merged: level l may have one more. -/
structure Iv (X : List It) (k l T t : Int) : Prop where
  k1 : 1 ≤ k
  k2 : k ≤ 128
  l0 : 0 ≤ l
  rg : Rg X
  ds : Ds X
  as_ : As X
  up : ∀ j, j ≠ l → (cn j X : Int) ≤ k + 1
  at_ : (cn l X : Int) ≤ k + 2
  fl : Fl k X
  tot : totB X = T
  last : ∀ x ∈ X, x.1 ≤ t
theorem Ds.app {P Q : List It} : Ds (P ++ Q) ↔ Ds P ∧ Ds Q ∧ ∀ x ∈ P, ∀ y ∈ Q, y.2 ≤ x.2 := List.pairwise_append
theorem As.app {P Q : List It} : As (P ++ Q) ↔ As P ∧ As Q ∧ ∀ x ∈ P, ∀ y ∈ Q, x.1 ≤ y.1 := List.pairwise_append
theorem Ds.cons {x : It} {Q : List It} : Ds (x :: Q) ↔ (∀ y ∈ Q, y.2 ≤ x.2) ∧ Ds Q := List.pairwise_cons
theorem As.cons {x : It} {Q : List It} : As (x :: Q) ↔ (∀ y ∈ Q, x.1 ≤ y.1) ∧ As Q := List.pairwise_cons
theorem cn_tot {X : List It} {l : Int} (h0 : 0 ≤ l) (h1 : l ≤ 30) : (cn l X : Int) * 2 ^ l.toNat ≤ totB X := by
  induction X with
  | nil => simp [cn, totB]
  | cons x X ih =>
    rw [cn_cons]
    simp only [totB]
    split
    next e =>
      rw [show szB x.2 = 2 ^ l.toNat by unfold szB; rw [e, if_pos ⟨h0, h1⟩], Int.natCast_add, Int.add_mul]
      omega
    next e => have := szB_low x.2; rw [Nat.add_zero]; omega
/-- At the last level nothing is merged. -/
theorem Iv.top {X : List It} {k l T t : Int} (h : Iv X k l T t) (hT : T ≤ 1073741824) (hl : l = 30) : (cn l X : Int) ≤ k + 1 := by
  subst hl
  have := cn_tot (X := X) (l := 30) (by omega) (by omega)
  rw [h.tot] at this
  have h1 := h.k1
  have e : (2 : Int) ^ (30 : Int).toNat = 1073741824 := by decide
  rw [e] at this
  omega
theorem Va.nil {k : Int} (h1 : 1 ≤ k) (h2 : k ≤ 128) : Va [] k :=
  ⟨h1, h2, fun x hx => (by cases hx), List.Pairwise.nil, List.Pairwise.nil, fun j => (by rw [cn_nil]; omega), fun x hx => (by cases hx)⟩
/-- The closed form of the numbers of buckets. -/
def mdB (u k : Int) : Int := if u ≤ k + 1 then 0 else (u - k) / 2
theorem mdB_low {u k : Int} : 0 ≤ mdB u k := by unfold mdB; split <;> omega
theorem mdB_half {u k : Int} (hk : 1 ≤ k) (hu : 0 ≤ u) : 2 * mdB u k ≤ u := by unfold mdB; split <;> omega
theorem mdB_rest {u k : Int} : u - 2 * mdB u k ≤ k + 1 := by unfold mdB; split <;> omega
theorem mdB_pos {u k : Int} (hk : 1 ≤ k) (hu : 0 < u) : 0 < u - 2 * mdB u k := by unfold mdB; split <;> omega
def caL (k : Int) : Nat → Int → List Int
  | 0, _ => []
  | f + 1, u => if u ≤ 0 then [] else (u - 2 * mdB u k) :: caL k f (mdB u k)
def vlB : List Int → Int
  | [] => 0
  | c :: cs => c + 2 * vlB cs
def smB : List Int → Int
  | [] => 0
  | c :: cs => c + smB cs
theorem caL_at {k u : Int} {f : Nat} (h : u ≤ 0) : caL k f u = [] := by
  cases f with
  | zero => rfl
  | succ f => unfold caL; rw [if_pos h]
theorem caL_step {k u : Int} {f : Nat} (h : 0 < u) : caL k (f + 1) u = (u - 2 * mdB u k) :: caL k f (mdB u k) := by
  rw [caL, if_neg (by omega)]
theorem pow_succ2 (f : Nat) : (2 : Int) ^ (f + 1) = 2 * 2 ^ f := by rw [Int.pow_succ]; omega
/-- What the closed form stands for. -/
theorem caL_facts {k : Int} (hk : 1 ≤ k) : ∀ (f : Nat) (u : Int), 0 ≤ u → u < 2 ^ f →
    vlB (caL k f u) = u ∧ (∀ c ∈ caL k f u, 0 < c ∧ c ≤ k + 1) ∧ ((caL k f u).length : Int) ≤ bitsZ u := by
  intro f
  induction f with
  | zero =>
    intro u h0 h1
    have : u = 0 := by simp at h1; omega
    subst this
    exact ⟨rfl, fun c hc => (by cases hc), by simp [caL]; exact (bitsZ_bound 0).1⟩
  | succ f ih =>
    intro u h0 h1
    rcases Int.lt_or_eq_of_le h0 with g | g
    · rw [caL_step g]
      rw [pow_succ2] at h1
      have a1 := mdB_low (u := u) (k := k)
      have a2 := mdB_half hk h0
      obtain ⟨i1, i2, i3⟩ := ih (mdB u k) a1 (by omega)
      refine ⟨by simp only [vlB]; rw [i1]; omega, fun c hc => ?_, ?_⟩
      · rcases List.mem_cons.1 hc with rfl | hc
        · exact ⟨mdB_pos hk g, mdB_rest⟩
        · exact i2 c hc
      · rw [List.length_cons]
        by_cases hz : mdB u k = 0
        · rw [hz, caL_at (Int.le_refl _)]
          rw [bitsZ_step u g]
          have := (bitsZ_bound (u / 2)).1
          simp only [List.length_nil]
          omega
        · have e := bitsZ_step u g
          have m : bitsZ (mdB u k) ≤ bitsZ (u / 2) := bitsZ_mono (by omega)
          omega
    · subst g
      rw [caL_at (Int.le_refl _)]
      exact ⟨rfl, fun c hc => (by cases hc), by simp; exact (bitsZ_bound 0).1⟩
theorem smB_le {m : Int} : ∀ {cs : List Int}, (∀ c ∈ cs, c ≤ m) → smB cs ≤ m * (cs.length : Int) := by
  intro cs
  induction cs with
  | nil => intro _; simp [smB]
  | cons c cs ih =>
    intro h
    have h1 := ih (fun c hc => h c (List.mem_cons_of_mem _ hc))
    have h2 := h c List.mem_cons_self
    simp only [smB, List.length_cons, Int.natCast_add, Int.mul_add]
    omega
/-- The numbers of buckets of a valid list. -/
def Gd (k : Int) : List Int → Prop
  | [] => True
  | c :: cs => c ≤ k + 1 ∧ (cs ≠ [] → k ≤ c) ∧ 1 ≤ c ∧ Gd k cs
theorem Gd.low {k : Int} (_hk : 1 ≤ k) : ∀ {cs : List Int}, Gd k cs → cs ≠ [] → 2 ^ (cs.length - 1) * (1 + k) - k ≤ vlB cs := by
  intro cs
  induction cs with
  | nil => intro _ h; exact absurd rfl h
  | cons c cs ih =>
    intro h _
    obtain ⟨h1, h2, h3, h4⟩ := h
    cases cs with
    | nil => simp [vlB]; omega
    | cons d ds =>
      have g := ih h4 (by simp)
      have g2 := h2 (by simp)
      simp only [List.length_cons, Nat.add_sub_cancel] at g ⊢
      rw [pow_succ2, Int.mul_assoc]
      rw [vlB]
      omega
theorem Gd.uniq {k : Int} (hk : 1 ≤ k) : ∀ {cs : List Int} (f : Nat), Gd k cs → vlB cs < 2 ^ f → caL k f (vlB cs) = cs := by
  intro cs
  induction cs with
  | nil => intro f _ _; exact caL_at (Int.le_refl _)
  | cons c cs ih =>
    intro f h hv
    obtain ⟨h1, h2, h3, h4⟩ := h
    have e0 : vlB (c :: cs) = c + 2 * vlB cs := rfl
    rw [e0] at hv ⊢
    cases cs with
    | nil =>
      have e1 : vlB [] = 0 := rfl
      rw [e1] at hv ⊢
      cases f with
      | zero => simp at hv; omega
      | succ f =>
        rw [caL_step (by omega)]
        have : mdB (c + 2 * 0) k = 0 := by unfold mdB; rw [if_pos (by omega)]
        rw [this, caL_at (Int.le_refl _)]
        simp
    | cons d ds =>
      have g := h4.low hk (by simp)
      have g2 := h2 (by simp)
      have g3 : (1 : Int) ≤ 2 ^ ((d :: ds).length - 1) := pwB1 _
      have g4 : 1 * (1 + k) ≤ 2 ^ ((d :: ds).length - 1) * (1 + k) := Int.mul_le_mul_of_nonneg_right g3 (by omega)
      generalize hv' : vlB (d :: ds) = v at *
      have : mdB (c + 2 * v) k = v := by unfold mdB; rw [if_neg (by omega)]; omega
      cases f with
      | zero => simp at hv; omega
      | succ f =>
        rw [pow_succ2] at hv
        rw [caL_step (by omega), this, ih f h4 (by omega), show c + 2 * v - 2 * v = c by omega]
/-- The numbers of buckets of each level. -/
def tpB (X : List It) : Nat := (X.getD 0 (0, 0)).2.toNat
def ctL (X : List It) : List Int := if X = [] then [] else (List.range (tpB X + 1)).map (fun j : Nat => (cn (j : Int) X : Int))
theorem vlB_add (f g : Nat → Int) (R : List Nat) : vlB (R.map (fun j => f j + g j)) = vlB (R.map f) + vlB (R.map g) := by
  induction R with
  | nil => rfl
  | cons a R ih => simp only [List.map_cons, vlB, ih]; omega
theorem smB_add (f g : Nat → Int) (R : List Nat) : smB (R.map (fun j => f j + g j)) = smB (R.map f) + smB (R.map g) := by
  induction R with
  | nil => rfl
  | cons a R ih => simp only [List.map_cons, smB, ih]; omega
theorem vlB_zero (R : List Nat) : vlB (R.map (fun _ => (0 : Int))) = 0 := by
  induction R with
  | nil => rfl
  | cons a R ih => simp only [List.map_cons, vlB, ih]; omega
theorem smB_zero (R : List Nat) : smB (R.map (fun _ => (0 : Int))) = 0 := by
  induction R with
  | nil => rfl
  | cons a R ih => simp only [List.map_cons, smB, ih]; omega
theorem range_map (f : Nat → Int) (m : Nat) : (List.range (m + 1)).map f = f 0 :: (List.range m).map (fun j => f (j + 1)) := by
  rw [List.range_succ_eq_map, List.map_cons, List.map_map]
  rfl
theorem vlB_one : ∀ (m a : Nat), a < m → vlB ((List.range m).map (fun j => if a = j then (1 : Int) else 0)) = 2 ^ a := by
  intro m
  induction m with
  | zero => intro a h; omega
  | succ m ih =>
    intro a h
    rw [range_map, vlB]
    cases a with
    | zero =>
      have e : (List.range m).map (fun j => if 0 = j + 1 then (1 : Int) else 0) = (List.range m).map (fun _ => (0 : Int)) := List.map_congr_left (fun j _ => if_neg (by omega))
      rw [e, vlB_zero]; rfl
    | succ a =>
      have e : (List.range m).map (fun j => if a + 1 = j + 1 then (1 : Int) else 0) = (List.range m).map (fun j => if a = j then (1 : Int) else 0) := List.map_congr_left (fun j _ => by simp)
      rw [e, ih a (by omega), if_neg (by omega), pow_succ2]; omega
theorem smB_one : ∀ (m a : Nat), a < m → smB ((List.range m).map (fun j => if a = j then (1 : Int) else 0)) = 1 := by
  intro m
  induction m with
  | zero => intro a h; omega
  | succ m ih =>
    intro a h
    rw [range_map, smB]
    cases a with
    | zero =>
      have e : (List.range m).map (fun j => if 0 = j + 1 then (1 : Int) else 0) = (List.range m).map (fun _ => (0 : Int)) := List.map_congr_left (fun j _ => if_neg (by omega))
      rw [e, smB_zero]; rfl
    | succ a =>
      have e : (List.range m).map (fun j => if a + 1 = j + 1 then (1 : Int) else 0) = (List.range m).map (fun j => if a = j then (1 : Int) else 0) := List.map_congr_left (fun j _ => by simp)
      rw [e, ih a (by omega), if_neg (by omega)]; omega
theorem cn_split (x : It) (X : List It) (h0 : 0 ≤ x.2) (m : Nat) : (List.range m).map (fun j : Nat => (cn (j : Int) (x :: X) : Int)) = (List.range m).map (fun j : Nat => (cn (j : Int) X : Int) + (if x.2.toNat = j then (1 : Int) else 0)) := by
  refine List.map_congr_left (fun j _ => ?_)
  rw [cn_cons]
  split
  next e => rw [if_pos (by omega)]; omega
  next e => rw [if_neg (by omega)]; omega
theorem cn_val (m : Nat) (hm : m ≤ 31) : ∀ (X : List It), (∀ x ∈ X, 0 ≤ x.2 ∧ x.2 < m) → vlB ((List.range m).map (fun j : Nat => (cn (j : Int) X : Int))) = totB X ∧ smB ((List.range m).map (fun j : Nat => (cn (j : Int) X : Int))) = (X.length : Int) := by
  intro X
  induction X with
  | nil => intro _; exact ⟨vlB_zero _, smB_zero _⟩
  | cons x X ih =>
    intro h
    obtain ⟨i1, i2⟩ := ih (fun y hy => h y (List.mem_cons_of_mem _ hy))
    obtain ⟨h0, h1⟩ := h x List.mem_cons_self
    rw [cn_split x X h0 m, vlB_add, smB_add, i1, i2, vlB_one m _ (by omega), smB_one m _ (by omega)]
    refine ⟨?_, by rw [List.length_cons]; omega⟩
    simp only [totB, szB]
    rw [if_pos (by omega)]; omega
theorem Gd.of_map {k : Int} : ∀ (m : Nat) (f : Nat → Int), (∀ j, j < m → k ≤ f j) → (∀ j, j ≤ m → f j ≤ k + 1) → 1 ≤ k → 1 ≤ f m → Gd k ((List.range (m + 1)).map f) := by
  intro m
  induction m with
  | zero =>
    intro f _ h2 _ h3
    have e : (List.range (0 + 1)).map f = [f 0] := rfl
    rw [e]
    exact ⟨h2 0 (by omega), fun h => absurd rfl h, h3, trivial⟩
  | succ m ih =>
    intro f h1 h2 hk h3
    rw [range_map]
    have := h1 0 (by omega)
    refine ⟨h2 0 (by omega), fun _ => this, by omega, ih (fun j => f (j + 1)) (fun j hj => h1 (j + 1) (by omega)) (fun j hj => h2 (j + 1) (by omega)) hk h3⟩
theorem getD0_mem {X : List It} (h : X ≠ []) : X.getD 0 (0, 0) ∈ X := by
  cases X with
  | nil => exact absurd rfl h
  | cons x X => simp
theorem Ds.top {X : List It} (h : Ds X) : ∀ x ∈ X, x.2 ≤ (X.getD 0 (0, 0)).2 := by
  cases X with
  | nil => intro x hx; cases hx
  | cons y X =>
    intro x hx
    rcases List.mem_cons.1 hx with rfl | hx
    · exact Int.le_refl _
    · exact (Ds.cons.1 h).1 x hx
theorem ctL_len (X : List It) (h : X ≠ []) : (ctL X).length = tpB X + 1 := by unfold ctL; rw [if_neg h]; simp
/-- What the numbers of buckets say of a valid list. -/
theorem Va.gd {X : List It} {k : Int} (h : Va X k) : Gd k (ctL X) ∧ vlB (ctL X) = totB X ∧ smB (ctL X) = (X.length : Int) := by
  by_cases hX : X = []
  · subst hX; exact ⟨trivial, rfl, rfl⟩
  have hm := getD0_mem hX
  have ht := h.ds.top
  have hr := h.rg _ hm
  unfold ctL
  rw [if_neg hX]
  have e : ((tpB X : Nat) : Int) = (X.getD 0 (0, 0)).2 := by unfold tpB; omega
  obtain ⟨c1, c2⟩ := cn_val (tpB X + 1) (by unfold tpB; omega) X (fun x hx => ⟨(h.rg x hx).2.1, by have := ht x hx; omega⟩)
  refine ⟨Gd.of_map _ _ (fun j hj => ?_) (fun j _ => h.up j) h.k1 ?_, c1, c2⟩
  · exact h.fl _ hm j (by omega) (by omega)
  · have : 0 < cn ((tpB X : Nat) : Int) X := cn_pos.2 ⟨_, hm, e.symm⟩
    omega
theorem Va.can {X : List It} {k : Int} (h : Va X k) (hT : totB X ≤ 1073741824) : ctL X = caL k 31 (totB X) := by
  obtain ⟨h1, h2, h3⟩ := h.gd
  rw [← h2]
  exact (h1.uniq h.k1 31 (by rw [h2]; have : (2 : Int) ^ 31 = 2147483648 := by decide
                             omega)).symm
theorem Va.few {X : List It} {k : Int} (h : Va X k) (hT : totB X ≤ 1073741824) : (X.length : Int) ≤ (k + 1) * bitsZ (totB X) := by
  obtain ⟨h1, h2, h3⟩ := h.gd
  rw [h.can hT] at h3
  have e31 : (2 : Int) ^ 31 = 2147483648 := by decide
  obtain ⟨f1, f2, f3⟩ := caL_facts h.k1 31 (totB X) (totB_low X) (by omega)
  have := smB_le (m := k + 1) (fun c hc => (f2 c hc).2)
  rw [h3] at this
  have hk := h.k1
  exact Int.le_trans this (Int.mul_le_mul_of_nonneg_left f3 (by omega))
theorem Va.narrow {X : List It} {k : Int} (h : Va X k) (hX : X ≠ []) : k * (szB (X.getD 0 (0, 0)).2 - 1) + 1 ≤ totB X - szB (X.getD 0 (0, 0)).2 + 1 ∧ 1 ≤ szB (X.getD 0 (0, 0)).2 ∧ szB (X.getD 0 (0, 0)).2 ≤ totB X := by
  obtain ⟨h1, h2, h3⟩ := h.gd
  have hr := h.rg _ (getD0_mem hX)
  have g := h1.low h.k1 (by intro e; have := ctL_len X hX; rw [e] at this; simp at this)
  rw [h2, ctL_len X hX, Nat.add_sub_cancel] at g
  have e : szB (X.getD 0 (0, 0)).2 = 2 ^ tpB X := by unfold szB tpB; rw [if_pos (by omega)]
  rw [e]
  have p := pwB1 (tpB X)
  generalize (2 : Int) ^ tpB X = z at *
  have hk := h.k1
  rw [Int.mul_sub]
  rw [Int.mul_add, Int.mul_comm z k] at g
  have q : k * 1 ≤ k * z := Int.mul_le_mul_of_nonneg_left p (by omega)
  omega
end Go.Proofs.Ytafkoddgefcpnab

namespace Go.Proofs.Ytafkoddgefcpnab
open Go.RowKit

def kB (k : Int) : Bool := decide (1 ≤ k ∧ k ≤ 128)
def levB (l : Int) : Bool := decide (0 ≤ l ∧ l ≤ 30)
theorem kB_true {k : Int} (h : kB k = true) : 1 ≤ k ∧ k ≤ 128 := of_decide_eq_true h
theorem levB_true {k : Int} (h : levB k = true) : 0 ≤ k ∧ k ≤ 30 := of_decide_eq_true h
end Go.Proofs.Ytafkoddgefcpnab

namespace Go.Proofs.Ytafkoddgefcpnab
open Go.RowKit

/-- What is asked of the bucket at place j. -/
def okO (L : List It) (j : Nat) : Prop := tickB (L.getD j (0, 0)).1 = true ∧ levB (L.getD j (0, 0)).2 = true ∧ (0 < j → (L.getD (j - 1) (0, 0)).1 ≤ (L.getD j (0, 0)).1 ∧ (L.getD j (0, 0)).2 ≤ (L.getD (j - 1) (0, 0)).2)
instance (L : List It) (j : Nat) : Decidable (okO L j) := by unfold okO; infer_instance
def orB (L : List It) : Bool := decide (∀ j, j < L.length → okO L j)
theorem gD_mem {L : List It} {j : Nat} (h : j < L.length) : L.getD j (0, 0) ∈ L := by simp [List.getD, h]
theorem gD_at {L : List It} {j : Nat} (h : j < L.length) : L.getD j (0, 0) = L[j] := by simp [List.getD, h]
theorem adj_all {f : It → Int} {L : List It} (h : ∀ j, j < L.length → 0 < j → f (L.getD (j - 1) (0, 0)) ≤ f (L.getD j (0, 0))) : ∀ d i, i + d < L.length → f (L.getD i (0, 0)) ≤ f (L.getD (i + d) (0, 0)) := by
  intro d
  induction d with
  | zero => intro i _; exact Int.le_refl _
  | succ d ih =>
    intro i hi
    have h1 := ih i (by omega)
    have h2 := h (i + (d + 1)) hi (by omega)
    rw [show i + (d + 1) - 1 = i + d by omega] at h2
    omega
theorem orB_iff {L : List It} : orB L = true ↔ Rg L ∧ Ds L ∧ As L := by
  unfold orB
  rw [decide_eq_true_eq]
  constructor
  · intro h
    refine ⟨fun x hx => ?_, ?_, ?_⟩
    · obtain ⟨j, hj, rfl⟩ := List.mem_iff_getElem.1 hx
      obtain ⟨g1, g2, _⟩ := h j hj
      rw [gD_at hj] at g1 g2
      have := tickB_true g1; have := levB_true g2
      omega
    · unfold Ds
      rw [List.pairwise_iff_getElem]
      intro i j hi hj hij
      have g := adj_all (f := fun x => -x.2) (L := L) (fun j hj h0 => by have := ((h j hj).2.2 h0).2; omega) (j - i) i (by omega)
      rw [show i + (j - i) = j by omega, gD_at hi, gD_at hj] at g
      omega
    · unfold As
      rw [List.pairwise_iff_getElem]
      intro i j hi hj hij
      have g := adj_all (f := fun x => x.1) (L := L) (fun j hj h0 => ((h j hj).2.2 h0).1) (j - i) i (by omega)
      rw [show i + (j - i) = j by omega, gD_at hi, gD_at hj] at g
      exact g
  · rintro ⟨h1, h2, h3⟩ j hj
    have r := h1 _ (gD_mem hj)
    refine ⟨tickB_yes r.1.1 r.1.2, decide_eq_true r.2, fun h0 => ?_⟩
    rw [gD_at hj, gD_at (show j - 1 < L.length by omega)]
    exact ⟨List.pairwise_iff_getElem.1 h3 (j - 1) j (by omega) hj (by omega), List.pairwise_iff_getElem.1 h2 (j - 1) j (by omega) hj (by omega)⟩
end Go.Proofs.Ytafkoddgefcpnab
