/- Lists of buckets: levels, totals, merges, which lists are valid, the closed form of the numbers of buckets. -/
import Derived.Test.YtfcknhpllhkpeaaRows
import Derived.Test.YtfcknhpllhkpeaaZGBaseq3
namespace Go.Proofs.Ytfcknhpllhkpeaa
open Go.RowKit

/-- The size of a bucket of a level. -/
def szB (l : Int) : Int := if 0 ≤ l ∧ l ≤ 30 then 2 ^ l.toNat else 0
/-- Total. -/
def totB : List It → Int
  | [] => 0
  | p :: L => szB p.2 + totB L
theorem totB_app (L M : List It) : totB (L ++ M) = totB L + totB M := by
  induction L with
  | nil => simp [totB]
  | cons p L ih => simp only [List.cons_append, totB, ih]; omega
theorem szB_low (l : Int) : 0 ≤ szB l := by
  unfold szB
  split
  · exact Int.le_of_lt (Int.pow_pos (by omega))
  · exact Int.le_refl _
/-- Buckets of a level; buckets of greater levels. -/
def cn (l : Int) (X : List It) : Nat := X.countP (fun x => x.2 == l)
def gt (l : Int) (X : List It) : Nat := X.countP (fun x => decide (l < x.2))
def Ds (X : List It) : Prop := X.Pairwise (fun x y => y.2 ≤ x.2)
def As (X : List It) : Prop := X.Pairwise (fun x y => x.1 ≤ y.1)
theorem cn_nil (l : Int) : cn l [] = 0 := rfl
theorem cn_cons (l : Int) (x : It) (X : List It) : cn l (x :: X) = cn l X + (if x.2 = l then 1 else 0) := by
  unfold cn; rw [List.countP_cons]; simp
theorem gt_cons (l : Int) (x : It) (X : List It) : gt l (x :: X) = gt l X + (if l < x.2 then 1 else 0) := by
  unfold gt; rw [List.countP_cons]; simp
theorem cn_app (l : Int) (X Y : List It) : cn l (X ++ Y) = cn l X + cn l Y := List.countP_append
theorem cn_zero {l : Int} {X : List It} (h : ∀ x ∈ X, x.2 ≠ l) : cn l X = 0 := by
  unfold cn; rw [List.countP_eq_zero]; intro x hx; simpa using h x hx
theorem gt_zero {l : Int} {X : List It} (h : ∀ x ∈ X, x.2 ≤ l) : gt l X = 0 := by
  unfold gt; rw [List.countP_eq_zero]; intro x hx; have := h x hx; simp; omega
/-- Where two buckets of a level are, the list falls into parts. -/
theorem split2 {l : Int} : ∀ {X : List It}, Ds X → 2 ≤ cn l X → ∃ P a b Q, X = P ++ (a, l) :: (b, l) :: Q ∧ P.length = gt l X ∧ (∀ x ∈ P, l < x.2) ∧ (∀ x ∈ Q, x.2 ≤ l) := by
  intro X
  induction X with
  | nil => intro _ h; simp [cn] at h
  | cons x X ih =>
    intro hd hc
    unfold Ds at hd
    rw [List.pairwise_cons] at hd
    obtain ⟨h1, h2⟩ := hd
    rw [cn_cons] at hc
    rcases Int.lt_trichotomy l x.2 with g | g | g
    · rw [if_neg (by omega)] at hc
      obtain ⟨P, a, b, Q, e, e2, e3, e4⟩ := ih h2 (by omega)
      refine ⟨x :: P, a, b, Q, by rw [e]; rfl, ?_, ?_, e4⟩
      · rw [gt_cons, if_pos g, List.length_cons, e2]
      · intro y hy
        rcases List.mem_cons.1 hy with rfl | hy
        · exact g
        · exact e3 y hy
    · rw [if_pos g.symm] at hc
      cases X with
      | nil => simp [cn] at hc
      | cons y Y =>
        have hy : y.2 = l := by
          have hyl := h1 y List.mem_cons_self
          rcases Int.lt_or_eq_of_le hyl with g2 | g2
          · exfalso
            have : cn l (y :: Y) = 0 := cn_zero (fun z hz => by
              rcases List.mem_cons.1 hz with rfl | hz
              · omega
              · have := (List.pairwise_cons.1 h2).1 z hz; omega)
            omega
          · omega
        obtain ⟨x1, x2⟩ := x
        obtain ⟨y1, y2⟩ := y
        simp only at g hy h1
        subst g hy
        refine ⟨[], x1, y1, Y, rfl, ?_, fun z hz => by simp at hz, fun z hz => h1 z (List.mem_cons_of_mem _ hz)⟩
        rw [gt_zero]
        · rfl
        · intro z hz
          rcases List.mem_cons.1 hz with rfl | hz
          · exact Int.le_refl _
          · exact h1 z hz
    · exfalso
      rw [if_neg (by omega)] at hc
      have : cn l X = 0 := cn_zero (fun z hz => by have := h1 z hz; omega)
      omega
/-- The two oldest buckets of a level become one of the next. -/
def mgB (X : List It) (l : Int) : List It := X.take (gt l X) ++ ((X.getD (gt l X + 1) (0, 0)).1, l + 1) :: X.drop (gt l X + 2)
theorem mgB_split {l a b : Int} {P Q : List It} (h : P.length = gt l (P ++ (a, l) :: (b, l) :: Q)) : mgB (P ++ (a, l) :: (b, l) :: Q) l = P ++ (b, l + 1) :: Q := by
  unfold mgB
  rw [← h]
  simp [List.getD, List.drop_append, show P.length + 2 - P.length = 2 by omega]
/-- Ticks and levels within their limits. -/
def Rg (X : List It) : Prop := ∀ x ∈ X, (0 ≤ x.1 ∧ x.1 ≤ 16777216) ∧ 0 ≤ x.2 ∧ x.2 ≤ 30
/-- Levels below a bucket's are full. -/
def Fl (k : Int) (X : List It) : Prop := ∀ x ∈ X, ∀ j, 0 ≤ j → j < x.2 → k ≤ (cn j X : Int)
structure Va (X : List It) (k : Int) : Prop where
  k1 : 1 ≤ k
  k2 : k ≤ 128
  rg : Rg X
  ds : Ds X
  as_ : As X
  up : ∀ j, (cn j X : Int) ≤ k + 1
  fl : Fl k X
/-- The list while buckets are merged: level l may have one more. -/
structure Iv (X : List It) (k l T t : Int) : Prop where
  k1 : 1 ≤ k
  k2 : k ≤ 128
  l0 : 0 ≤ l
  rg : Rg X
  ds : Ds X
  as_ : As X
  up : ∀ j, j ≠ l → (cn j X : Int) ≤ k + 1
  at_ : (cn l X : Int) ≤ k + 2
  fl : Fl k X
  tot : totB X = T
  last : ∀ x ∈ X, x.1 ≤ t
theorem Ds.app {P Q : List It} : Ds (P ++ Q) ↔ Ds P ∧ Ds Q ∧ ∀ x ∈ P, ∀ y ∈ Q, y.2 ≤ x.2 := List.pairwise_append
theorem As.app {P Q : List It} : As (P ++ Q) ↔ As P ∧ As Q ∧ ∀ x ∈ P, ∀ y ∈ Q, x.1 ≤ y.1 := List.pairwise_append
theorem Ds.cons {x : It} {Q : List It} : Ds (x :: Q) ↔ (∀ y ∈ Q, y.2 ≤ x.2) ∧ Ds Q := List.pairwise_cons
theorem As.cons {x : It} {Q : List It} : As (x :: Q) ↔ (∀ y ∈ Q, x.1 ≤ y.1) ∧ As Q := List.pairwise_cons
theorem szB_two {l : Int} (h0 : 0 ≤ l) (h1 : l < 30) : szB (l + 1) = szB l + szB l := by
  unfold szB
  rw [if_pos (by omega), if_pos (by omega), show (l + 1).toNat = l.toNat + 1 by omega, Int.pow_succ]
  omega
theorem cn_parts (j l a b : Int) (P Q : List It) : cn j (P ++ (a, l) :: (b, l) :: Q) = cn j P + cn j Q + (if l = j then 2 else 0) := by
  rw [cn_app, cn_cons, cn_cons]
  simp only
  split <;> omega
theorem cn_part1 (j l b : Int) (P Q : List It) : cn j (P ++ (b, l + 1) :: Q) = cn j P + cn j Q + (if l + 1 = j then 1 else 0) := by
  rw [cn_app, cn_cons]
  simp only
  omega
/-- What one merge does to the numbers of buckets. -/
theorem mg_cn {X : List It} {l : Int} (hd : Ds X) (hc : 2 ≤ cn l X) (j : Int) : (cn j (mgB X l) : Int) = cn j X + (if j = l then -2 else if j = l + 1 then 1 else 0) := by
  obtain ⟨P, a, b, Q, rfl, e2, e3, e4⟩ := split2 hd hc
  rw [mgB_split e2, cn_parts, cn_part1]
  repeat' split
  all_goals omega
theorem mg_mem {X : List It} {l : Int} (hd : Ds X) (hc : 2 ≤ cn l X) {x : It} (hx : x ∈ mgB X l) : x ∈ X ∨ (x.2 = l + 1 ∧ (x.1, l) ∈ X) := by
  obtain ⟨P, a, b, Q, rfl, e2, e3, e4⟩ := split2 hd hc
  rw [mgB_split e2] at hx
  rcases List.mem_append.1 hx with h | h
  · exact Or.inl (List.mem_append_left _ h)
  · rcases List.mem_cons.1 h with rfl | h
    · exact Or.inr ⟨rfl, by simp⟩
    · exact Or.inl (by simp [h])
theorem mg_ds {X : List It} {l : Int} (hd : Ds X) (hc : 2 ≤ cn l X) : Ds (mgB X l) := by
  obtain ⟨P, a, b, Q, rfl, e2, e3, e4⟩ := split2 hd hc
  rw [mgB_split e2]
  rw [Ds.app, Ds.cons, Ds.cons] at hd
  rw [Ds.app, Ds.cons]
  refine ⟨hd.1, ⟨fun y hy => by have := e4 y hy; simp only; omega, hd.2.1.2.2⟩, fun x hx y hy => ?_⟩
  have h1 := e3 x hx
  rcases List.mem_cons.1 hy with rfl | hy
  · simp only; omega
  · have := e4 y hy; omega
theorem mg_as {X : List It} {l : Int} (ha : As X) (hd : Ds X) (hc : 2 ≤ cn l X) : As (mgB X l) := by
  obtain ⟨P, a, b, Q, rfl, e2, e3, e4⟩ := split2 hd hc
  rw [mgB_split e2]
  rw [As.app, As.cons, As.cons] at ha
  rw [As.app, As.cons]
  refine ⟨ha.1, ha.2.1.2, fun x hx y hy => ?_⟩
  rcases List.mem_cons.1 hy with rfl | hy
  · exact ha.2.2 x hx (b, l) (by simp)
  · exact ha.2.2 x hx y (by simp [hy])
theorem mg_tot {X : List It} {l : Int} (h0 : 0 ≤ l) (h1 : l < 30) (hd : Ds X) (hc : 2 ≤ cn l X) : totB (mgB X l) = totB X := by
  obtain ⟨P, a, b, Q, rfl, e2, e3, e4⟩ := split2 hd hc
  rw [mgB_split e2, totB_app, totB_app]
  simp only [totB]
  rw [szB_two h0 h1]
  omega
theorem cn_tot {X : List It} {l : Int} (h0 : 0 ≤ l) (h1 : l ≤ 30) : (cn l X : Int) * 2 ^ l.toNat ≤ totB X := by
  induction X with
  | nil => simp [cn, totB]
  | cons x X ih =>
    rw [cn_cons]
    simp only [totB]
    split
    next e =>
      rw [show szB x.2 = 2 ^ l.toNat by unfold szB; rw [e, if_pos ⟨h0, h1⟩], Int.natCast_add, Int.add_mul]
      omega
    next e => have := szB_low x.2; rw [Nat.add_zero]; omega
/-- At the last level nothing is merged. -/
theorem Iv.top {X : List It} {k l T t : Int} (h : Iv X k l T t) (hT : T ≤ 1073741824) (hl : l = 30) : (cn l X : Int) ≤ k + 1 := by
  subst hl
  have := cn_tot (X := X) (l := 30) (by omega) (by omega)
  rw [h.tot] at this
  have h1 := h.k1
  have e : (2 : Int) ^ (30 : Int).toNat = 1073741824 := by decide
  rw [e] at this
  omega
theorem Iv.next {X : List It} {k l T t : Int} (h : Iv X k l T t) (hT : T ≤ 1073741824) (hl : l ≤ 30) (hc : ¬ (cn l X : Int) ≤ k + 1) : l < 30 ∧ (cn l X : Int) = k + 2 ∧ 2 ≤ cn l X ∧ Iv (mgB X l) k (l + 1) T t := by
  have hlt : l < 30 := by
    rcases Int.lt_or_eq_of_le hl with g | g
    · exact g
    · exact absurd (h.top hT g) hc
  have h1 := h.k1
  have h2 := h.at_
  have hc2 : 2 ≤ cn l X := by omega
  have hcn := mg_cn h.ds hc2
  refine ⟨hlt, by omega, hc2, ⟨h.k1, h.k2, by have := h.l0; omega, ?_, mg_ds h.ds hc2, mg_as h.as_ h.ds hc2, ?_, ?_, ?_, (mg_tot h.l0 hlt h.ds hc2).trans h.tot, ?_⟩⟩
  · intro x hx
    rcases mg_mem h.ds hc2 hx with g | ⟨g, g2⟩
    · exact h.rg x g
    · have q := (h.rg _ g2).1
      have := h.l0
      exact ⟨q, by omega, by omega⟩
  · intro j hj
    rw [hcn]
    by_cases e : j = l
    · rw [if_pos e]; subst e; omega
    · rw [if_neg e, if_neg hj]
      have := h.up j e
      omega
  · rw [hcn, if_neg (by omega), if_pos rfl]
    have := h.up (l + 1) (by omega)
    omega
  · intro x hx j hj hjx
    rw [hcn]
    by_cases e : j = l
    · rw [if_pos e]; subst e; omega
    · rw [if_neg e]
      have hk : k ≤ (cn j X : Int) := by
        rcases mg_mem h.ds hc2 hx with g | ⟨g, g2⟩
        · exact h.fl x g j hj hjx
        · exact h.fl _ g2 j hj (by simp only; omega)
      split <;> omega
  · intro x hx
    rcases mg_mem h.ds hc2 hx with g | ⟨_, g2⟩
    · exact h.last x g
    · exact h.last (x.1, l) g2
theorem Va.start {X : List It} {k t : Int} (h : Va X k) (h0 : 0 ≤ t) (h1 : t ≤ 16777216) (hl : ∀ x ∈ X, x.1 ≤ t) : Iv (X ++ [(t, 0)]) k 0 (totB X + 1) t := by
  have hcn : ∀ j, cn j (X ++ [(t, 0)]) = cn j X + (if (0 : Int) = j then 1 else 0) := fun j => by rw [cn_app, cn_cons, cn_nil, Nat.zero_add]
  refine ⟨h.k1, h.k2, Int.le_refl _, ?_, ?_, ?_, ?_, ?_, ?_, ?_, ?_⟩
  · intro x hx
    rcases List.mem_append.1 hx with g | g
    · exact h.rg x g
    · simp only [List.mem_singleton] at g; subst g; exact ⟨⟨h0, h1⟩, Int.le_refl _, by simp only; omega⟩
  · rw [Ds.app]
    refine ⟨h.ds, List.pairwise_singleton _ _, fun x hx y hy => ?_⟩
    simp only [List.mem_singleton] at hy; subst hy
    exact (h.rg x hx).2.1
  · rw [As.app]
    refine ⟨h.as_, List.pairwise_singleton _ _, fun x hx y hy => ?_⟩
    simp only [List.mem_singleton] at hy; subst hy
    exact hl x hx
  · intro j hj
    rw [hcn, if_neg (fun e => hj e.symm)]
    exact h.up j
  · rw [hcn, if_pos rfl]
    have := h.up 0
    omega
  · intro x hx j hj hjx
    rw [hcn]
    rcases List.mem_append.1 hx with g | g
    · have := h.fl x g j hj hjx
      split <;> omega
    · simp only [List.mem_singleton] at g; subst g; simp only at hjx; omega
  · rw [totB_app]
    have : totB [(t, 0)] = 1 := by simp [totB, szB]
    omega
  · intro x hx
    rcases List.mem_append.1 hx with g | g
    · exact hl x g
    · simp only [List.mem_singleton] at g; subst g; exact Int.le_refl _
theorem Ds.top {X : List It} (h : Ds X) : ∀ x ∈ X, x.2 ≤ (X.getD 0 (0, 0)).2 := by
  cases X with
  | nil => intro x hx; cases hx
  | cons y X =>
    intro x hx
    rcases List.mem_cons.1 hx with rfl | hx
    · exact Int.le_refl _
    · exact (Ds.cons.1 h).1 x hx
end Go.Proofs.Ytfcknhpllhkpeaa
