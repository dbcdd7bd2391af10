/- Lists of buckets: levels, totals, merges, which lists are valid, the closed form of the numbers of buckets. -/
import Derived.Test.YtegaeaonoggmkaaRows
import Derived.Test.YtegaeaonoggmkaaZMathq15
import Derived.Test.YtegaeaonoggmkaaZWFormatq9
namespace Go.Proofs.Ytegaeaonoggmkaa
open Go.RowKit

/-- The size of a bucket of a level. -/
def szB (l : Int) : Int := if 0 ≤ l ∧ l ≤ 30 then 2 ^ l.toNat else 0
/-- Total. -/
def totB : List It → Int
  | [] => 0
  | p :: L => szB p.2 + totB L
theorem totB_app (L M : List It) : totB (L ++ M) = totB L + totB M := by
  induction L with
  | nil => simp [totB]
  | cons p L ih => simp only [List.cons_append, totB, ih]; omega
theorem szB_low (l : Int) : 0 ≤ szB l := by
  unfold szB
  split
  · exact Int.le_of_lt (Int.pow_pos (by omega))
  · exact Int.le_refl _
theorem pwB1 (a : Nat) : (1 : Int) ≤ 2 ^ a := Int.pow_pos (by omega)
/-- Buckets of a level; buckets of greater levels. -/
def cn (l : Int) (X : List It) : Nat := X.countP (fun x => x.2 == l)
def gt (l : Int) (X : List It) : Nat := X.countP (fun x => decide (l < x.2))
def Ds (X : List It) : Prop := X.Pairwise (fun x y => y.2 ≤ x.2)
def As (X : List It) : Prop := X.Pairwise (fun x y => x.1 ≤ y.1)
theorem cn_nil (l : Int) : cn l [] = 0 := rfl
theorem cn_cons (l : Int) (x : It) (X : List It) : cn l (x :: X) = cn l X + (if x.2 = l then 1 else 0) := by
  unfold cn; rw [List.countP_cons]; simp
theorem gt_cons (l : Int) (x : It) (X : List It) : gt l (x :: X) = gt l X + (if l < x.2 then 1 else 0) := by
  unfold gt; rw [List.countP_cons]; simp
theorem cn_app (l : Int) (X Y : List It) : cn l (X ++ Y) = cn l X + cn l Y := List.countP_append
theorem cn_zero {l : Int} {X : List It} (h : ∀ x ∈ X, x.2 ≠ l) : cn l X = 0 := by
  unfold cn; rw [List.countP_eq_zero]; intro x hx; simpa using h x hx
theorem gt_zero {l : Int} {X : List It} (h : ∀ x ∈ X, x.2 ≤ l) : gt l X = 0 := by
  unfold gt; rw [List.countP_eq_zero]; intro x hx; have := h x hx; simp; omega
theorem cn_pos {l : Int} {X : List It} : 0 < cn l X ↔ ∃ x ∈ X, x.2 = l := by
  unfold cn; rw [List.countP_pos_iff]; simp
/-- Where two buckets of a level are, the list falls into parts. -/
theorem split2 {l : Int} : ∀ {X : List It}, Ds X → 2 ≤ cn l X → ∃ P a b Q, X = P ++ (a, l) :: (b, l) :: Q ∧ P.length = gt l X ∧ (∀ x ∈ P, l < x.2) ∧ (∀ x ∈ Q, x.2 ≤ l) := by
  intro X
  induction X with
  | nil => intro _ h; simp [cn] at h
  | cons x X ih =>
    intro hd hc
    unfold Ds at hd
    rw [List.pairwise_cons] at hd
    obtain ⟨h1, h2⟩ := hd
    rw [cn_cons] at hc
    rcases Int.lt_trichotomy l x.2 with g | g | g
    · rw [if_neg (by omega)] at hc
      obtain ⟨P, a, b, Q, e, e2, e3, e4⟩ := ih h2 (by omega)
      refine ⟨x :: P, a, b, Q, by rw [e]; rfl, ?_, ?_, e4⟩
      · rw [gt_cons, if_pos g, List.length_cons, e2]
      · intro y hy
        rcases List.mem_cons.1 hy with rfl | hy
        · exact g
        · exact e3 y hy
    · rw [if_pos g.symm] at hc
      cases X with
      | nil => simp [cn] at hc
      | cons y Y =>
        have hy : y.2 = l := by
          have hyl := h1 y List.mem_cons_self
          rcases Int.lt_or_eq_of_le hyl with g2 | g2
          · exfalso
            have : cn l (y :: Y) = 0 := cn_zero (fun z hz => by
              rcases List.mem_cons.1 hz with rfl | hz
              · omega
              · have := (List.pairwise_cons.1 h2).1 z hz; omega)
            omega
          · omega
        obtain ⟨x1, x2⟩ := x
        obtain ⟨y1, y2⟩ := y
        simp only at g hy h1
        subst g hy
        refine ⟨[], x1, y1, Y, rfl, ?_, fun z hz => by simp at hz, fun z hz => h1 z (List.mem_cons_of_mem _ hz)⟩
        rw [gt_zero]
        · rfl
        · intro z hz
          rcases List.mem_cons.1 hz with rfl | hz
          · exact Int.le_refl _
          · exact h1 z hz
    · exfalso
      rw [if_neg (by omega)] at hc
      have : cn l X = 0 := cn_zero (fun z hz => by have := h1 z hz; omega)
      omega
/-- The two oldest buckets of a level become one of the next. -/
def mgB (X : List It) (l : Int) : List It := X.take (gt l X) ++ ((X.getD (gt l X + 1) (0, 0)).1, l + 1) :: X.drop (gt l X + 2)
theorem mgB_split {l a b : Int} {P Q : List It} (h : P.length = gt l (P ++ (a, l) :: (b, l) :: Q)) : mgB (P ++ (a, l) :: (b, l) :: Q) l = P ++ (b, l + 1) :: Q := by
  unfold mgB
  rw [← h]
  simp [List.getD, List.drop_append, show P.length + 2 - P.length = 2 by omega]
def puS (k : Int) : Nat → Int → List It → List It
  | 0, _, X => X
  | n + 1, l, X => if (cn l X : Int) ≤ k + 1 then X else puS k n (l + 1) (mgB X l)
/-- The list behind one insertion. -/
def puB (k t : Int) (L : List It) : List It := puS k 31 0 (L ++ [(t, 0)])
/-- Ticks and levels within their limits. -/
def Rg (X : List It) : Prop := ∀ x ∈ X, (0 ≤ x.1 ∧ x.1 ≤ 16777216) ∧ 0 ≤ x.2 ∧ x.2 ≤ 30
/-- Levels below a bucket's are full. -/
def Fl (k : Int) (X : List It) : Prop := ∀ x ∈ X, ∀ j, 0 ≤ j → j < x.2 → k ≤ (cn j X : Int)
structure Va (X : List It) (k : Int) : Prop where
  k1 : 1 ≤ k
  k2 : k ≤ 128
  rg : Rg X
  ds : Ds X
  as_ : As X
  up : ∀ j, (cn j X : Int) ≤ k + 1
  fl : Fl k X
/-- The list while buckets are merged: level l may have one more. -/
structure Iv (X : List It) (k l T t : Int) : Prop where
  k1 : 1 ≤ k
  k2 : k ≤ 128
  l0 : 0 ≤ l
  rg : Rg X
  ds : Ds X
  as_ : As X
  up : ∀ j, j ≠ l → (cn j X : Int) ≤ k + 1
  at_ : (cn l X : Int) ≤ k + 2
  fl : Fl k X
  tot : totB X = T
  last : ∀ x ∈ X, x.1 ≤ t
theorem Ds.app {P Q : List It} : Ds (P ++ Q) ↔ Ds P ∧ Ds Q ∧ ∀ x ∈ P, ∀ y ∈ Q, y.2 ≤ x.2 := List.pairwise_append
theorem As.app {P Q : List It} : As (P ++ Q) ↔ As P ∧ As Q ∧ ∀ x ∈ P, ∀ y ∈ Q, x.1 ≤ y.1 := List.pairwise_append
theorem Ds.cons {x : It} {Q : List It} : Ds (x :: Q) ↔ (∀ y ∈ Q, y.2 ≤ x.2) ∧ Ds Q := List.pairwise_cons
theorem As.cons {x : It} {Q : List It} : As (x :: Q) ↔ (∀ y ∈ Q, x.1 ≤ y.1) ∧ As Q := List.pairwise_cons
theorem szB_two {l : Int} (h0 : 0 ≤ l) (h1 : l < 30) : szB (l + 1) = szB l + szB l := by
  unfold szB
  rw [if_pos (by omega), if_pos (by omega), show (l + 1).toNat = l.toNat + 1 by omega, Int.pow_succ]
  omega
theorem cn_parts (j l a b : Int) (P Q : List It) : cn j (P ++ (a, l) :: (b, l) :: Q) = cn j P + cn j Q + (if l = j then 2 else 0) := by
  rw [cn_app, cn_cons, cn_cons]
  simp only
  split <;> omega
theorem cn_part1 (j l b : Int) (P Q : List It) : cn j (P ++ (b, l + 1) :: Q) = cn j P + cn j Q + (if l + 1 = j then 1 else 0) := by
  rw [cn_app, cn_cons]
  simp only
  omega
/-- What one merge does to the numbers of buckets. -/
theorem mg_cn {X : List It} {l : Int} (hd : Ds X) (hc : 2 ≤ cn l X) (j : Int) : (cn j (mgB X l) : Int) = cn j X + (if j = l then -2 else if j = l + 1 then 1 else 0) := by
  obtain ⟨P, a, b, Q, rfl, e2, e3, e4⟩ := split2 hd hc
  rw [mgB_split e2, cn_parts, cn_part1]
  repeat' split
  all_goals omega
theorem mg_mem {X : List It} {l : Int} (hd : Ds X) (hc : 2 ≤ cn l X) {x : It} (hx : x ∈ mgB X l) : x ∈ X ∨ (x.2 = l + 1 ∧ (x.1, l) ∈ X) := by
  obtain ⟨P, a, b, Q, rfl, e2, e3, e4⟩ := split2 hd hc
  rw [mgB_split e2] at hx
  rcases List.mem_append.1 hx with h | h
  · exact Or.inl (List.mem_append_left _ h)
  · rcases List.mem_cons.1 h with rfl | h
    · exact Or.inr ⟨rfl, by simp⟩
    · exact Or.inl (by simp [h])
theorem mg_ds {X : List It} {l : Int} (hd : Ds X) (hc : 2 ≤ cn l X) : Ds (mgB X l) := by
  obtain ⟨P, a, b, Q, rfl, e2, e3, e4⟩ := split2 hd hc
  rw [mgB_split e2]
  rw [Ds.app, Ds.cons, Ds.cons] at hd
  rw [Ds.app, Ds.cons]
  refine ⟨hd.1, ⟨fun y hy => by have := e4 y hy; simp only; omega, hd.2.1.2.2⟩, fun x hx y hy => ?_⟩
  have h1 := e3 x hx
  rcases List.mem_cons.1 hy with rfl | hy
  · simp only; omega
  · have := e4 y hy; omega
theorem mg_as {X : List It} {l : Int} (ha : As X) (hd : Ds X) (hc : 2 ≤ cn l X) : As (mgB X l) := by
  obtain ⟨P, a, b, Q, rfl, e2, e3, e4⟩ := split2 hd hc
  rw [mgB_split e2]
  rw [As.app, As.cons, As.cons] at ha
  rw [As.app, As.cons]
  refine ⟨ha.1, ha.2.1.2, fun x hx y hy => ?_⟩
  rcases List.mem_cons.1 hy with rfl | hy
  · exact ha.2.2 x hx (b, l) (by simp)
  · exact ha.2.2 x hx y (by simp [hy])
theorem mg_tot {X : List It} {l : Int} (h0 : 0 ≤ l) (h1 : l < 30) (hd : Ds X) (hc : 2 ≤ cn l X) : totB (mgB X l) = totB X := by
  obtain ⟨P, a, b, Q, rfl, e2, e3, e4⟩ := split2 hd hc
  rw [mgB_split e2, totB_app, totB_app]
  simp only [totB]
  rw [szB_two h0 h1]
  omega
theorem cn_tot {X : List It} {l : Int} (h0 : 0 ≤ l) (h1 : l ≤ 30) : (cn l X : Int) * 2 ^ l.toNat ≤ totB X := by
  induction X with
  | nil => simp [cn, totB]
  | cons x X ih =>
    rw [cn_cons]
    simp only [totB]
    split
    next e =>
      rw [show szB x.2 = 2 ^ l.toNat by unfold szB; rw [e, if_pos ⟨h0, h1⟩], Int.natCast_add, Int.add_mul]
      omega
    next e => have := szB_low x.2; rw [Nat.add_zero]; omega
/-- At the last level nothing is merged. -/
theorem Iv.top {X : List It} {k l T t : Int} (h : Iv X k l T t) (hT : T ≤ 1073741824) (hl : l = 30) : (cn l X : Int) ≤ k + 1 := by
  subst hl
  have := cn_tot (X := X) (l := 30) (by omega) (by omega)
  rw [h.tot] at this
  have h1 := h.k1
  have e : (2 : Int) ^ (30 : Int).toNat = 1073741824 := by decide
  rw [e] at this
  omega
theorem Iv.next {X : List It} {k l T t : Int} (h : Iv X k l T t) (hT : T ≤ 1073741824) (hl : l ≤ 30) (hc : ¬ (cn l X : Int) ≤ k + 1) : l < 30 ∧ (cn l X : Int) = k + 2 ∧ 2 ≤ cn l X ∧ Iv (mgB X l) k (l + 1) T t := by
  have hlt : l < 30 := by
    rcases Int.lt_or_eq_of_le hl with g | g
    · exact g
    · exact absurd (h.top hT g) hc
  have h1 := h.k1
  have h2 := h.at_
  have hc2 : 2 ≤ cn l X := by omega
  have hcn := mg_cn h.ds hc2
  refine ⟨hlt, by omega, hc2, ⟨h.k1, h.k2, by have := h.l0; omega, ?_, mg_ds h.ds hc2, mg_as h.as_ h.ds hc2, ?_, ?_, ?_, (mg_tot h.l0 hlt h.ds hc2).trans h.tot, ?_⟩⟩
  · intro x hx
    rcases mg_mem h.ds hc2 hx with g | ⟨g, g2⟩
    · exact h.rg x g
    · have q := (h.rg _ g2).1
      have := h.l0
      exact ⟨q, by omega, by omega⟩
  · intro j hj
    rw [hcn]
    by_cases e : j = l
    · rw [if_pos e]; subst e; omega
    · rw [if_neg e, if_neg hj]
      have := h.up j e
      omega
  · rw [hcn, if_neg (by omega), if_pos rfl]
    have := h.up (l + 1) (by omega)
    omega
  · intro x hx j hj hjx
    rw [hcn]
    by_cases e : j = l
    · rw [if_pos e]; subst e; omega
    · rw [if_neg e]
      have hk : k ≤ (cn j X : Int) := by
        rcases mg_mem h.ds hc2 hx with g | ⟨g, g2⟩
        · exact h.fl x g j hj hjx
        · exact h.fl _ g2 j hj (by simp only; omega)
      split <;> omega
  · intro x hx
    rcases mg_mem h.ds hc2 hx with g | ⟨_, g2⟩
    · exact h.last x g
    · exact h.last (x.1, l) g2
theorem Iv.done {X : List It} {k l T t : Int} (h : Iv X k l T t) (hc : (cn l X : Int) ≤ k + 1) : Va X k :=
  ⟨h.k1, h.k2, h.rg, h.ds, h.as_, fun j => by
    by_cases e : j = l
    · rw [e]; exact hc
    · exact h.up j e, h.fl⟩
theorem puS_at {k : Int} {n : Nat} {l : Int} {X : List It} (h : (cn l X : Int) ≤ k + 1) : puS k n l X = X := by
  cases n with
  | zero => rfl
  | succ n => unfold puS; rw [if_pos h]
theorem puS_step {k : Int} {n : Nat} {l : Int} {X : List It} (h : ¬ (cn l X : Int) ≤ k + 1) : puS k (n + 1) l X = puS k n (l + 1) (mgB X l) := by
  rw [puS, if_neg h]
theorem puS_va {k T t : Int} (hT : T ≤ 1073741824) : ∀ {n : Nat} {l : Int} {X : List It}, Iv X k l T t → l + n = 31 → 0 < n → Va (puS k n l X) k ∧ totB (puS k n l X) = T ∧ ∀ x ∈ puS k n l X, x.1 ≤ t := by
  intro n
  induction n with
  | zero => intro l X _ _ h0; exact absurd h0 (by omega)
  | succ n ih =>
    intro l X h hn _
    by_cases hc : (cn l X : Int) ≤ k + 1
    · rw [puS_at hc]; exact ⟨h.done hc, h.tot, h.last⟩
    · rw [puS_step hc]
      obtain ⟨h1, h2, h3, h4⟩ := h.next hT (by omega) hc
      exact ih h4 (by omega) (by omega)
theorem Va.start {X : List It} {k t : Int} (h : Va X k) (h0 : 0 ≤ t) (h1 : t ≤ 16777216) (hl : ∀ x ∈ X, x.1 ≤ t) : Iv (X ++ [(t, 0)]) k 0 (totB X + 1) t := by
  have hcn : ∀ j, cn j (X ++ [(t, 0)]) = cn j X + (if (0 : Int) = j then 1 else 0) := fun j => by rw [cn_app, cn_cons, cn_nil, Nat.zero_add]
  refine ⟨h.k1, h.k2, Int.le_refl _, ?_, ?_, ?_, ?_, ?_, ?_, ?_, ?_⟩
  · intro x hx
    rcases List.mem_append.1 hx with g | g
    · exact h.rg x g
    · simp only [List.mem_singleton] at g; subst g; exact ⟨⟨h0, h1⟩, Int.le_refl _, by simp only; omega⟩
  · rw [Ds.app]
    refine ⟨h.ds, List.pairwise_singleton _ _, fun x hx y hy => ?_⟩
    simp only [List.mem_singleton] at hy; subst hy
    exact (h.rg x hx).2.1
  · rw [As.app]
    refine ⟨h.as_, List.pairwise_singleton _ _, fun x hx y hy => ?_⟩
    simp only [List.mem_singleton] at hy; subst hy
    exact hl x hx
  · intro j hj
    rw [hcn, if_neg (fun e => hj e.symm)]
    exact h.up j
  · rw [hcn, if_pos rfl]
    have := h.up 0
    omega
  · intro x hx j hj hjx
    rw [hcn]
    rcases List.mem_append.1 hx with g | g
    · have := h.fl x g j hj hjx
      split <;> omega
    · simp only [List.mem_singleton] at g; subst g; simp only at hjx; omega
  · rw [totB_app]
    have : totB [(t, 0)] = 1 := by simp [totB, szB]
    omega
  · intro x hx
    rcases List.mem_append.1 hx with g | g
    · exact hl x g
    · simp only [List.mem_singleton] at g; subst g; exact Int.le_refl _
theorem puB_va {X : List It} {k t : Int} (h : Va X k) (h0 : 0 ≤ t) (h1 : t ≤ 16777216) (hl : ∀ x ∈ X, x.1 ≤ t) (hT : totB X < 1073741824) : Va (puB k t X) k ∧ totB (puB k t X) = totB X + 1 ∧ ∀ x ∈ puB k t X, x.1 ≤ t :=
  puS_va (by omega) (h.start h0 h1 hl) rfl (by omega)
theorem Va.nil {k : Int} (h1 : 1 ≤ k) (h2 : k ≤ 128) : Va [] k :=
  ⟨h1, h2, fun x hx => (by cases hx), List.Pairwise.nil, List.Pairwise.nil, fun j => (by rw [cn_nil]; omega), fun x hx => (by cases hx)⟩
def vlB : List Int → Int
  | [] => 0
  | c :: cs => c + 2 * vlB cs
def smB : List Int → Int
  | [] => 0
  | c :: cs => c + smB cs
theorem pow_succ2 (f : Nat) : (2 : Int) ^ (f + 1) = 2 * 2 ^ f := by rw [Int.pow_succ]; omega
/-- The numbers of buckets of a valid list. -/
def Gd (k : Int) : List Int → Prop
  | [] => True
  | c :: cs => c ≤ k + 1 ∧ (cs ≠ [] → k ≤ c) ∧ 1 ≤ c ∧ Gd k cs
theorem Gd.low {k : Int} (_hk : 1 ≤ k) : ∀ {cs : List Int}, Gd k cs → cs ≠ [] → 2 ^ (cs.length - 1) * (1 + k) - k ≤ vlB cs := by
  intro cs
  induction cs with
  | nil => intro _ h; exact absurd rfl h
  | cons c cs ih =>
    intro h _
    obtain ⟨h1, h2, h3, h4⟩ := h
    cases cs with
    | nil => simp [vlB]; omega
    | cons d ds =>
      have g := ih h4 (by simp)
      have g2 := h2 (by simp)
      simp only [List.length_cons, Nat.add_sub_cancel] at g ⊢
      rw [pow_succ2, Int.mul_assoc]
      rw [vlB]
      omega
/-- The numbers of buckets of each level. -/
def tpB (X : List It) : Nat := (X.getD 0 (0, 0)).2.toNat
def ctL (X : List It) : List Int := if X = [] then [] else (List.range (tpB X + 1)).map (fun j : Nat => (cn (j : Int) X : Int))
theorem vlB_add (f g : Nat → Int) (R : List Nat) : vlB (R.map (fun j => f j + g j)) = vlB (R.map f) + vlB (R.map g) := by
  induction R with
  | nil => rfl
  | cons a R ih => simp only [List.map_cons, vlB, ih]; omega
theorem smB_add (f g : Nat → Int) (R : List Nat) : smB (R.map (fun j => f j + g j)) = smB (R.map f) + smB (R.map g) := by
  induction R with
  | nil => rfl
  | cons a R ih => simp only [List.map_cons, smB, ih]; omega
theorem vlB_zero (R : List Nat) : vlB (R.map (fun _ => (0 : Int))) = 0 := by
  induction R with
  | nil => rfl
  | cons a R ih => simp only [List.map_cons, vlB, ih]; omega
theorem smB_zero (R : List Nat) : smB (R.map (fun _ => (0 : Int))) = 0 := by
  induction R with
  | nil => rfl
  | cons a R ih => simp only [List.map_cons, smB, ih]; omega
theorem range_map (f : Nat → Int) (m : Nat) : (List.range (m + 1)).map f = f 0 :: (List.range m).map (fun j => f (j + 1)) := by
  rw [List.range_succ_eq_map, List.map_cons, List.map_map]
  rfl
theorem vlB_one : ∀ (m a : Nat), a < m → vlB ((List.range m).map (fun j => if a = j then (1 : Int) else 0)) = 2 ^ a := by
  intro m
  induction m with
  | zero => intro a h; omega
  | succ m ih =>
    intro a h
    rw [range_map, vlB]
    cases a with
    | zero =>
      have e : (List.range m).map (fun j => if 0 = j + 1 then (1 : Int) else 0) = (List.range m).map (fun _ => (0 : Int)) := List.map_congr_left (fun j _ => if_neg (by omega))
      rw [e, vlB_zero]; rfl
    | succ a =>
      have e : (List.range m).map (fun j => if a + 1 = j + 1 then (1 : Int) else 0) = (List.range m).map (fun j => if a = j then (1 : Int) else 0) := List.map_congr_left (fun j _ => by simp)
      rw [e, ih a (by omega), if_neg (by omega), pow_succ2]; omega
theorem smB_one : ∀ (m a : Nat), a < m → smB ((List.range m).map (fun j => if a = j then (1 : Int) else 0)) = 1 := by
  intro m
  induction m with
  | zero => intro a h; omega
  | succ m ih =>
    intro a h
    rw [range_map, smB]
    cases a with
    | zero =>
      have e : (List.range m).map (fun j => if 0 = j + 1 then (1 : Int) else 0) = (List.range m).map (fun _ => (0 : Int)) := List.map_congr_left (fun j _ => if_neg (by omega))
      rw [e, smB_zero]; rfl
    | succ a =>
      have e : (List.range m).map (fun j => if a + 1 = j + 1 then (1 : Int) else 0) = (List.range m).map (fun j => if a = j then (1 : Int) else 0) := List.map_congr_left (fun j _ => by simp)
      rw [e, ih a (by omega), if_neg (by omega)]; omega
theorem cn_split (x : It) (X : List It) (h0 : 0 ≤ x.2) (m : Nat) : (List.range m).map (fun j : Nat => (cn (j : Int) (x :: X) : Int)) = (List.range m).map (fun j : Nat => (cn (j : Int) X : Int) + (if x.2.toNat = j then (1 : Int) else 0)) := by
  refine List.map_congr_left (fun j _ => ?_)
  rw [cn_cons]
  split
  next e => rw [if_pos (by omega)]; omega
  next e => rw [if_neg (by omega)]; omega
theorem cn_val (m : Nat) (hm : m ≤ 31) : ∀ (X : List It), (∀ x ∈ X, 0 ≤ x.2 ∧ x.2 < m) → vlB ((List.range m).map (fun j : Nat => (cn (j : Int) X : Int))) = totB X ∧ smB ((List.range m).map (fun j : Nat => (cn (j : Int) X : Int))) = (X.length : Int) := by
  intro X
  induction X with
  | nil => intro _; exact ⟨vlB_zero _, smB_zero _⟩
  | cons x X ih =>
    intro h
    obtain ⟨i1, i2⟩ := ih (fun y hy => h y (List.mem_cons_of_mem _ hy))
    obtain ⟨h0, h1⟩ := h x List.mem_cons_self
    rw [cn_split x X h0 m, vlB_add, smB_add, i1, i2, vlB_one m _ (by omega), smB_one m _ (by omega)]
    refine ⟨?_, by rw [List.length_cons]; omega⟩
    simp only [totB, szB]
    rw [if_pos (by omega)]; omega
theorem Gd.of_map {k : Int} : ∀ (m : Nat) (f : Nat → Int), (∀ j, j < m → k ≤ f j) → (∀ j, j ≤ m → f j ≤ k + 1) → 1 ≤ k → 1 ≤ f m → Gd k ((List.range (m + 1)).map f) := by
  intro m
  induction m with
  | zero =>
    intro f _ h2 _ h3
    have e : (List.range (0 + 1)).map f = [f 0] := rfl
    rw [e]
    exact ⟨h2 0 (by omega), fun h => absurd rfl h, h3, trivial⟩
  | succ m ih =>
    intro f h1 h2 hk h3
    rw [range_map]
    have := h1 0 (by omega)
    refine ⟨h2 0 (by omega), fun _ => this, by omega, ih (fun j => f (j + 1)) (fun j hj => h1 (j + 1) (by omega)) (fun j hj => h2 (j + 1) (by omega)) hk h3⟩
theorem getD0_mem {X : List It} (h : X ≠ []) : X.getD 0 (0, 0) ∈ X := by
  cases X with
  | nil => exact absurd rfl h
  | cons x X => simp
theorem Ds.top {X : List It} (h : Ds X) : ∀ x ∈ X, x.2 ≤ (X.getD 0 (0, 0)).2 := by
  cases X with
  | nil => intro x hx; cases hx
  | cons y X =>
    intro x hx
    rcases List.mem_cons.1 hx with rfl | hx
    · exact Int.le_refl _
    · exact (Ds.cons.1 h).1 x hx
theorem ctL_len (X : List It) (h : X ≠ []) : (ctL X).length = tpB X + 1 := by unfold ctL; rw [if_neg h]; simp
/-- What the numbers of buckets say of a valid list. -/
theorem Va.gd {X : List It} {k : Int} (h : Va X k) : Gd k (ctL X) ∧ vlB (ctL X) = totB X ∧ smB (ctL X) = (X.length : Int) := by
  by_cases hX : X = []
  · subst hX; exact ⟨trivial, rfl, rfl⟩
  have hm := getD0_mem hX
  have ht := h.ds.top
  have hr := h.rg _ hm
  unfold ctL
  rw [if_neg hX]
  have e : ((tpB X : Nat) : Int) = (X.getD 0 (0, 0)).2 := by unfold tpB; omega
  obtain ⟨c1, c2⟩ := cn_val (tpB X + 1) (by unfold tpB; omega) X (fun x hx => ⟨(h.rg x hx).2.1, by have := ht x hx; omega⟩)
  refine ⟨Gd.of_map _ _ (fun j hj => ?_) (fun j _ => h.up j) h.k1 ?_, c1, c2⟩
  · exact h.fl _ hm j (by omega) (by omega)
  · have : 0 < cn ((tpB X : Nat) : Int) X := cn_pos.2 ⟨_, hm, e.symm⟩
    omega
theorem Va.narrow {X : List It} {k : Int} (h : Va X k) (hX : X ≠ []) : k * (szB (X.getD 0 (0, 0)).2 - 1) + 1 ≤ totB X - szB (X.getD 0 (0, 0)).2 + 1 ∧ 1 ≤ szB (X.getD 0 (0, 0)).2 ∧ szB (X.getD 0 (0, 0)).2 ≤ totB X := by
  obtain ⟨h1, h2, h3⟩ := h.gd
  have hr := h.rg _ (getD0_mem hX)
  have g := h1.low h.k1 (by intro e; have := ctL_len X hX; rw [e] at this; simp at this)
  rw [h2, ctL_len X hX, Nat.add_sub_cancel] at g
  have e : szB (X.getD 0 (0, 0)).2 = 2 ^ tpB X := by unfold szB tpB; rw [if_pos (by omega)]
  rw [e]
  have p := pwB1 (tpB X)
  generalize (2 : Int) ^ tpB X = z at *
  have hk := h.k1
  rw [Int.mul_sub]
  rw [Int.mul_add, Int.mul_comm z k] at g
  have q : k * 1 ≤ k * z := Int.mul_le_mul_of_nonneg_left p (by omega)
  omega
end Go.Proofs.Ytegaeaonoggmkaa
