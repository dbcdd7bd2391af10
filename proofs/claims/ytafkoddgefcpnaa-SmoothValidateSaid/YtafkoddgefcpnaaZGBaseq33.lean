/- Texts of these claims, one after the other. -/
import Derived.Test.YtafkoddgefcpnaaRows
import Derived.Test.YtafkoddgefcpnaaZGBaseq31
namespace Go.Proofs.Ytafkoddgefcpnaa
open Go.RowKit

section
variable {w w' : World} {g : Nat} {t : TypeId} {cs : Array Value}
theorem Blk.new (w : World) (t : TypeId) (cs : Array Value) : Blk (w.alloc (.cells cs t)) w.heap.size t cs := heap_alloc_new w _
end
end Go.Proofs.Ytafkoddgefcpnaa

namespace Go.Proofs.Ytafkoddgefcpnaa
open Go.RowKit

theorem fl_drop (L : List It) (k : Nat) : (fl L).drop (k * 2) = fl (L.drop k) := by
  induction L generalizing k with
  | nil => simp [fl]
  | cons p L ih =>
    cases k with
    | zero => rfl
    | succ k => rw [show (k + 1) * 2 = k * 2 + 1 + 1 by omega]; simpa [fl] using ih k
/-- The cells s[k:], where A' is what the model makes of the address. -/
theorem Sl.cut {w : World} {A : Option Addr} {n : Nat} {L : List It} (h : Sl w A n L) {k cap : Nat} (hk : k ≤ n) (hc : n ≤ cap) :
    Sl w (if cap = k then A else A.map (·.add (k * 2))) (n - k) (L.drop k) := by
  refine ⟨by rw [List.length_drop, h.1], fun hn => ?_⟩
  obtain ⟨b, o, rfl, hcell⟩ := h.2 (by omega)
  rw [if_neg (by omega)]
  refine ⟨b, o + k * 2, by simp [add_at], fun j u hu => ?_⟩
  rw [Nat.add_assoc]
  exact hcell _ u (by rw [← fl_drop, List.getElem?_drop] at hu; exact hu)
section
variable {w w' : World} {g : Nat} {t : TypeId} {cs : Array Value}
end
end Go.Proofs.Ytafkoddgefcpnaa

namespace Go.Proofs.Ytafkoddgefcpnaa
open Go.RowKit

theorem bitsZ_mono {a b : Int} (h : a ≤ b) : bitsZ a ≤ bitsZ b := by
  have key : ∀ (n : Nat) (a b : Int), a ≤ b → b.toNat ≤ n → bitsZ a ≤ bitsZ b := by
    intro n
    induction n with
    | zero => intro a b h1 h2; rw [bitsZ_low a (by omega)]; exact (bitsZ_bound b).1
    | succ n ih =>
      intro a b h1 h2
      by_cases ha : a ≤ 0
      · rw [bitsZ_low a ha]; exact (bitsZ_bound b).1
      · rw [bitsZ_step a (by omega), bitsZ_step b (by omega)]
        have := ih (a / 2) (b / 2) (by omega) (by omega)
        omega
  exact key _ a b h (Nat.le_refl _)
theorem totB_app (L M : List It) : totB (L ++ M) = totB L + totB M := by
  induction L with
  | nil => simp [totB]
  | cons p L ih => simp only [List.cons_append, totB, ih]; omega
theorem totB_low (L : List It) : 0 ≤ totB L := by
  induction L with
  | nil => exact Int.le_refl _
  | cons p L ih => have := szB_low p.2; simp only [totB]; omega
def gt (l : Int) (X : List It) : Nat := X.countP (fun x => decide (l < x.2))
theorem gt_cons (l : Int) (x : It) (X : List It) : gt l (x :: X) = gt l X + (if l < x.2 then 1 else 0) := by
  unfold gt; rw [List.countP_cons]; simp
theorem cn_app (l : Int) (X Y : List It) : cn l (X ++ Y) = cn l X + cn l Y := List.countP_append
theorem gt_zero {l : Int} {X : List It} (h : ∀ x ∈ X, x.2 ≤ l) : gt l X = 0 := by
  unfold gt; rw [List.countP_eq_zero]; intro x hx; have := h x hx; simp; omega
/-- Where two buckets of a level are, the list falls into parts. -/
theorem split2 {l : Int} : ∀ {X : List It}, Ds X → 2 ≤ cn l X → ∃ P a b Q, X = P ++ (a, l) :: (b, l) :: Q ∧ P.length = gt l X ∧ (∀ x ∈ P, l < x.2) ∧ (∀ x ∈ Q, x.2 ≤ l) := by
  intro X
  induction X with
  | nil => intro _ h; simp [cn] at h
  | cons x X ih =>
    intro hd hc
    unfold Ds at hd
    rw [List.pairwise_cons] at hd
    obtain ⟨h1, h2⟩ := hd
    rw [cn_cons] at hc
    rcases Int.lt_trichotomy l x.2 with g | g | g
    · rw [if_neg (by omega)] at hc
      obtain ⟨P, a, b, Q, e, e2, e3, e4⟩ := ih h2 (by omega)
      refine ⟨x :: P, a, b, Q, by rw [e]; rfl, ?_, ?_, e4⟩
      · rw [gt_cons, if_pos g, List.length_cons, e2]
      · intro y hy
        rcases List.mem_cons.1 hy with rfl | hy
        · exact g
        · exact e3 y hy
    · rw [if_pos g.symm] at hc
      cases X with
      | nil => simp [cn] at hc
      | cons y Y =>
        have hy : y.2 = l := by
          have hyl := h1 y List.mem_cons_self
          rcases Int.lt_or_eq_of_le hyl with g2 | g2
          · exfalso
            have : cn l (y :: Y) = 0 := cn_zero (fun z hz => by
              rcases List.mem_cons.1 hz with rfl | hz
              · omega
              · have := (List.pairwise_cons.1 h2).1 z hz; omega)
            omega
          · omega
        obtain ⟨x1, x2⟩ := x
        obtain ⟨y1, y2⟩ := y
        simp only at g hy h1
        subst g hy
        refine ⟨[], x1, y1, Y, rfl, ?_, fun z hz => by simp at hz, fun z hz => h1 z (List.mem_cons_of_mem _ hz)⟩
        rw [gt_zero]
        · rfl
        · intro z hz
          rcases List.mem_cons.1 hz with rfl | hz
          · exact Int.le_refl _
          · exact h1 z hz
    · exfalso
      rw [if_neg (by omega)] at hc
      have : cn l X = 0 := cn_zero (fun z hz => by have := h1 z hz; omega)
      omega
/-- The two oldest buckets of a level become one of the next. -/
def mgB (X : List It) (l : Int) : List It := X.take (gt l X) ++ ((X.getD (gt l X + 1) (0, 0)).1, l + 1) :: X.drop (gt l X + 2)
theorem mgB_split {l a b : Int} {P Q : List It} (h : P.length = gt l (P ++ (a, l) :: (b, l) :: Q)) : mgB (P ++ (a, l) :: (b, l) :: Q) l = P ++ (b, l + 1) :: Q := by
  unfold mgB
  rw [← h]
  simp [List.getD, List.drop_append, show P.length + 2 - P.length = 2 by omega]
def puS (k : Int) : Nat → Int → List It → List It
  | 0, _, X => X
  | n + 1, l, X => if (cn l X : Int) ≤ k + 1 then X else puS k n (l + 1) (mgB X l)
/-- The list behind one insertion. -/
def puB (k t : Int) (L : List It) : List It := puS k 31 0 (L ++ [(t, 0)])
theorem Ds.app {P Q : List It} : Ds (P ++ Q) ↔ Ds P ∧ Ds Q ∧ ∀ x ∈ P, ∀ y ∈ Q, y.2 ≤ x.2 := List.pairwise_append
theorem As.app {P Q : List It} : As (P ++ Q) ↔ As P ∧ As Q ∧ ∀ x ∈ P, ∀ y ∈ Q, x.1 ≤ y.1 := List.pairwise_append
theorem szB_two {l : Int} (h0 : 0 ≤ l) (h1 : l < 30) : szB (l + 1) = szB l + szB l := by
  unfold szB
  rw [if_pos (by omega), if_pos (by omega), show (l + 1).toNat = l.toNat + 1 by omega, Int.pow_succ]
  omega
theorem cn_parts (j l a b : Int) (P Q : List It) : cn j (P ++ (a, l) :: (b, l) :: Q) = cn j P + cn j Q + (if l = j then 2 else 0) := by
  rw [cn_app, cn_cons, cn_cons]
  simp only
  split <;> omega
theorem cn_part1 (j l b : Int) (P Q : List It) : cn j (P ++ (b, l + 1) :: Q) = cn j P + cn j Q + (if l + 1 = j then 1 else 0) := by
  rw [cn_app, cn_cons]
  simp only
  omega
/-- What one merge does to the numbers of buckets. -/
theorem mg_cn {X : List It} {l : Int} (hd : Ds X) (hc : 2 ≤ cn l X) (j : Int) : (cn j (mgB X l) : Int) = cn j X + (if j = l then -2 else if j = l + 1 then 1 else 0) := by
  obtain ⟨P, a, b, Q, rfl, e2, e3, e4⟩ := split2 hd hc
  rw [mgB_split e2, cn_parts, cn_part1]
  repeat' split
  all_goals omega
theorem mg_mem {X : List It} {l : Int} (hd : Ds X) (hc : 2 ≤ cn l X) {x : It} (hx : x ∈ mgB X l) : x ∈ X ∨ (x.2 = l + 1 ∧ (x.1, l) ∈ X) := by
  obtain ⟨P, a, b, Q, rfl, e2, e3, e4⟩ := split2 hd hc
  rw [mgB_split e2] at hx
  rcases List.mem_append.1 hx with h | h
  · exact Or.inl (List.mem_append_left _ h)
  · rcases List.mem_cons.1 h with rfl | h
    · exact Or.inr ⟨rfl, by simp⟩
    · exact Or.inl (by simp [h])
theorem mg_ds {X : List It} {l : Int} (hd : Ds X) (hc : 2 ≤ cn l X) : Ds (mgB X l) := by
  obtain ⟨P, a, b, Q, rfl, e2, e3, e4⟩ := split2 hd hc
  rw [mgB_split e2]
  rw [Ds.app, Ds.cons, Ds.cons] at hd
  rw [Ds.app, Ds.cons]
  refine ⟨hd.1, ⟨fun y hy => by have := e4 y hy; simp only; omega, hd.2.1.2.2⟩, fun x hx y hy => ?_⟩
  have h1 := e3 x hx
  rcases List.mem_cons.1 hy with rfl | hy
  · simp only; omega
  · have := e4 y hy; omega
theorem mg_as {X : List It} {l : Int} (ha : As X) (hd : Ds X) (hc : 2 ≤ cn l X) : As (mgB X l) := by
  obtain ⟨P, a, b, Q, rfl, e2, e3, e4⟩ := split2 hd hc
  rw [mgB_split e2]
  rw [As.app, As.cons, As.cons] at ha
  rw [As.app, As.cons]
  refine ⟨ha.1, ha.2.1.2, fun x hx y hy => ?_⟩
  rcases List.mem_cons.1 hy with rfl | hy
  · exact ha.2.2 x hx (b, l) (by simp)
  · exact ha.2.2 x hx y (by simp [hy])
theorem mg_tot {X : List It} {l : Int} (h0 : 0 ≤ l) (h1 : l < 30) (hd : Ds X) (hc : 2 ≤ cn l X) : totB (mgB X l) = totB X := by
  obtain ⟨P, a, b, Q, rfl, e2, e3, e4⟩ := split2 hd hc
  rw [mgB_split e2, totB_app, totB_app]
  simp only [totB]
  rw [szB_two h0 h1]
  omega
theorem Iv.next {X : List It} {k l T t : Int} (h : Iv X k l T t) (hT : T ≤ 1073741824) (hl : l ≤ 30) (hc : ¬ (cn l X : Int) ≤ k + 1) : l < 30 ∧ (cn l X : Int) = k + 2 ∧ 2 ≤ cn l X ∧ Iv (mgB X l) k (l + 1) T t := by
  have hlt : l < 30 := by
    rcases Int.lt_or_eq_of_le hl with g | g
    · exact g
    · exact absurd (h.top hT g) hc
  have h1 := h.k1
  have h2 := h.at_
  have hc2 : 2 ≤ cn l X := by omega
  have hcn := mg_cn h.ds hc2
  refine ⟨hlt, by omega, hc2, ⟨h.k1, h.k2, by have := h.l0; omega, ?_, mg_ds h.ds hc2, mg_as h.as_ h.ds hc2, ?_, ?_, ?_, (mg_tot h.l0 hlt h.ds hc2).trans h.tot, ?_⟩⟩
  · intro x hx
    rcases mg_mem h.ds hc2 hx with g | ⟨g, g2⟩
    · exact h.rg x g
    · have q := (h.rg _ g2).1
      have := h.l0
      exact ⟨q, by omega, by omega⟩
  · intro j hj
    rw [hcn]
    by_cases e : j = l
    · rw [if_pos e]; subst e; omega
    · rw [if_neg e, if_neg hj]
      have := h.up j e
      omega
  · rw [hcn, if_neg (by omega), if_pos rfl]
    have := h.up (l + 1) (by omega)
    omega
  · intro x hx j hj hjx
    rw [hcn]
    by_cases e : j = l
    · rw [if_pos e]; subst e; omega
    · rw [if_neg e]
      have hk : k ≤ (cn j X : Int) := by
        rcases mg_mem h.ds hc2 hx with g | ⟨g, g2⟩
        · exact h.fl x g j hj hjx
        · exact h.fl _ g2 j hj (by simp only; omega)
      split <;> omega
  · intro x hx
    rcases mg_mem h.ds hc2 hx with g | ⟨_, g2⟩
    · exact h.last x g
    · exact h.last (x.1, l) g2
theorem Iv.done {X : List It} {k l T t : Int} (h : Iv X k l T t) (hc : (cn l X : Int) ≤ k + 1) : Va X k :=
  ⟨h.k1, h.k2, h.rg, h.ds, h.as_, fun j => by
    by_cases e : j = l
    · rw [e]; exact hc
    · exact h.up j e, h.fl⟩
theorem puS_at {k : Int} {n : Nat} {l : Int} {X : List It} (h : (cn l X : Int) ≤ k + 1) : puS k n l X = X := by
  cases n with
  | zero => rfl
  | succ n => unfold puS; rw [if_pos h]
theorem puS_step {k : Int} {n : Nat} {l : Int} {X : List It} (h : ¬ (cn l X : Int) ≤ k + 1) : puS k (n + 1) l X = puS k n (l + 1) (mgB X l) := by
  rw [puS, if_neg h]
theorem puS_va {k T t : Int} (hT : T ≤ 1073741824) : ∀ {n : Nat} {l : Int} {X : List It}, Iv X k l T t → l + n = 31 → 0 < n → Va (puS k n l X) k ∧ totB (puS k n l X) = T ∧ ∀ x ∈ puS k n l X, x.1 ≤ t := by
  intro n
  induction n with
  | zero => intro l X _ _ h0; exact absurd h0 (by omega)
  | succ n ih =>
    intro l X h hn _
    by_cases hc : (cn l X : Int) ≤ k + 1
    · rw [puS_at hc]; exact ⟨h.done hc, h.tot, h.last⟩
    · rw [puS_step hc]
      obtain ⟨h1, h2, h3, h4⟩ := h.next hT (by omega) hc
      exact ih h4 (by omega) (by omega)
theorem Va.start {X : List It} {k t : Int} (h : Va X k) (h0 : 0 ≤ t) (h1 : t ≤ 16777216) (hl : ∀ x ∈ X, x.1 ≤ t) : Iv (X ++ [(t, 0)]) k 0 (totB X + 1) t := by
  have hcn : ∀ j, cn j (X ++ [(t, 0)]) = cn j X + (if (0 : Int) = j then 1 else 0) := fun j => by rw [cn_app, cn_cons, cn_nil, Nat.zero_add]
  refine ⟨h.k1, h.k2, Int.le_refl _, ?_, ?_, ?_, ?_, ?_, ?_, ?_, ?_⟩
  · intro x hx
    rcases List.mem_append.1 hx with g | g
    · exact h.rg x g
    · simp only [List.mem_singleton] at g; subst g; exact ⟨⟨h0, h1⟩, Int.le_refl _, by simp only; omega⟩
  · rw [Ds.app]
    refine ⟨h.ds, List.pairwise_singleton _ _, fun x hx y hy => ?_⟩
    simp only [List.mem_singleton] at hy; subst hy
    exact (h.rg x hx).2.1
  · rw [As.app]
    refine ⟨h.as_, List.pairwise_singleton _ _, fun x hx y hy => ?_⟩
    simp only [List.mem_singleton] at hy; subst hy
    exact hl x hx
  · intro j hj
    rw [hcn, if_neg (fun e => hj e.symm)]
    exact h.up j
  · rw [hcn, if_pos rfl]
    have := h.up 0
    omega
  · intro x hx j hj hjx
    rw [hcn]
    rcases List.mem_append.1 hx with g | g
    · have := h.fl x g j hj hjx
      split <;> omega
    · simp only [List.mem_singleton] at g; subst g; simp only at hjx; omega
  · rw [totB_app]
    have : totB [(t, 0)] = 1 := by simp [totB, szB]
    omega
  · intro x hx
    rcases List.mem_append.1 hx with g | g
    · exact hl x g
    · simp only [List.mem_singleton] at g; subst g; exact Int.le_refl _
theorem puB_va {X : List It} {k t : Int} (h : Va X k) (h0 : 0 ≤ t) (h1 : t ≤ 16777216) (hl : ∀ x ∈ X, x.1 ≤ t) (hT : totB X < 1073741824) : Va (puB k t X) k ∧ totB (puB k t X) = totB X + 1 ∧ ∀ x ∈ puB k t X, x.1 ≤ t :=
  puS_va (by omega) (h.start h0 h1 hl) rfl (by omega)
/-- The closed form of the numbers of buckets. -/
def mdB (u k : Int) : Int := if u ≤ k + 1 then 0 else (u - k) / 2
theorem mdB_low {u k : Int} : 0 ≤ mdB u k := by unfold mdB; split <;> omega
theorem mdB_half {u k : Int} (hk : 1 ≤ k) (hu : 0 ≤ u) : 2 * mdB u k ≤ u := by unfold mdB; split <;> omega
theorem mdB_rest {u k : Int} : u - 2 * mdB u k ≤ k + 1 := by unfold mdB; split <;> omega
theorem mdB_pos {u k : Int} (hk : 1 ≤ k) (hu : 0 < u) : 0 < u - 2 * mdB u k := by unfold mdB; split <;> omega
def caL (k : Int) : Nat → Int → List Int
  | 0, _ => []
  | f + 1, u => if u ≤ 0 then [] else (u - 2 * mdB u k) :: caL k f (mdB u k)
theorem caL_at {k u : Int} {f : Nat} (h : u ≤ 0) : caL k f u = [] := by
  cases f with
  | zero => rfl
  | succ f => unfold caL; rw [if_pos h]
theorem caL_step {k u : Int} {f : Nat} (h : 0 < u) : caL k (f + 1) u = (u - 2 * mdB u k) :: caL k f (mdB u k) := by
  rw [caL, if_neg (by omega)]
/-- What the closed form stands for. -/
theorem caL_facts {k : Int} (hk : 1 ≤ k) : ∀ (f : Nat) (u : Int), 0 ≤ u → u < 2 ^ f →
    vlB (caL k f u) = u ∧ (∀ c ∈ caL k f u, 0 < c ∧ c ≤ k + 1) ∧ ((caL k f u).length : Int) ≤ bitsZ u := by
  intro f
  induction f with
  | zero =>
    intro u h0 h1
    have : u = 0 := by simp at h1; omega
    subst this
    exact ⟨rfl, fun c hc => (by cases hc), by simp [caL]; exact (bitsZ_bound 0).1⟩
  | succ f ih =>
    intro u h0 h1
    rcases Int.lt_or_eq_of_le h0 with g | g
    · rw [caL_step g]
      rw [pow_succ2] at h1
      have a1 := mdB_low (u := u) (k := k)
      have a2 := mdB_half hk h0
      obtain ⟨i1, i2, i3⟩ := ih (mdB u k) a1 (by omega)
      refine ⟨by simp only [vlB]; rw [i1]; omega, fun c hc => ?_, ?_⟩
      · rcases List.mem_cons.1 hc with rfl | hc
        · exact ⟨mdB_pos hk g, mdB_rest⟩
        · exact i2 c hc
      · rw [List.length_cons]
        by_cases hz : mdB u k = 0
        · rw [hz, caL_at (Int.le_refl _)]
          rw [bitsZ_step u g]
          have := (bitsZ_bound (u / 2)).1
          simp only [List.length_nil]
          omega
        · have e := bitsZ_step u g
          have m : bitsZ (mdB u k) ≤ bitsZ (u / 2) := bitsZ_mono (by omega)
          omega
    · subst g
      rw [caL_at (Int.le_refl _)]
      exact ⟨rfl, fun c hc => (by cases hc), by simp; exact (bitsZ_bound 0).1⟩
theorem smB_le {m : Int} : ∀ {cs : List Int}, (∀ c ∈ cs, c ≤ m) → smB cs ≤ m * (cs.length : Int) := by
  intro cs
  induction cs with
  | nil => intro _; simp [smB]
  | cons c cs ih =>
    intro h
    have h1 := ih (fun c hc => h c (List.mem_cons_of_mem _ hc))
    have h2 := h c List.mem_cons_self
    simp only [smB, List.length_cons, Int.natCast_add, Int.mul_add]
    omega
theorem Gd.uniq {k : Int} (hk : 1 ≤ k) : ∀ {cs : List Int} (f : Nat), Gd k cs → vlB cs < 2 ^ f → caL k f (vlB cs) = cs := by
  intro cs
  induction cs with
  | nil => intro f _ _; exact caL_at (Int.le_refl _)
  | cons c cs ih =>
    intro f h hv
    obtain ⟨h1, h2, h3, h4⟩ := h
    have e0 : vlB (c :: cs) = c + 2 * vlB cs := rfl
    rw [e0] at hv ⊢
    cases cs with
    | nil =>
      have e1 : vlB [] = 0 := rfl
      rw [e1] at hv ⊢
      cases f with
      | zero => simp at hv; omega
      | succ f =>
        rw [caL_step (by omega)]
        have : mdB (c + 2 * 0) k = 0 := by unfold mdB; rw [if_pos (by omega)]
        rw [this, caL_at (Int.le_refl _)]
        simp
    | cons d ds =>
      have g := h4.low hk (by simp)
      have g2 := h2 (by simp)
      have g3 : (1 : Int) ≤ 2 ^ ((d :: ds).length - 1) := pwB1 _
      have g4 : 1 * (1 + k) ≤ 2 ^ ((d :: ds).length - 1) * (1 + k) := Int.mul_le_mul_of_nonneg_right g3 (by omega)
      generalize hv' : vlB (d :: ds) = v at *
      have : mdB (c + 2 * v) k = v := by unfold mdB; rw [if_neg (by omega)]; omega
      cases f with
      | zero => simp at hv; omega
      | succ f =>
        rw [pow_succ2] at hv
        rw [caL_step (by omega), this, ih f h4 (by omega), show c + 2 * v - 2 * v = c by omega]
theorem Va.can {X : List It} {k : Int} (h : Va X k) (hT : totB X ≤ 1073741824) : ctL X = caL k 31 (totB X) := by
  obtain ⟨h1, h2, h3⟩ := h.gd
  rw [← h2]
  exact (h1.uniq h.k1 31 (by rw [h2]; have : (2 : Int) ^ 31 = 2147483648 := by decide
                             omega)).symm
theorem Va.few {X : List It} {k : Int} (h : Va X k) (hT : totB X ≤ 1073741824) : (X.length : Int) ≤ (k + 1) * bitsZ (totB X) := by
  obtain ⟨h1, h2, h3⟩ := h.gd
  rw [h.can hT] at h3
  have e31 : (2 : Int) ^ 31 = 2147483648 := by decide
  obtain ⟨f1, f2, f3⟩ := caL_facts h.k1 31 (totB X) (totB_low X) (by omega)
  have := smB_le (m := k + 1) (fun c hc => (f2 c hc).2)
  rw [h3] at this
  have hk := h.k1
  exact Int.le_trans this (Int.mul_le_mul_of_nonneg_left f3 (by omega))
end Go.Proofs.Ytafkoddgefcpnaa

namespace Go.Proofs.Ytafkoddgefcpnaa
open Go.RowKit

theorem Wp.far {w w1 : World} {g q : Nat} {v : Value} {xs ys z : Nat → Int} (h : Wp w w1 xs ys z) (hg : w.heap.size + 1 + 1 + 1 < g) : Wp w (w1.setCell ⟨g, q, none⟩ v) xs ys z :=
  ⟨h.up.setCell (by show w.heap.size ≤ g; omega) _, fun i hi => (cell_far (by show g ≠ _; omega)).trans (h.x i hi), fun i hi => (cell_far (by show g ≠ _; omega)).trans (h.y i hi), fun i hi => (cell_far (by show g ≠ _; omega)).trans (h.r i hi), fun i hi => (cell_far (by show g ≠ _; omega)).trans (h.z i hi)⟩
theorem Wp.set {w w1 : World} {m : Nat} {t : Int} {xs ys z : Nat → Int} (h : Wp w w1 xs ys z) : Wp w (w1.setCell ⟨w.heap.size + 1 + 1 + 1, m, none⟩ (.int .u64 t)) xs ys (updz z m t) :=
  ⟨h.up.setCell (by show w.heap.size ≤ w.heap.size + 1 + 1 + 1; omega) _, fun i hi => (cell_far (by show w.heap.size + 1 + 1 + 1 ≠ _; omega)).trans (h.x i hi), fun i hi => (cell_far (by show w.heap.size + 1 + 1 + 1 ≠ _; omega)).trans (h.y i hi),
   fun i hi => (cell_far (by show w.heap.size + 1 + 1 + 1 ≠ _; omega)).trans (h.r i hi), fun i hi => by rw [cell_set (h.z i hi)]; unfold updz; by_cases e : m = i <;> simp [e, eq_comm]⟩
theorem Wp.start {w wr : World} {xs ys : Nat → Int} (hu : Up w wr) (x0 : wr.cell? ⟨w.heap.size, 0, none⟩ = some (.int .u64 (xs 0))) (x1 : wr.cell? ⟨w.heap.size, 1, none⟩ = some (.int .u64 (xs 1))) (x2 : wr.cell? ⟨w.heap.size, 2, none⟩ = some (.int .u64 (xs 2)))
    (y0 : wr.cell? ⟨w.heap.size + 1, 0, none⟩ = some (.int .u64 (ys 0))) (y1 : wr.cell? ⟨w.heap.size + 1, 1, none⟩ = some (.int .u64 (ys 1))) (y2 : wr.cell? ⟨w.heap.size + 1, 2, none⟩ = some (.int .u64 (ys 2)))
    (r0 : wr.cell? ⟨w.heap.size + 1 + 1, 0, none⟩ = some (.int .u64 0)) (r1 : wr.cell? ⟨w.heap.size + 1 + 1, 1, none⟩ = some (.int .u64 0)) (r2 : wr.cell? ⟨w.heap.size + 1 + 1, 2, none⟩ = some (.int .u64 0))
    (z0 : wr.cell? ⟨w.heap.size + 1 + 1 + 1, 0, none⟩ = some (.int .u64 0)) (z1 : wr.cell? ⟨w.heap.size + 1 + 1 + 1, 1, none⟩ = some (.int .u64 0)) (z2 : wr.cell? ⟨w.heap.size + 1 + 1 + 1, 2, none⟩ = some (.int .u64 0)) : Wp w wr xs ys (fun _ => 0) := by
  refine ⟨hu, fun i hi => ?_, fun i hi => ?_, fun i hi => ?_, fun i hi => ?_⟩ <;> (rcases (by omega : i = 0 ∨ i = 1 ∨ i = 2) with rfl | rfl | rfl) <;> assumption
end Go.Proofs.Ytafkoddgefcpnaa

namespace Go.Proofs.Ytafkoddgefcpnaa
open Go.RowKit

theorem wpList_append_run {P : Program} {w : World} {ops : Array Oper} {rest : List Oper} {o : Oper} {a : Act} {Q : Exit → Act → World → Prop} (hgd : o.guard = none) (s x : Operand) (t : TypeId)
    (ho : o.op = .call { callee := .builtin .append, args := #[s, x], argTypes := #[t, t] }) (v u : Value) (hs : a.eval s = v) (hx : a.eval x = u) (v' : Value) (w' : World)
    (hr : (Builtin.append_ #[t, t] o.type #[v, u]).run P w = .ok v' w') (h : wpList P ops Q rest (a.put o.dst v') w') : wpList P ops Q (o :: rest) a w := by
  refine wpList_plain hgd fun K hK => ?_
  unfold Oper.wp
  simp only [execOp, ho, resolve, invoke, builtin, Sem.run_bind, Sem.run_pure, Result.andThen_ok, List.map_toArray, List.map_cons, List.map_nil, hs, hx, hr]
  exact hK _ _ h
theorem Own.of_up {w0 w w' : World} {v : Value} {n : Nat} {L : List It} (h : Own w0 w v n L) (hu : Up w w') : Own w0 w' v n L := by
  refine ⟨h.1, ?_⟩
  rcases h.2 with h0 | ⟨g, cap, cur, h1, h2, h3, h4⟩
  · exact Or.inl h0
  · exact Or.inr ⟨g, cap, cur, h1, h2, Blk.up (t := 51) h3 hu, h4⟩
section
variable {w w1 w2 : World} {p g : Nat}
end

section
variable {w w' : World} {p g c h l : Nat} {L : List It}
end
end Go.Proofs.Ytafkoddgefcpnaa

namespace Go.Proofs.Ytafkoddgefcpnaa
open Go.RowKit

theorem Rw.of_up {w0 w w' : World} {e : TypeId} {sz n : Nat} {v : Value} {cs : List Value} (h : Rw w0 w e sz v n cs) (hu : Up w w') : Rw w0 w' e sz v n cs := by
  refine ⟨h.1, ?_⟩
  rcases h.2 with h0 | ⟨g, cap, cur, h1, h2, h3, h4⟩
  · exact Or.inl h0
  · exact Or.inr ⟨g, cap, cur, h1, h2, Blk.up (t := e) h3 hu, h4⟩
/-- Two addresses in different blocks. -/
def Apt (A B : Option Addr) : Prop := ∀ g o o', A = some ⟨g, o, none⟩ → B = some ⟨g, o', none⟩ → False
theorem Apt.symm {A B : Option Addr} (h : Apt A B) : Apt B A := fun g o o' h1 h2 => h g o' o h2 h1
end Go.Proofs.Ytafkoddgefcpnaa

namespace Go.Proofs.Ytafkoddgefcpnaa
open Go.RowKit

theorem liveB_no {now v t : Int} (h : (tickB now && winB v) = false) : liveB now v t = false := by unfold liveB; rw [h]; rfl
theorem live_any (now v t : Int) (w : World) :
    Calls Try.prog 140 #[.int .i64 now, .int .i64 v, .int .i64 t] w fun e w' => e = .returned (.bool (liveB now v t)) ∧ w = w' := by
  have KF := Lib.hid (first_any now v)
  cases hb : (tickB now && winB v) with
  | false =>
    rw [liveB_no hb]
    rw [firZ_no hb] at KF
    clear hb
    go_enter Try.func140, Try.ntmps140
    go_wp2_with (go_at_call 103; (with_reducible refine (KF.out _).mono ?_); rintro e w' ⟨rfl, rfl⟩)
    go_ret
    exact ⟨by first | rfl | (simp; done) | (simp; omega), rfl⟩
  | true =>
    rw [liveB_yes hb]
    have h0 := firZ_low hb
    clear hb
    generalize firZ now v = x at *
    by_cases h1 : x ≤ t
    · by_cases h2 : t ≤ now
      · rw [decide_eq_true h1, decide_eq_true h2]
        go_enter Try.func140, Try.ntmps140
        go_wp2_with (go_at_call 103; (with_reducible refine (KF.out _).mono ?_); rintro e w' ⟨rfl, rfl⟩)
        go_ret
        exact ⟨by first | rfl | (simp; done) | (simp; omega), rfl⟩
      · rw [decide_eq_true h1, decide_eq_false h2]
        go_enter Try.func140, Try.ntmps140
        go_wp2_with (go_at_call 103; (with_reducible refine (KF.out _).mono ?_); rintro e w' ⟨rfl, rfl⟩)
        go_ret
        exact ⟨by first | rfl | (simp; done) | (simp; omega), rfl⟩
    · rw [decide_eq_false h1]
      go_enter Try.func140, Try.ntmps140
      go_wp2_with (go_at_call 103; (with_reducible refine (KF.out _).mono ?_); rintro e w' ⟨rfl, rfl⟩)
      go_ret
      exact ⟨by first | rfl | (simp; done) | (simp; omega), rfl⟩
end Go.Proofs.Ytafkoddgefcpnaa

namespace Go.Proofs.Ytafkoddgefcpnaa
open Go.RowKit

theorem winB_low {t : Int} (h : t < 1) : winB t = false := decide_eq_false (by omega)
theorem winB_high {t : Int} (h : 1048576 < t) : winB t = false := decide_eq_false (by omega)
theorem rtick_any (t : Int) (w : World) :
    Calls Try.prog 105 #[.int .i64 t] w fun e w' => e = .returned (.bool (tickB t)) ∧ w = w' := by
  by_cases h : 0 ≤ t
  · by_cases k : t ≤ 16777216
    · rw [tickB_yes h k]
      go_enter Try.func105, Try.ntmps105
      go_wp2
      go_ret
      exact ⟨rfl, rfl⟩
    · rw [tickB_high (by omega)]
      go_enter Try.func105, Try.ntmps105
      go_wp2
      go_ret
      exact ⟨rfl, rfl⟩
  · rw [tickB_low (by omega)]
    go_enter Try.func105, Try.ntmps105
    go_wp2
    go_ret
    exact ⟨rfl, rfl⟩
theorem rwin_any (t : Int) (w : World) :
    Calls Try.prog 104 #[.int .i64 t] w fun e w' => e = .returned (.bool (winB t)) ∧ w = w' := by
  by_cases h : 1 ≤ t
  · by_cases k : t ≤ 1048576
    · rw [winB_yes h k]
      go_enter Try.func104, Try.ntmps104
      go_wp2
      go_ret
      exact ⟨rfl, rfl⟩
    · rw [winB_high (by omega)]
      go_enter Try.func104, Try.ntmps104
      go_wp2
      go_ret
      exact ⟨rfl, rfl⟩
  · rw [winB_low (by omega)]
    go_enter Try.func104, Try.ntmps104
    go_wp2
    go_ret
    exact ⟨rfl, rfl⟩
end Go.Proofs.Ytafkoddgefcpnaa

namespace Go.Proofs.Ytafkoddgefcpnaa
open Go.RowKit

theorem tickB_false {t : Int} (h : tickB t = false) : t < 0 ∨ 16777216 < t := by have := of_decide_eq_false h; omega
theorem rlive_any (now v t : Int) (w : World) :
    Calls Try.prog 78 #[.int .i64 now, .int .i64 v, .int .i64 t] w fun e w' => e = .returned (.bool (liveB now v t)) ∧ w = w' := by
  have KT := Lib.hid (rtick_any now)
  have KW := Lib.hid (rwin_any v)
  have KU := Lib.hid (rtick_any t)
  cases ht : tickB now with
  | false =>
    rw [liveB_no (by rw [ht]; rfl)]
    rw [ht] at KT
    clear ht
    go_enter Try.func78, Try.ntmps78
    go_wp2_with (go_at_call 105; (with_reducible refine (KT.out _).mono ?_); rintro e w' ⟨rfl, rfl⟩)
    go_ret
    exact ⟨by first | rfl | (simp; done) | (simp; omega), rfl⟩
  | true =>
    rw [ht] at KT
    cases hv : winB v with
    | false =>
      rw [liveB_no (by rw [hv, Bool.and_false])]
      rw [hv] at KW
      clear ht hv
      go_enter Try.func78, Try.ntmps78
      go_wp2_with (first | (go_at_call 105; (with_reducible refine (KT.out _).mono ?_); rintro e w' ⟨rfl, rfl⟩) | (go_at_call 104; (with_reducible refine (KW.out _).mono ?_); rintro e w' ⟨rfl, rfl⟩))
      go_ret
      exact ⟨by first | rfl | (simp; done) | (simp; omega), rfl⟩
    | true =>
      have hb : (tickB now && winB v) = true := by rw [ht, hv]; rfl
      rw [liveB_yes hb, firZ_yes hb]
      obtain ⟨n1, n2⟩ := tickB_true ht
      obtain ⟨v1, v2⟩ := winB_true hv
      rw [hv] at KW
      clear hb hv ht
      cases hu : tickB t with
      | false =>
        rw [hu] at KU
        have e1 : (decide (max 0 (now - v + 1) ≤ t) && decide (t ≤ now)) = false := by
          rcases tickB_false hu with h | h
          · rw [decide_eq_false (by omega)]; rfl
          · rw [decide_eq_false (p := t ≤ now) (by omega), Bool.and_false]
        rw [e1]
        clear e1 hu
        go_enter Try.func78, Try.ntmps78
        go_wp2_with fail
        refine (KT.out _).mono ?_
        rintro e w' ⟨rfl, rfl⟩
        go_wp2_with fail
        refine (KW.out _).mono ?_
        rintro e w' ⟨rfl, rfl⟩
        go_wp2_with fail
        refine (KU.out _).mono ?_
        rintro e w' ⟨rfl, rfl⟩
        go_wp2_with fail
        go_ret
        exact ⟨by first | rfl | (simp; done) | (simp; omega), rfl⟩
      | true =>
        rw [hu] at KU
        obtain ⟨t1, t2⟩ := tickB_true hu
        clear hu
        by_cases h1 : now - v < t
        · by_cases h2 : t ≤ now
          · rw [decide_eq_true (p := max 0 (now - v + 1) ≤ t) (by omega), decide_eq_true h2]
            go_enter Try.func78, Try.ntmps78
            go_wp2_with fail
            refine (KT.out _).mono ?_
            rintro e w' ⟨rfl, rfl⟩
            go_wp2_with fail
            refine (KW.out _).mono ?_
            rintro e w' ⟨rfl, rfl⟩
            go_wp2_with fail
            refine (KU.out _).mono ?_
            rintro e w' ⟨rfl, rfl⟩
            go_wp2_with fail
            go_ret
            exact ⟨by first | rfl | (simp; done) | (simp; omega), rfl⟩
          · rw [decide_eq_false h2, Bool.and_false]
            go_enter Try.func78, Try.ntmps78
            go_wp2_with fail
            refine (KT.out _).mono ?_
            rintro e w' ⟨rfl, rfl⟩
            go_wp2_with fail
            refine (KW.out _).mono ?_
            rintro e w' ⟨rfl, rfl⟩
            go_wp2_with fail
            refine (KU.out _).mono ?_
            rintro e w' ⟨rfl, rfl⟩
            go_wp2_with fail
            go_ret
            exact ⟨by first | rfl | (simp; done) | (simp; omega), rfl⟩
        · rw [decide_eq_false (p := max 0 (now - v + 1) ≤ t) (by omega)]
          go_enter Try.func78, Try.ntmps78
          go_wp2_with fail
          refine (KT.out _).mono ?_
          rintro e w' ⟨rfl, rfl⟩
          go_wp2_with fail
          refine (KW.out _).mono ?_
          rintro e w' ⟨rfl, rfl⟩
          go_wp2_with fail
          refine (KU.out _).mono ?_
          rintro e w' ⟨rfl, rfl⟩
          go_wp2_with fail
          go_ret
          exact ⟨by first | rfl | (simp; done) | (simp; omega), rfl⟩
end Go.Proofs.Ytafkoddgefcpnaa

namespace Go.Proofs.Ytafkoddgefcpnaa
open Go.RowKit

theorem advance_any (now td x e : Int) (hx : (if tickB now = true then (if td < now ∨ 16777216 < td then (0, 3) else (td, 0)) else (0, 1)) = (x, e)) (w : World) :
    Calls Try.prog 110 #[.int .i64 now, .int .i64 td] w fun r w' => r = .returned (.tuple #[.int .i64 x, .int .i64 e]) ∧ w = w' := by
  have KT := Lib.hid (isTick_any now)
  cases ht : tickB now with
  | false =>
    rw [ht] at KT hx
    simp only [Bool.false_eq_true, if_false, Prod.mk.injEq] at hx
    obtain ⟨rfl, rfl⟩ := hx
    clear ht
    go_enter Try.func110, Try.ntmps110
    go_wp2_with (go_at_call 136; (with_reducible refine (KT.out _).mono ?_); rintro e w' ⟨rfl, rfl⟩)
    go_ret2
    exact ⟨rfl, rfl⟩
  | true =>
    rw [ht] at KT hx
    clear ht
    rw [if_pos rfl] at hx
    by_cases h : td < now
    · rw [if_pos (Or.inl h), Prod.mk.injEq] at hx
      obtain ⟨rfl, rfl⟩ := hx
      go_enter Try.func110, Try.ntmps110
      go_wp2_with (go_at_call 136; (with_reducible refine (KT.out _).mono ?_); rintro e w' ⟨rfl, rfl⟩)
      go_ret2
      exact ⟨rfl, rfl⟩
    · by_cases k : 16777216 < td
      · rw [if_pos (Or.inr k), Prod.mk.injEq] at hx
        obtain ⟨rfl, rfl⟩ := hx
        go_enter Try.func110, Try.ntmps110
        go_wp2_with (go_at_call 136; (with_reducible refine (KT.out _).mono ?_); rintro e w' ⟨rfl, rfl⟩)
        go_ret2
        exact ⟨rfl, rfl⟩
      · rw [if_neg (by omega), Prod.mk.injEq] at hx
        obtain ⟨rfl, rfl⟩ := hx
        go_enter Try.func110, Try.ntmps110
        go_wp2_with (go_at_call 136; (with_reducible refine (KT.out _).mono ?_); rintro e w' ⟨rfl, rfl⟩)
        go_ret2
        exact ⟨rfl, rfl⟩

end Go.Proofs.Ytafkoddgefcpnaa

namespace Go.Proofs.Ytafkoddgefcpnaa
open Go.RowKit

theorem rmay_any (v c now : Int) (w : World) :
    Calls Try.prog 56 #[.int .i64 v, .int .i64 c, .int .i64 now] w fun e w' => e = .returned (.bool (mayB v c now)) ∧ w = w' := by
  have KT := Lib.hid (rtick_any now)
  have KW := Lib.hid (rwin_any v)
  cases hv : winB v with
  | false =>
    have e0 : mayB v c now = false := by unfold mayB; rw [hv, Bool.and_false]; rfl
    rw [e0]
    rw [hv] at KW
    clear hv e0
    go_enter Try.func56, Try.ntmps56
    go_wp2_with (go_at_call 104; (with_reducible refine (KW.out _).mono ?_); rintro e w' ⟨rfl, rfl⟩)
    go_ret
    exact ⟨rfl, rfl⟩
  | true =>
    rw [hv] at KW
    have e0 : mayB v c now = (tickB now && decide (1 ≤ c ∧ c ≤ 65536)) := by unfold mayB; rw [hv, Bool.and_true]
    rw [e0]
    clear hv e0
    generalize tickB now = t at *
    by_cases h1 : 1 ≤ c
    · by_cases h2 : c ≤ 65536
      · rw [decide_eq_true (p := 1 ≤ c ∧ c ≤ 65536) ⟨h1, h2⟩]
        go_enter Try.func56, Try.ntmps56
        go_wp2_with (first | (go_at_call 105; (with_reducible refine (KT.out _).mono ?_); rintro e w' ⟨rfl, rfl⟩) | (go_at_call 104; (with_reducible refine (KW.out _).mono ?_); rintro e w' ⟨rfl, rfl⟩))
        go_ret
        exact ⟨by cases t <;> rfl, rfl⟩
      · rw [decide_eq_false (p := 1 ≤ c ∧ c ≤ 65536) (fun h => h2 h.2), Bool.and_false]
        have t2 : decide (c ≤ 65536) = false := decide_eq_false h2
        go_enter Try.func56, Try.ntmps56
        go_wp2_with (first | (go_at_call 105; (with_reducible refine (KT.out _).mono ?_); rintro e w' ⟨rfl, rfl⟩) | (go_at_call 104; (with_reducible refine (KW.out _).mono ?_); rintro e w' ⟨rfl, rfl⟩))
        go_ret
        exact ⟨rfl, rfl⟩
    · rw [decide_eq_false (p := 1 ≤ c ∧ c ≤ 65536) (fun h => h1 h.1), Bool.and_false]
      go_enter Try.func56, Try.ntmps56
      go_wp2_with (first | (go_at_call 105; (with_reducible refine (KT.out _).mono ?_); rintro e w' ⟨rfl, rfl⟩) | (go_at_call 104; (with_reducible refine (KW.out _).mono ?_); rintro e w' ⟨rfl, rfl⟩))
      go_ret
      exact ⟨rfl, rfl⟩

end Go.Proofs.Ytafkoddgefcpnaa

namespace Go.Proofs.Ytafkoddgefcpnaa
open Go.RowKit

theorem Own.off {w0 w : World} {A : Option Addr} {n c p : Nat} {L : List It} (h : Own w0 w (.slice A n c) n L) (hp : p < w0.heap.size) : ∀ b o, A = some ⟨b, o, none⟩ → b ≠ p := by
  intro b o e
  rcases h.2 with ⟨h1, _⟩ | ⟨g, cap, cur, h1, h2, _⟩
  · injection h1 with h1; rw [h1] at e; cases e
  · injection h1 with h1
    rw [h1] at e
    injection e with e
    injection e with e1 e2
    omega
end Go.Proofs.Ytafkoddgefcpnaa

namespace Go.Proofs.Ytafkoddgefcpnaa

theorem mnL_push (v : Int) : ∀ {R : List Int}, R ≠ [] → mnL (R ++ [v]) = min (mnL R) v := by
  intro R
  induction R with
  | nil => intro h; exact absurd rfl h
  | cons x R ih =>
    intro _
    cases R with
    | nil => rfl
    | cons y R => rw [List.cons_append, mnL_cons x (by simp), ih (by simp), mnL_cons x (by simp)]; omega
theorem mxL_push (v : Int) : ∀ {R : List Int}, R ≠ [] → mxL (R ++ [v]) = max (mxL R) v := by
  intro R
  induction R with
  | nil => intro h; exact absurd rfl h
  | cons x R ih =>
    intro _
    cases R with
    | nil => rfl
    | cons y R => rw [List.cons_append, mxL_cons x (by simp), ih (by simp), mxL_cons x (by simp)]; omega
theorem suL_nn {A : List Int} (h : ∀ x ∈ A, 0 ≤ x) : 0 ≤ suL A := by
  induction A with
  | nil => exact Int.le_refl _
  | cons x A ih => have := h x List.mem_cons_self; have := ih (fun y hy => h y (List.mem_cons_of_mem _ hy)); simp only [suL]; omega
/-- The aggregates: 1 the number, 2 the sum, 3 the sum of squares, 4 the range. -/
def agZ (g : Int) (A : List Int) : Int := if g = 1 then (A.length : Int) else if g = 2 then suL A else if g = 3 then sqL A else if g = 4 then mxL A - mnL A else 0
theorem ag1 (A : List Int) : agZ 1 A = A.length := rfl
theorem ag2 (A : List Int) : agZ 2 A = suL A := rfl
theorem ag3 (A : List Int) : agZ 3 A = sqL A := rfl
theorem ag4 (A : List Int) : agZ 4 A = mxL A - mnL A := rfl
theorem ag_nn {g : Int} {A : List Int} (hg : 1 ≤ g ∧ g ≤ 4) (h : ∀ x ∈ A, valG g x) : 0 ≤ agZ g A := by
  have : g = 1 ∨ g = 2 ∨ g = 3 ∨ g = 4 := by omega
  rcases this with rfl | rfl | rfl | rfl
  · rw [ag1]; omega
  · rw [ag2]; exact suL_nn (fun x hx => by have := (h x hx).2.2; omega)
  · rw [ag3]; exact sqL_nn A
  · rw [ag4]
    by_cases hA : A = []
    · subst hA; exact Int.le_refl _
    · have := mn_le_mx hA; omega
/-- A suffix has no greater aggregate. -/
theorem ag_mono {g : Int} {A B : List Int} (hg : 1 ≤ g ∧ g ≤ 4) (h : ∀ x ∈ A ++ B, valG g x) : agZ g B ≤ agZ g (A ++ B) := by
  have hB : ∀ x ∈ A, valG g x := fun x hx => h x (List.mem_append_left _ hx)
  have : g = 1 ∨ g = 2 ∨ g = 3 ∨ g = 4 := by omega
  rcases this with rfl | rfl | rfl | rfl
  · rw [ag1, ag1, List.length_append]; omega
  · rw [ag2, ag2, suL_app]; have := ag_nn hg hB; rw [ag2] at this; omega
  · rw [ag3, ag3, sqL_app]; have := sqL_nn A; omega
  · rw [ag4, ag4]
    by_cases hA : B = []
    · subst hA; rw [List.append_nil]; have := ag_nn hg hB; rw [ag4] at this; simp only [mxL, mnL]; omega
    · have := mnL_app (A := A) hA; have := mxL_app (A := A) hA; omega
/-- What is close stays close by any item. -/
theorem ag_close {g k v : Int} {A B : List Int} (hg : 1 ≤ g ∧ g ≤ 4) (hk : 1 ≤ k) (hB : B ≠ []) (h : ∀ x ∈ A ++ B, valG g x) (hv : valG g v) (hc : k * agZ g (A ++ B) ≤ (k + 1) * agZ g B) : k * agZ g (A ++ B ++ [v]) ≤ (k + 1) * agZ g (B ++ [v]) := by
  have key : ∀ x y a b : Int, k * x ≤ (k + 1) * y → 0 ≤ a → a ≤ b → k * (x + a) ≤ (k + 1) * (y + b) := by
    intro x y a b h1 h2 h3
    rw [Int.mul_add, Int.mul_add]
    have h4 : k * a ≤ k * b := Int.mul_le_mul_of_nonneg_left h3 (by omega)
    have h5 : (k + 1) * b = k * b + b := by rw [Int.add_mul, Int.one_mul]
    omega
  have : g = 1 ∨ g = 2 ∨ g = 3 ∨ g = 4 := by omega
  rcases this with rfl | rfl | rfl | rfl
  · rw [ag1, ag1] at hc
    have e1 : ((A ++ B ++ [v]).length : Int) = ((A ++ B).length : Int) + 1 := by rw [List.length_append, List.length_singleton]; omega
    have e2 : ((B ++ [v]).length : Int) = (B.length : Int) + 1 := by simp
    rw [ag1, ag1, e1, e2]
    exact key _ _ 1 1 hc (by omega) (by omega)
  · rw [ag2, ag2] at hc
    rw [ag2, ag2, suL_app, suL_app B]
    exact key _ _ _ _ hc (suL_nn (fun x hx => by simp only [List.mem_singleton] at hx; subst hx; have := hv.2.2; omega)) (Int.le_refl _)
  · rw [ag3, ag3] at hc
    rw [ag3, ag3, sqL_app, sqL_app B]
    exact key _ _ _ _ hc (sqL_nn _) (Int.le_refl _)
  · rw [ag4, ag4] at hc
    have hA : A ++ B ≠ [] := by simp [hB]
    rw [ag4, ag4, mxL_push v hA, mnL_push v hA, mxL_push v hB, mnL_push v hB]
    have m1 := mnL_app (A := A) hB
    have m2 := mxL_app (A := A) hB
    have m3 := mn_le_mx hB
    generalize mxL (A ++ B) = a2 at *
    generalize mnL (A ++ B) = a1 at *
    generalize mxL B = b2 at *
    generalize mnL B = b1 at *
    have := key (a2 - a1) (b2 - b1) (max a2 v - min a1 v - (a2 - a1)) (max b2 v - min b1 v - (b2 - b1)) hc (by omega) (by omega)
    rwa [show a2 - a1 + (max a2 v - min a1 v - (a2 - a1)) = max a2 v - min a1 v by omega, show b2 - b1 + (max b2 v - min b1 v - (b2 - b1)) = max b2 v - min b1 v by omega] at this
end Go.Proofs.Ytafkoddgefcpnaa

namespace Go.Proofs.Ytafkoddgefcpnaa

/-- The greatest aggregate. -/
def topG (g c : Int) : Int := if g = 1 then c else if g = 2 then c * 4096 else if g = 3 then c * 4096 * 4096 else 8192
end Go.Proofs.Ytafkoddgefcpnaa

namespace Go.Proofs.Ytafkoddgefcpnaa

/-- Marks between an element and the last one that is close to it go. -/
def cutL {α : Type} (f : α → Bool) : List α → List α
  | [] => []
  | x :: R => if R.any f then cutL f R else x :: R
theorem cutL_suffix {α : Type} (f : α → Bool) : ∀ R : List α, ∃ Q, R = Q ++ cutL f R := by
  intro R
  induction R with
  | nil => exact ⟨[], rfl⟩
  | cons x R ih =>
    simp only [cutL]
    split
    · obtain ⟨Q, e⟩ := ih; exact ⟨x :: Q, by rw [List.cons_append, ← e]⟩
    · exact ⟨[], rfl⟩
theorem cutL_len {α : Type} (f : α → Bool) (R : List α) : (cutL f R).length ≤ R.length := by
  obtain ⟨Q, e⟩ := cutL_suffix f R
  have := congrArg List.length e
  rw [List.length_append] at this
  omega
/-- So for each element in turn. -/
def prL {α : Type} (cl : α → α → Bool) : Nat → List α → List α
  | 0, L => L
  | _ + 1, [] => []
  | n + 1, a :: R => a :: prL cl n (cutL (cl a) R)
theorem prL_nil {α : Type} (cl : α → α → Bool) (n : Nat) : prL cl n [] = [] := by cases n <;> rfl
end Go.Proofs.Ytafkoddgefcpnaa

namespace Go.Proofs.Ytafkoddgefcpnaa

def incM (v : Int) (m : Mrk) : Mrk := ⟨m.sq, m.t, m.n + 1, m.s + v, m.q + v * v, min m.lo v, max m.hi v⟩
def oneM (sq t v : Int) : Mrk := ⟨sq, t, 1, v, v * v, v, v⟩
def fit64 (x : Int) : Bool := decide (-9223372036854775808 ≤ x ∧ x ≤ 9223372036854775807)
/-- The aggregate of a mark. -/
def ofZ (g : Int) (m : Mrk) : Int := if g = 1 then m.n else if g = 2 then m.s else if g = 3 then m.q else if g = 4 then (if fit64 (m.hi - m.lo) = true then m.hi - m.lo else 0) else 0
end Go.Proofs.Ytafkoddgefcpnaa

namespace Go.Proofs.Ytafkoddgefcpnaa

theorem chn.suffix {α : Type} {r : α → α → Prop} {R : List α} : ∀ {Q : List α}, chn r (Q ++ R) → chn r R := by
  intro Q
  induction Q with
  | nil => exact fun h => h
  | cons q Q ih => exact fun h => ih h.tail
theorem ch3.suffix {α : Type} {r : α → α → Prop} {R : List α} : ∀ {Q : List α}, ch3 r (Q ++ R) → ch3 r R := by
  intro Q
  induction Q with
  | nil => exact fun h => h
  | cons q Q ih => exact fun h => ih h.tail
theorem ch3.drop {α : Type} {r : α → α → Prop} {P : List α} (n : Nat) (h : ch3 r P) : ch3 r (P.drop n) := by
  rw [← List.take_append_drop n P] at h
  exact h.suffix
end Go.Proofs.Ytafkoddgefcpnaa
