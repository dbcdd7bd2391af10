/- Texts of these claims, one after the other. -/
import Derived.Test.YtafkoddgefcpnaaRows
import Derived.Test.YtafkoddgefcpnaaZKStq163
import Derived.Test.YtafkoddgefcpnaaZLMathq307
import Derived.Test.YtafkoddgefcpnaaZWMulq63
namespace Go.Proofs.Ytafkoddgefcpnaa

instance (k : Int) (A B : List Int) : Decidable (clW k A B) := by unfold clW; infer_instance
/-- Are two marks close; neighbours: adjacent by number, or once close. -/
def clS (k : Int) (I : List It) (a b : Nat) : Bool := decide (clW k (vlF I a) (vlF I b))
def nrS (k : Int) (I : List It) (a b : Nat) : Prop := b = a + 1 ∨ ∃ I0 J, I = I0 ++ J ∧ a < I0.length ∧ b < I0.length ∧ clW k (vlF I0 a) (vlF I0 b)
/-- The state of chapter 14. -/
abbrev Ss (w k c now : Int) (P : List Nat) (I : List It) : Prop := SnM (nrS k) (clS k) 4 w c now P I
theorem Ss.add {w k c now v : Int} {P : List Nat} {I : List It} {n : Nat} (h : Ss w k c now P I) (h0 : 0 ≤ now) (hv : valG 4 v) (hc : ∀ p, P.head? = some p → (I.length : Int) - p < c) (hn : P.length + 1 ≤ n) : Ss w k c now (prL (clS k (I ++ [(now, v)])) n (P ++ [I.length])) (I ++ [(now, v)]) := by
  have hl : ∀ a, a ∈ P ++ [I.length] → a < (I ++ [(now, v)]).length := fun a ha => by
    rw [List.length_append, List.length_singleton]
    rcases List.mem_append.1 ha with g | g
    · have := h.lt a g; omega
    · simp only [List.mem_singleton] at g; omega
  exact SnM.add h h0 hv hc hn (fun a b ha hb hab => Or.inr ⟨_, [], by rw [List.append_nil], hl a ha, hl b hb, of_decide_eq_true hab⟩) (fun a => Or.inl rfl) (fun a b _ _ hab => by
    rcases hab with e | ⟨I0, J, e, h1, h2, h3⟩
    · exact Or.inl e
    · exact Or.inr ⟨I0, J ++ [(now, v)], by rw [e, List.append_assoc], h1, h2, h3⟩)
/-- The spread from a place on, times the number. -/
def wP (I : List It) (p : Nat) : Int := spW (vlF I p)
/-- The spread of a suffix is not greater. -/
theorem wP_mono (I : List It) {a b : Nat} (h : a ≤ b) : ((vlF I a).length : Int) * wP I b ≤ ((vlF I b).length : Int) * wP I a := by
  unfold wP
  rw [vlF_split I h]
  exact spW_suffix _ _
theorem ch3.and {α : Type} {r s : α → α → Prop} : ∀ {P : List α}, P.Pairwise s → ch3 r P → ch3 (fun a b => r a b ∧ s a b) P := by
  intro P
  induction P with
  | nil => intro _ _; trivial
  | cons a P ih =>
    intro hp h
    cases P with
    | nil => trivial
    | cons b P =>
      cases P with
      | nil => trivial
      | cons c P => exact ⟨⟨h.1, (List.pairwise_cons.1 hp).1 c (by simp)⟩, ih (List.pairwise_cons.1 hp).2 h.2⟩
theorem ch3.prefix_ {α : Type} {r : α → α → Prop} : ∀ {P Q : List α}, ch3 r (P ++ Q) → ch3 r P := by
  intro P
  induction P with
  | nil => intro _ _; trivial
  | cons a P ih =>
    intro Q h
    cases P with
    | nil => trivial
    | cons b P =>
      cases P with
      | nil => trivial
      | cons c P => exact ⟨h.1, ih h.2⟩
theorem wP_anti {I : List It} {a b : Nat} (h : a ≤ b) (ha : a < I.length) : wP I b ≤ wP I a := by
  have h1 := wP_mono I h
  have h2 : ((vlF I b).length : Int) ≤ (vlF I a).length := by rw [vlF_len, vlF_len]; omega
  have h3 := Int.mul_le_mul_of_nonneg_right h2 (spW_nn (vlF I a))
  have h4 : 0 < ((vlF I a).length : Int) := by rw [vlF_len]; omega
  exact Int.le_of_mul_le_mul_left (Int.le_trans h1 h3) h4
/-- What is not close has much smaller a spread, or number. -/
theorem not_clW {k : Int} {I : List It} {a b : Nat} (hk : 1 ≤ k) (hab : a < b) (ha : a < I.length) (h : clS k I a b = false) : (0 < wP I a → 6 * k * wP I b < (6 * k - 1) * wP I a) ∧ (wP I a = 0 → 6 * k * ((vlF I b).length : Int) < (6 * k - 1) * ((vlF I a).length : Int)) := by
  have hn := of_decide_eq_false h
  unfold clW at hn
  have h1 := wP_mono I (Nat.le_of_lt hab)
  have h5 := wP_anti (I := I) (Nat.le_of_lt hab) ha
  have h2 : ((vlF I b).length : Int) ≤ (vlF I a).length := by rw [vlF_len, vlF_len]; omega
  have h4 : 0 < ((vlF I a).length : Int) := by rw [vlF_len]; omega
  have h6 : 0 ≤ wP I b := spW_nn _
  have h7 : 0 ≤ ((vlF I b).length : Int) := Int.natCast_nonneg _
  unfold wP at *
  generalize spW (vlF I a) = wa at *
  generalize spW (vlF I b) = wb at *
  generalize ((vlF I a).length : Int) = na at *
  generalize ((vlF I b).length : Int) = nb at *
  constructor
  · intro h0
    refine Int.lt_of_mul_lt_mul_left (a := na) ?_ (by omega)
    have e1 : na * (6 * k * wb) = 6 * k * (na * wb) := by ac_rfl
    have e2 : na * ((6 * k - 1) * wa) = (6 * k - 1) * na * wa := by ac_rfl
    rw [e1, e2]
    by_cases g : (6 * k - 1) * na ≤ 6 * k * nb
    · have g2 : ¬ (6 * k - 1) * (nb * wa) ≤ 6 * k * (na * wb) := fun hh => hn ⟨g, hh⟩
      have g3 : (6 * k - 1) * (nb * wa) ≤ (6 * k - 1) * na * wa := by
        rw [Int.mul_assoc]
        exact Int.mul_le_mul_of_nonneg_left (Int.mul_le_mul_of_nonneg_right h2 (by omega)) (by omega)
      omega
    · have g2 : 6 * k * (na * wb) ≤ 6 * k * (nb * wa) := Int.mul_le_mul_of_nonneg_left h1 (by omega)
      have g3 : 6 * k * nb * wa < (6 * k - 1) * na * wa := Int.mul_lt_mul_of_pos_right (by omega) h0
      have g4 : 6 * k * (nb * wa) = 6 * k * nb * wa := by ac_rfl
      omega
  · intro h0
    subst h0
    have e : wb = 0 := by omega
    subst e
    have : ¬ (6 * k - 1) * na ≤ 6 * k * nb := fun hh => hn ⟨hh, by simp⟩
    omega
theorem drop_zero (I : List It) : ∀ {P : List Nat}, P.Pairwise (fun a b => a < b) → (∀ p ∈ P, p < I.length) → ∀ p ∈ P.dropWhile (fun p => decide (0 < wP I p)), wP I p = 0 := by
  intro P
  induction P with
  | nil => intro _ _ p hp; cases hp
  | cons a P ih =>
    intro hu hl p hp
    rw [List.dropWhile_cons] at hp
    split at hp
    · exact ih (List.pairwise_cons.1 hu).2 (fun q hq => hl q (List.mem_cons_of_mem _ hq)) p hp
    next g =>
      have g0 : ¬ 0 < wP I a := by simpa using g
      have h0 : 0 ≤ wP I p := spW_nn _
      rcases List.mem_cons.1 hp with rfl | hp
      · omega
      · have := wP_anti (I := I) (Nat.le_of_lt ((List.pairwise_cons.1 hu).1 p hp)) (hl a List.mem_cons_self)
        omega
theorem take_pos {I : List It} : ∀ {P : List Nat} {p : Nat}, p ∈ P.takeWhile (fun p => decide (0 < wP I p)) → 0 < wP I p := by
  intro P
  induction P with
  | nil => intro p hp; cases hp
  | cons a P ih =>
    intro p hp
    rw [List.takeWhile_cons] at hp
    split at hp
    next g =>
      rcases List.mem_cons.1 hp with rfl | hp
      · exact of_decide_eq_true g
      · exact ih hp
    · cases hp
/-- The number of marks. -/
theorem Ss.few {w c now : Int} {k : Nat} {P : List Nat} {I : List It} {B1 B2 : Nat} (h : Ss w k c now P I) (hk : 1 ≤ k) (h1 : ∀ p ∈ P, wP I p < ((2 ^ B1 : Nat) : Int)) (h2 : ∀ p ∈ P, ((vlF I p).length : Int) < ((2 ^ B2 : Nat) : Int)) : P.length ≤ 2 * (6 * k - 1) * (B1 + B2) + 4 := by
  have h5 := ch3.and h.up h.c5
  have e := List.takeWhile_append_dropWhile (p := fun p => decide (0 < wP I p)) (l := P)
  have hz := drop_zero I h.up h.lt
  have ht : ∀ p ∈ P.takeWhile (fun p => decide (0 < wP I p)), 0 < wP I p := fun p hp => by
    exact take_pos hp
  rw [← e] at h5
  have ek : (((6 * k - 1 : Nat) : Int)) = 6 * (k : Int) - 1 := by omega
  have hl1 : ∀ p ∈ P.takeWhile (fun p => decide (0 < wP I p)), p ∈ P := fun p hp => (List.takeWhile_sublist _).subset hp
  have hl2 : ∀ p ∈ P.dropWhile (fun p => decide (0 < wP I p)), p ∈ P := fun p hp => (List.dropWhile_sublist _).subset hp
  have f1 := few_ch3 (wP I) (k := 6 * k - 1) (by omega) B1 (P.takeWhile (fun p => decide (0 < wP I p))) (ch3.imp (fun a ha b hb hab => by
    rw [ek, show (6 * (k : Int) - 1) + 1 = 6 * (k : Int) by omega]
    exact (not_clW (by omega) hab.2 (h.lt a (hl1 a ha)) hab.1).1 (ht a ha)) h5.prefix_) (fun p _ => spW_nn _) (fun p hp => h1 p (hl1 p (List.mem_of_mem_head? hp)))
  have f2 := few_ch3 (fun p => ((vlF I p).length : Int)) (k := 6 * k - 1) (by omega) B2 (P.dropWhile (fun p => decide (0 < wP I p))) (ch3.imp (fun a ha b hb hab => by
    rw [ek, show (6 * (k : Int) - 1) + 1 = 6 * (k : Int) by omega]
    exact (not_clW (by omega) hab.2 (h.lt a (hl2 a ha)) hab.1).2 (hz a ha)) h5.suffix) (fun p _ => Int.natCast_nonneg _) (fun p hp => h2 p (hl2 p (List.mem_of_mem_head? hp)))
  have e3 := congrArg List.length e
  rw [List.length_append] at e3
  have : 2 * (6 * k - 1) * (B1 + B2) = 2 * (6 * k - 1) * B1 + 2 * (6 * k - 1) * B2 := Nat.mul_add _ _ _
  omega
end Go.Proofs.Ytafkoddgefcpnaa

namespace Go.Proofs.Ytafkoddgefcpnaa

theorem clQ_true {k : Int} {a b : Mrk} (h : clQ k a b = true) : (myM a = true ∧ myM b = true) ∧ (1 ≤ k ∧ k ≤ 64) ∧ (6 * k - 1) * a.n ≤ 6 * k * b.n ∧ spM a * ((6 * k - 1) * b.n) ≤ spM b * (6 * k * a.n) := by
  unfold clQ at h
  simp only [Bool.and_eq_true, decide_eq_true_eq] at h
  exact ⟨h.1, h.2.1, h.2.2.1, h.2.2.2⟩
/-- The spread does not rise from a to b. -/
def fall (a b : Mrk) : Prop := b.n ≤ a.n ∧ spM b * a.n ≤ spM a * b.n
theorem fall_refl (a : Mrk) : fall a a := ⟨Int.le_refl _, Int.le_refl _⟩
theorem fall_trans {a b c : Mrk} (ha : 1 ≤ a.n) (hb : 1 ≤ b.n) (hc : 1 ≤ c.n) (h1 : fall a b) (h2 : fall b c) : fall a c := by
  refine ⟨Int.le_trans h2.1 h1.1, ?_⟩
  refine Int.le_of_mul_le_mul_left (a := b.n) ?_ (by omega)
  have e1 : b.n * (spM c * a.n) = spM c * b.n * a.n := by ac_rfl
  have e2 : b.n * (spM a * c.n) = spM a * b.n * c.n := by ac_rfl
  have e3 : spM b * c.n * a.n = spM b * a.n * c.n := by ac_rfl
  have h3 := Int.mul_le_mul_of_nonneg_right h2.2 (show 0 ≤ a.n by omega)
  have h4 := Int.mul_le_mul_of_nonneg_right h1.2 (show 0 ≤ c.n by omega)
  rw [e1, e2]
  omega
/-- .. if what lies between them may be items. -/
theorem fall_of {a b : Mrk} (hb : 1 ≤ b.n) (hn : 1 ≤ a.n - b.n) (h : (a.s - b.s) * (a.s - b.s) ≤ (a.n - b.n) * (a.q - b.q)) : fall a b := by
  refine ⟨by omega, ?_⟩
  obtain ⟨n1, e1⟩ : ∃ x, a.n - b.n = x := ⟨_, rfl⟩
  obtain ⟨s1, e2⟩ : ∃ x, a.s - b.s = x := ⟨_, rfl⟩
  obtain ⟨q1, e3⟩ : ∃ x, a.q - b.q = x := ⟨_, rfl⟩
  rw [e1, e2, e3] at h
  rw [e1] at hn
  unfold spM
  rw [show a.n = n1 + b.n by omega, show a.s = s1 + b.s by omega, show a.q = q1 + b.q by omega]
  generalize b.n = n2 at *
  generalize b.s = s2 at *
  generalize b.q = q2 at *
  clear e1 e2 e3
  have key : ((n1 + n2) * (q1 + q2) - (s1 + s2) * (s1 + s2)) * n2 - (n2 * q2 - s2 * s2) * (n1 + n2) = n2 * (n1 * q1 - s1 * s1) + (n2 * n2 * q1 - 2 * (n2 * s1 * s2) + n1 * (s2 * s2)) := by grind
  have p1 : 0 ≤ n2 * (n1 * q1 - s1 * s1) := Int.mul_nonneg (by omega) (by omega)
  have p2 : 0 ≤ n2 * n2 * q1 - 2 * (n2 * s1 * s2) + n1 * (s2 * s2) := by
    refine Int.le_of_mul_le_mul_left (a := n1) ?_ (by omega)
    rw [Int.mul_zero]
    have k2 : n1 * (n2 * n2 * q1 - 2 * (n2 * s1 * s2) + n1 * (s2 * s2)) = n2 * n2 * (n1 * q1 - s1 * s1) + (n2 * s1 - n1 * s2) * (n2 * s1 - n1 * s2) := by grind
    rw [k2]
    have := Int.mul_nonneg (sq_nn n2) (show 0 ≤ n1 * q1 - s1 * s1 by omega)
    have := sq_nn (n2 * s1 - n1 * s2)
    omega
  omega
/-- What is close to a later mark is close to an earlier one. -/
theorem clQ_anti {k : Int} {a b c : Mrk} (hb : myM b = true) (h : fall b c) (hc : clQ k a c = true) : clQ k a b = true := by
  obtain ⟨⟨m1, m2⟩, hk, h1, h2⟩ := clQ_true hc
  have hb1 := (myM_true hb).1
  have hc1 := (myM_true m2).1
  have ha1 := (myM_true m1).1
  have s0 := (myM_bd m1).2.2.2.2.2.1
  rw [clQ_form m1 hb hk, decide_eq_true, decide_eq_true]
  · rfl
  · refine Int.le_of_mul_le_mul_left (a := c.n) ?_ (by omega)
    have e1 : c.n * (spM a * ((6 * k - 1) * b.n)) = spM a * ((6 * k - 1) * c.n) * b.n := by ac_rfl
    have e2 : c.n * (spM b * (6 * k * a.n)) = spM b * c.n * (6 * k * a.n) := by ac_rfl
    have e3 : spM c * (6 * k * a.n) * b.n = spM c * b.n * (6 * k * a.n) := by ac_rfl
    have h3 := Int.mul_le_mul_of_nonneg_right h2 (show 0 ≤ b.n by omega)
    have h4 := Int.mul_le_mul_of_nonneg_right h.2 (Int.mul_nonneg (show 0 ≤ 6 * k by omega) (show 0 ≤ a.n by omega))
    rw [e1, e2]
    omega
  · have := Int.mul_le_mul_of_nonneg_left h.1 (show 0 ≤ 6 * k by omega)
    omega
/-- A mark with one more item. -/
theorem myM_inc {m : Mrk} {v : Int} (h : myM m = true) (hn : m.n < 65536) (h1 : -4096 ≤ v) (h2 : v ≤ 4096) : myM (incM v m) = true := by
  obtain ⟨a, b, c, d, e, f, g⟩ := myM_true h
  have hv := sq_bd h1 h2
  have hv0 := sq_nn v
  refine decide_eq_true ?_
  show 1 ≤ m.n + 1 ∧ m.n + 1 ≤ 65536 ∧ -((m.n + 1) * 4096) ≤ m.s + v ∧ m.s + v ≤ (m.n + 1) * 4096 ∧ 0 ≤ m.q + v * v ∧ m.q + v * v ≤ (m.n + 1) * 16777216 ∧ (m.s + v) * (m.s + v) ≤ (m.n + 1) * (m.q + v * v)
  refine ⟨by omega, by omega, by omega, by omega, by omega, by omega, ?_⟩
  generalize m.n = n at *
  generalize m.s = s at *
  generalize m.q = q at *
  have k1 : (n + 1) * (q + v * v) - (s + v) * (s + v) = (n * q - s * s) + (q + n * (v * v) - 2 * (s * v)) := by grind
  have p2 : 0 ≤ q + n * (v * v) - 2 * (s * v) := by
    refine Int.le_of_mul_le_mul_left (a := n) ?_ (by omega)
    rw [Int.mul_zero]
    have k2 : n * (q + n * (v * v) - 2 * (s * v)) = (n * q - s * s) + (s - n * v) * (s - n * v) := by grind
    rw [k2]
    have := sq_nn (s - n * v)
    omega
  omega
theorem myM_one {sq t v : Int} (h1 : -4096 ≤ v) (h2 : v ≤ 4096) : myM (oneM sq t v) = true := by
  have hv := sq_bd h1 h2
  have hv0 := sq_nn v
  refine decide_eq_true ?_
  show (1 : Int) ≤ 1 ∧ (1 : Int) ≤ 65536 ∧ -(1 * 4096) ≤ v ∧ v ≤ 1 * 4096 ∧ 0 ≤ v * v ∧ v * v ≤ 1 * 16777216 ∧ v * v ≤ 1 * (v * v)
  omega
/-- A valid mark has a spread; valid marks fall. -/
theorem OkB.my {w c now seq : Int} {X : List Mrk} {j : Nat} (h : OkB 4 w c now seq X j) (hc : c ≤ 65536) : myM (X.getD j mk0) = true := by
  have h1 := h.num
  have h2 := h.few
  have h3 := h.sq2
  have h4 := h.lo
  have h5 := h.hi
  obtain ⟨a, b, d, e⟩ := prt_bd h.prt (by omega) h4.1 h5.2.1
  exact decide_eq_true ⟨by omega, by omega, a, b, d, e, h.prt.2.2.2.2⟩
theorem OkB.fall {w c now seq : Int} {X : List Mrk} {j : Nat} (h0 : OkB 4 w c now seq X (j - 1)) (h : OkB 4 w c now seq X j) (hj : 0 < j) : fall (X.getD (j - 1) mk0) (X.getD j mk0) := by
  have h1 := h.num
  have h2 := h0.num
  have h3 := h.asc hj
  have h4 := h.sq2
  exact fall_of (by omega) (by omega) (h.nprt hj).2.2.2.2
theorem mrkB_fall {w c now seq : Int} {X : List Mrk} (h : mrkB 4 w c now seq X = true) (hc : c ≤ 65536) : ∀ i j, i ≤ j → j < X.length → fall (X.getD i mk0) (X.getD j mk0) := by
  obtain ⟨_, hx⟩ := mrkB_true h
  have h1 : ∀ j, j < X.length → 1 ≤ (X.getD j mk0).n := fun j hj => (myM_true ((hx j hj).my hc)).1
  intro i j hij hj
  induction j with
  | zero => obtain rfl : i = 0 := by omega
            exact fall_refl _
  | succ j ih =>
    rcases Nat.lt_or_ge i (j + 1) with e | e
    · have h2 := OkB.fall (X := X) (j := j + 1) (hx j (by omega)) (hx (j + 1) hj) (by omega)
      exact fall_trans (h1 i (by omega)) (h1 j (by omega)) (h1 (j + 1) hj) (ih (by omega) (by omega)) h2
    · obtain rfl : i = j + 1 := by omega
      exact fall_refl _
theorem fall_inc {a b : Mrk} {v : Int} (hb : myM b = true) (h : a = b ∨ (1 ≤ a.n - b.n ∧ (a.s - b.s) * (a.s - b.s) ≤ (a.n - b.n) * (a.q - b.q))) : fall (incM v a) (incM v b) := by
  rcases h with rfl | ⟨h1, h2⟩
  · exact fall_refl _
  · have hb1 := (myM_true hb).1
    refine fall_of (show 1 ≤ b.n + 1 by omega) (show 1 ≤ a.n + 1 - (b.n + 1) by omega) ?_
    show (a.s + v - (b.s + v)) * (a.s + v - (b.s + v)) ≤ (a.n + 1 - (b.n + 1)) * (a.q + v * v - (b.q + v * v))
    rw [show a.s + v - (b.s + v) = a.s - b.s by omega, show a.n + 1 - (b.n + 1) = a.n - b.n by omega, show a.q + v * v - (b.q + v * v) = a.q - b.q by omega]
    exact h2
theorem fall_new {a : Mrk} {sq t v : Int} (ha : myM a = true) : fall (incM v a) (oneM sq t v) := by
  obtain ⟨a1, b, c, d, e, f, g⟩ := myM_true ha
  refine fall_of (show (1 : Int) ≤ 1 by omega) (show 1 ≤ a.n + 1 - 1 by omega) ?_
  show (a.s + v - v) * (a.s + v - v) ≤ (a.n + 1 - 1) * (a.q + v * v - v * v)
  rw [show a.s + v - v = a.s by omega, show a.n + 1 - 1 = a.n by omega, show a.q + v * v - v * v = a.q by omega]
  exact g
/-- The marks with one more item: each has a spread, and they fall. -/
theorem inM_facts {w c now seq v : Int} {X : List Mrk} (h : mrkB 4 w c now seq X = true) (hc : c ≤ 65536) (hf : fuM c seq X = false) (h1 : -4096 ≤ v) (h2 : v ≤ 4096) :
    (∀ j, j < (inM (seq + 1) now v X).length → myM ((inM (seq + 1) now v X).getD j mk0) = true) ∧ ∀ i j, i ≤ j → j < (inM (seq + 1) now v X).length → fall ((inM (seq + 1) now v X).getD i mk0) ((inM (seq + 1) now v X).getD j mk0) := by
  obtain ⟨hs, hx⟩ := mrkB_true h
  have hmy : ∀ j, j < X.length → myM (X.getD j mk0) = true := fun j hj => (hx j hj).my hc
  have hn : ∀ j, j < X.length → (X.getD j mk0).n < 65536 := by
    have h0 : 0 < X.length → (X.getD 0 mk0).n < 65536 := fun h0 => by
      unfold fuM at hf
      rw [decide_eq_true h0, Bool.true_and, Bool.or_eq_false_iff, decide_eq_false_iff_not] at hf
      have := (hx 0 h0).few
      have := hf.1
      omega
    intro j hj
    have h3 := mrkB_fall h hc 0 j (Nat.zero_le _) hj
    have := h3.1
    have := h0 (by omega)
    omega
  have hlen : (inM (seq + 1) now v X).length = X.length + 1 := by unfold inM; simp
  have hget : ∀ j, j < X.length → (inM (seq + 1) now v X).getD j mk0 = incM v (X.getD j mk0) := fun j hj => by
    unfold inM
    simp [List.getD, List.getElem?_append, hj]
  have hlast : (inM (seq + 1) now v X).getD X.length mk0 = oneM (seq + 1) now v := by
    unfold inM
    simp [List.getD]
  have hmy2 : ∀ j, j < (inM (seq + 1) now v X).length → myM ((inM (seq + 1) now v X).getD j mk0) = true := fun j hj => by
    rw [hlen] at hj
    rcases Nat.lt_or_ge j X.length with g | g
    · rw [hget j g]; exact myM_inc (hmy j g) (hn j g) h1 h2
    · obtain rfl : j = X.length := by omega
      rw [hlast]; exact myM_one h1 h2
  refine ⟨hmy2, fun i j hij hj => ?_⟩
  have hstep : ∀ j, j + 1 < (inM (seq + 1) now v X).length → fall ((inM (seq + 1) now v X).getD j mk0) ((inM (seq + 1) now v X).getD (j + 1) mk0) := fun j hj => by
    rw [hlen] at hj
    rcases Nat.lt_or_ge (j + 1) X.length with g | g
    · rw [hget j (by omega), hget (j + 1) g]
      have a1 := (hx (j + 1) g).num
      have a2 := (hx j (by omega)).num
      have a3 := (hx (j + 1) g).asc (by omega)
      rw [Nat.add_sub_cancel] at a3
      have a4 := (hx (j + 1) g).nprt (by omega)
      rw [Nat.add_sub_cancel] at a4
      exact fall_inc (hmy (j + 1) g) (Or.inr ⟨by omega, a4.2.2.2.2⟩)
    · obtain e : j + 1 = X.length := by omega
      rw [hget j (by omega), e, hlast]
      exact fall_new (hmy j (by omega))
  have h1' : ∀ j, j < (inM (seq + 1) now v X).length → 1 ≤ ((inM (seq + 1) now v X).getD j mk0).n := fun j hj => (myM_true (hmy2 j hj)).1
  induction j with
  | zero => obtain rfl : i = 0 := by omega
            exact fall_refl _
  | succ j ih =>
    rcases Nat.lt_or_ge i (j + 1) with e | e
    · exact fall_trans (h1' i (by omega)) (h1' j (by omega)) (h1' (j + 1) hj) (ih (by omega) (by omega)) (hstep j hj)
    · obtain rfl : i = j + 1 := by omega
      exact fall_refl _
/-- The test of the distances; valid states; what Validate returns. -/
def dsB (k : Int) (X : List Mrk) : Bool := decide (∀ j, j < X.length → 1 < j → clQ k (X.getD (j - 2) mk0) (X.getD j mk0) = false)
def stP (w k c now seq : Int) (X : List Mrk) : Bool := mayC w k c now && (mrkB 4 w c now seq X && dsB k X)
def stPE (w k c now seq : Int) (X : List Mrk) : Int := if stP w k c now seq X = true then 0 else 2
theorem stPE_yes {w k c now seq : Int} {X : List Mrk} (h : stP w k c now seq X = true) : stPE w k c now seq X = 0 := if_pos h
theorem stPE_no {w k c now seq : Int} {X : List Mrk} (h : stP w k c now seq X = false) : stPE w k c now seq X = 2 := if_neg (by rw [h]; exact Bool.false_ne_true)
theorem stP_true {w k c now seq : Int} {X : List Mrk} (h : stP w k c now seq X = true) : mayC w k c now = true ∧ mrkB 4 w c now seq X = true ∧ dsB k X = true := by
  unfold stP at h
  rw [Bool.and_eq_true, Bool.and_eq_true] at h
  exact ⟨h.1, h.2.1, h.2.2⟩
theorem stP_yes {w k c now seq : Int} {X : List Mrk} (h1 : mayC w k c now = true) (h2 : mrkB 4 w c now seq X = true) (h3 : dsB k X = true) : stP w k c now seq X = true := by
  unfold stP; rw [h1, h2, h3]; rfl
theorem dsB_bad {k : Int} {X : List Mrk} {j : Nat} (hj : j < X.length) (h1 : 1 < j) (h : clQ k (X.getD (j - 2) mk0) (X.getD j mk0) = true) : dsB k X = false := decide_eq_false (fun hp => by rw [hp j hj h1] at h; cases h)
/-- What Add leaves; the marks whose spreads bound the answer: from, to. -/
def adS (k seq now v : Int) (X : List Mrk) : List Mrk := prL (clQ k) (X.length + 1) (inM (seq + 1) now v X)
theorem myM_mrkA {I : List It} (h : ∀ x ∈ I, valG 4 x.2) {p : Nat} (hp : p < I.length) (hc : (I.length : Int) - p ≤ 65536) : myM (mrkA I p) = true := by
  have hv := vlF_val h p
  have hl := vlF_len I p
  have h1 := suL_ge (fun x hx => (hv x hx).1)
  have h2 := suL_le (fun x hx => (hv x hx).2.1)
  have h3 := sqL_le (A := vlF I p) (m := 4096) (fun x hx => ⟨(hv x hx).1, (hv x hx).2.1⟩)
  have h4 := sqL_nn (vlF I p)
  have h5 := cauchy (vlF I p)
  refine decide_eq_true ?_
  show 1 ≤ ((vlF I p).length : Int) ∧ ((vlF I p).length : Int) ≤ 65536 ∧ -(((vlF I p).length : Int) * 4096) ≤ suL (vlF I p) ∧ suL (vlF I p) ≤ ((vlF I p).length : Int) * 4096 ∧ 0 ≤ sqL (vlF I p) ∧ sqL (vlF I p) ≤ ((vlF I p).length : Int) * 16777216 ∧ suL (vlF I p) * suL (vlF I p) ≤ ((vlF I p).length : Int) * sqL (vlF I p)
  generalize ((vlF I p).length) = n at *
  exact ⟨by omega, by omega, by omega, by omega, h4, by omega, h5⟩
theorem clQ_mrkA {k : Int} {I : List It} {a b : Nat} (hk : 1 ≤ k ∧ k ≤ 64) (ha : myM (mrkA I a) = true) (hb : myM (mrkA I b) = true) : clQ k (mrkA I a) (mrkA I b) = clS k I a b := by
  rw [clQ_form ha hb hk]
  unfold clS
  rw [Bool.eq_iff_iff, Bool.and_eq_true, decide_eq_true_eq, decide_eq_true_eq, decide_eq_true_eq]
  unfold clW
  have e1 : spM (mrkA I a) * ((6 * k - 1) * (mrkA I b).n) = (6 * k - 1) * (((vlF I b).length : Int) * spW (vlF I a)) := by
    show spW (vlF I a) * ((6 * k - 1) * ((vlF I b).length : Int)) = _
    ac_rfl
  have e2 : spM (mrkA I b) * (6 * k * (mrkA I a).n) = 6 * k * (((vlF I a).length : Int) * spW (vlF I b)) := by
    show spW (vlF I b) * (6 * k * ((vlF I a).length : Int)) = _
    ac_rfl
  rw [e1, e2]
  exact Iff.rfl
section
variable {nr : List It → Nat → Nat → Prop} {cl : List It → Nat → Nat → Bool} {g w k c now : Int} {P : List Nat} {I : List It}
theorem SnM.dr_map (h : SnM nr cl g w c now P I) (hm : mayC w k c now = true) {td : Int} (h1 : now ≤ td) (h2 : td ≤ 16777216) : drM td w (P.map (mrkA I)) = (drL (fun p => decide (td - w < (I.getD p (0, 0)).1)) P).map (mrkA I) := by
  unfold drM
  rw [drL_map]
  congr 1
  obtain ⟨g1, g2, g3, g4⟩ := mayC_facts hm
  have ht : (tickB td && winB w) = true := by rw [tickB_yes (by omega) h2, winB_yes g2.1 g2.2]; rfl
  refine drL_congr (fun p hp => ?_)
  have hx := h.rg (I.getD p (0, 0)) (by
    have := h.lt p hp
    rw [List.getD_eq_getElem?_getD, List.getElem?_eq_getElem this]
    exact List.getElem_mem this)
  show liveB td w (I.getD p (0, 0)).1 = _
  rw [Bool.eq_iff_iff, live_iff ht hx.1, decide_eq_true_eq]
  constructor
  · exact fun h => h.1
  · exact fun h => ⟨h, by omega⟩
theorem SnM.in_map (h : SnM nr cl g w c now P I) (v : Int) : inM ((I.length : Int) + 1) now v (P.map (mrkA I)) = (P ++ [I.length]).map (mrkA (I ++ [(now, v)])) := by
  unfold inM
  rw [List.map_append, List.map_map, List.map_singleton, mrkA_new]
  congr 1
  exact List.map_congr_left (fun p hp => (mrkA_push I now v (h.lt p hp)).symm)
theorem SnM.fu_no (h : SnM nr cl g w c now P I) (hf : fuM c I.length (P.map (mrkA I)) = false) : (∀ p, P.head? = some p → (I.length : Int) - p < c) ∧ (I.length : Int) < 1099511627776 ∨ 1099511627776 < (I.length : Int) := by
  unfold fuM at hf
  rw [Bool.or_eq_false_iff, decide_eq_false_iff_not] at hf
  rcases Int.lt_trichotomy (I.length : Int) 1099511627776 with e | e | e
  · refine Or.inl ⟨fun p hp => ?_, e⟩
    have h1 := h.cap p hp
    cases P with
    | nil => cases hp
    | cons a R =>
      have ea : a = p := by simpa using hp
      subst ea
      have h2 := hf.1
      have h3 : (((a :: R).map (mrkA I)).getD 0 mk0).n = (I.length : Int) - a := by
        show ((vlF I a).length : Int) = _
        have := h.lt a List.mem_cons_self
        rw [vlF_len]; omega
      rw [h3] at h2
      have h4 : decide (0 < ((a :: R).map (mrkA I)).length) = true := decide_eq_true (by simp)
      rw [h4, Bool.true_and, decide_eq_false_iff_not] at h2
      omega
  · exact absurd e hf.2
  · exact Or.inr e
theorem SnM.within (h : SnM nr cl g w c now P I) : ∀ p ∈ P, (I.length : Int) - p ≤ c := by
  intro p hp
  cases P with
  | nil => cases hp
  | cons a R =>
    have h1 := h.cap a rfl
    rcases List.mem_cons.1 hp with rfl | hp
    · exact h1
    · have := (List.pairwise_cons.1 h.up).1 p hp
      omega
end
section
variable {w k c now : Int} {P : List Nat} {I : List It}
theorem Ss.my (h : Ss w k c now P I) (hc : c ≤ 65536) : ∀ p ∈ P, myM (mrkA I p) = true := fun p hp => myM_mrkA h.vals (h.lt p hp) (by have := SnM.within h p hp; omega)
theorem Ss.st (h : Ss w k c now P I) (hm : mayC w k c now = true) (hl : (I.length : Int) ≤ 1099511627776) : stP w k c now I.length (P.map (mrkA I)) = true := by
  refine stP_yes hm (mrkB_yes (by omega) hl (fun j hj => SnM.ok h (by rw [List.length_map] at hj; exact hj))) (decide_eq_true (fun j hj h1 => ?_))
  rw [List.length_map] at hj
  have hk := (mayC_true hm).2
  have hc := (mayC_facts hm).2.2.1.2
  have e2 := getD_map (I := I) (P := P) (j := j - 2) (by omega)
  rw [e2, getD_map (I := I) hj, clQ_mrkA hk (Ss.my h hc _ (getD_in (by omega))) (Ss.my h hc _ (getD_in hj))]
  have := h.c5.at 0 (j - 2) (by omega)
  rwa [show j - 2 + 2 = j by omega] at this
theorem Ss.ad_map (h : Ss w k c now P I) (hm : mayC w k c now = true) {v : Int} (hv : valG 4 v) (hh : ∀ p, P.head? = some p → (I.length : Int) - p < c) : adS k I.length now v (P.map (mrkA I)) = (prL (clS k (I ++ [(now, v)])) (P.length + 1) (P ++ [I.length])).map (mrkA (I ++ [(now, v)])) := by
  unfold adS
  rw [SnM.in_map h v, prL_map, List.length_map]
  congr 1
  have hk := (mayC_true hm).2
  have hc := (mayC_facts hm).2.2.1
  have hvals : ∀ x ∈ I ++ [(now, v)], valG 4 x.2 := fun x hx => by
    rcases List.mem_append.1 hx with e | e
    · exact h.vals x e
    · simp only [List.mem_singleton] at e; subst e; exact hv
  have hmy : ∀ p ∈ P ++ [I.length], myM (mrkA (I ++ [(now, v)]) p) = true := fun p hp => by
    have hl : (I ++ [(now, v)]).length = I.length + 1 := by simp
    rcases List.mem_append.1 hp with e | e
    · have h1 := h.lt p e
      have h2 : (I.length : Int) - p < c := by
        cases P with
        | nil => cases e
        | cons a R =>
          have h3 := hh a rfl
          rcases List.mem_cons.1 e with rfl | e
          · exact h3
          · have := (List.pairwise_cons.1 h.up).1 p e
            omega
      exact myM_mrkA hvals (by omega) (by omega)
    · simp only [List.mem_singleton] at e
      subst e
      exact myM_mrkA hvals (by omega) (by omega)
  refine prL_congr (L := P ++ [I.length]) (fun x hx y hy => ?_) _ _ (fun x hx => hx)
  exact clQ_mrkA hk (hmy x hx) (hmy y hy)
end
end Go.Proofs.Ytafkoddgefcpnaa
