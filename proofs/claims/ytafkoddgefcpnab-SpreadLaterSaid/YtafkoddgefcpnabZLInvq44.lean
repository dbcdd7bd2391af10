/- Texts of these claims, one after the other. -/
import Derived.Test.YtafkoddgefcpnabRows
import Derived.Test.YtafkoddgefcpnabZHSameq36
import Derived.Test.YtafkoddgefcpnabZLMathq43
namespace Go.Proofs.Ytafkoddgefcpnab

instance (k : Int) (A B : List Int) : Decidable (clW k A B) := by unfold clW; infer_instance
/-- Are two marks close; neighbours: adjacent by number, or once close. -/
def clS (k : Int) (I : List It) (a b : Nat) : Bool := decide (clW k (vlF I a) (vlF I b))
def nrS (k : Int) (I : List It) (a b : Nat) : Prop := b = a + 1 ∨ ∃ I0 J, I = I0 ++ J ∧ a < I0.length ∧ b < I0.length ∧ clW k (vlF I0 a) (vlF I0 b)
/-- The state of chapter 14. -/
abbrev Ss (w k c now : Int) (P : List Nat) (I : List It) : Prop := SnM (nrS k) (clS k) 4 w c now P I
/-- The spread from a place on, times the number. -/
def wP (I : List It) (p : Nat) : Int := spW (vlF I p)
/-- The spread of a suffix is not greater. -/
theorem wP_mono (I : List It) {a b : Nat} (h : a ≤ b) : ((vlF I a).length : Int) * wP I b ≤ ((vlF I b).length : Int) * wP I a := by
  unfold wP
  rw [vlF_split I h]
  exact spW_suffix _ _
theorem ch3.and {α : Type} {r s : α → α → Prop} : ∀ {P : List α}, P.Pairwise s → ch3 r P → ch3 (fun a b => r a b ∧ s a b) P := by
  intro P
  induction P with
  | nil => intro _ _; trivial
  | cons a P ih =>
    intro hp h
    cases P with
    | nil => trivial
    | cons b P =>
      cases P with
      | nil => trivial
      | cons c P => exact ⟨⟨h.1, (List.pairwise_cons.1 hp).1 c (by simp)⟩, ih (List.pairwise_cons.1 hp).2 h.2⟩
theorem ch3.prefix_ {α : Type} {r : α → α → Prop} : ∀ {P Q : List α}, ch3 r (P ++ Q) → ch3 r P := by
  intro P
  induction P with
  | nil => intro _ _; trivial
  | cons a P ih =>
    intro Q h
    cases P with
    | nil => trivial
    | cons b P =>
      cases P with
      | nil => trivial
      | cons c P => exact ⟨h.1, ih h.2⟩
theorem wP_anti {I : List It} {a b : Nat} (h : a ≤ b) (ha : a < I.length) : wP I b ≤ wP I a := by
  have h1 := wP_mono I h
  have h2 : ((vlF I b).length : Int) ≤ (vlF I a).length := by rw [vlF_len, vlF_len]; omega
  have h3 := Int.mul_le_mul_of_nonneg_right h2 (spW_nn (vlF I a))
  have h4 : 0 < ((vlF I a).length : Int) := by rw [vlF_len]; omega
  exact Int.le_of_mul_le_mul_left (Int.le_trans h1 h3) h4
/-- What is not close has much smaller a spread, or number. -/
theorem not_clW {k : Int} {I : List It} {a b : Nat} (hk : 1 ≤ k) (hab : a < b) (ha : a < I.length) (h : clS k I a b = false) : (0 < wP I a → 6 * k * wP I b < (6 * k - 1) * wP I a) ∧ (wP I a = 0 → 6 * k * ((vlF I b).length : Int) < (6 * k - 1) * ((vlF I a).length : Int)) := by
  have hn := of_decide_eq_false h
  unfold clW at hn
  have h1 := wP_mono I (Nat.le_of_lt hab)
  have h5 := wP_anti (I := I) (Nat.le_of_lt hab) ha
  have h2 : ((vlF I b).length : Int) ≤ (vlF I a).length := by rw [vlF_len, vlF_len]; omega
  have h4 : 0 < ((vlF I a).length : Int) := by rw [vlF_len]; omega
  have h6 : 0 ≤ wP I b := spW_nn _
  have h7 : 0 ≤ ((vlF I b).length : Int) := Int.natCast_nonneg _
  unfold wP at *
  generalize spW (vlF I a) = wa at *
  generalize spW (vlF I b) = wb at *
  generalize ((vlF I a).length : Int) = na at *
  generalize ((vlF I b).length : Int) = nb at *
  constructor
  · intro h0
    refine Int.lt_of_mul_lt_mul_left (a := na) ?_ (by omega)
    have e1 : na * (6 * k * wb) = 6 * k * (na * wb) := by ac_rfl
    have e2 : na * ((6 * k - 1) * wa) = (6 * k - 1) * na * wa := by ac_rfl
    rw [e1, e2]
    by_cases g : (6 * k - 1) * na ≤ 6 * k * nb
    · have g2 : ¬ (6 * k - 1) * (nb * wa) ≤ 6 * k * (na * wb) := fun hh => hn ⟨g, hh⟩
      have g3 : (6 * k - 1) * (nb * wa) ≤ (6 * k - 1) * na * wa := by
        rw [Int.mul_assoc]
        exact Int.mul_le_mul_of_nonneg_left (Int.mul_le_mul_of_nonneg_right h2 (by omega)) (by omega)
      omega
    · have g2 : 6 * k * (na * wb) ≤ 6 * k * (nb * wa) := Int.mul_le_mul_of_nonneg_left h1 (by omega)
      have g3 : 6 * k * nb * wa < (6 * k - 1) * na * wa := Int.mul_lt_mul_of_pos_right (by omega) h0
      have g4 : 6 * k * (nb * wa) = 6 * k * nb * wa := by ac_rfl
      omega
  · intro h0
    subst h0
    have e : wb = 0 := by omega
    subst e
    have : ¬ (6 * k - 1) * na ≤ 6 * k * nb := fun hh => hn ⟨hh, by simp⟩
    omega
theorem drop_zero (I : List It) : ∀ {P : List Nat}, P.Pairwise (fun a b => a < b) → (∀ p ∈ P, p < I.length) → ∀ p ∈ P.dropWhile (fun p => decide (0 < wP I p)), wP I p = 0 := by
  intro P
  induction P with
  | nil => intro _ _ p hp; cases hp
  | cons a P ih =>
    intro hu hl p hp
    rw [List.dropWhile_cons] at hp
    split at hp
    · exact ih (List.pairwise_cons.1 hu).2 (fun q hq => hl q (List.mem_cons_of_mem _ hq)) p hp
    next g =>
      have g0 : ¬ 0 < wP I a := by simpa using g
      have h0 : 0 ≤ wP I p := spW_nn _
      rcases List.mem_cons.1 hp with rfl | hp
      · omega
      · have := wP_anti (I := I) (Nat.le_of_lt ((List.pairwise_cons.1 hu).1 p hp)) (hl a List.mem_cons_self)
        omega
theorem take_pos {I : List It} : ∀ {P : List Nat} {p : Nat}, p ∈ P.takeWhile (fun p => decide (0 < wP I p)) → 0 < wP I p := by
  intro P
  induction P with
  | nil => intro p hp; cases hp
  | cons a P ih =>
    intro p hp
    rw [List.takeWhile_cons] at hp
    split at hp
    next g =>
      rcases List.mem_cons.1 hp with rfl | hp
      · exact of_decide_eq_true g
      · exact ih hp
    · cases hp
/-- The number of marks. -/
theorem Ss.few {w c now : Int} {k : Nat} {P : List Nat} {I : List It} {B1 B2 : Nat} (h : Ss w k c now P I) (hk : 1 ≤ k) (h1 : ∀ p ∈ P, wP I p < ((2 ^ B1 : Nat) : Int)) (h2 : ∀ p ∈ P, ((vlF I p).length : Int) < ((2 ^ B2 : Nat) : Int)) : P.length ≤ 2 * (6 * k - 1) * (B1 + B2) + 4 := by
  have h5 := ch3.and h.up h.c5
  have e := List.takeWhile_append_dropWhile (p := fun p => decide (0 < wP I p)) (l := P)
  have hz := drop_zero I h.up h.lt
  have ht : ∀ p ∈ P.takeWhile (fun p => decide (0 < wP I p)), 0 < wP I p := fun p hp => by
    exact take_pos hp
  rw [← e] at h5
  have ek : (((6 * k - 1 : Nat) : Int)) = 6 * (k : Int) - 1 := by omega
  have hl1 : ∀ p ∈ P.takeWhile (fun p => decide (0 < wP I p)), p ∈ P := fun p hp => (List.takeWhile_sublist _).subset hp
  have hl2 : ∀ p ∈ P.dropWhile (fun p => decide (0 < wP I p)), p ∈ P := fun p hp => (List.dropWhile_sublist _).subset hp
  have f1 := few_ch3 (wP I) (k := 6 * k - 1) (by omega) B1 (P.takeWhile (fun p => decide (0 < wP I p))) (ch3.imp (fun a ha b hb hab => by
    rw [ek, show (6 * (k : Int) - 1) + 1 = 6 * (k : Int) by omega]
    exact (not_clW (by omega) hab.2 (h.lt a (hl1 a ha)) hab.1).1 (ht a ha)) h5.prefix_) (fun p _ => spW_nn _) (fun p hp => h1 p (hl1 p (List.mem_of_mem_head? hp)))
  have f2 := few_ch3 (fun p => ((vlF I p).length : Int)) (k := 6 * k - 1) (by omega) B2 (P.dropWhile (fun p => decide (0 < wP I p))) (ch3.imp (fun a ha b hb hab => by
    rw [ek, show (6 * (k : Int) - 1) + 1 = 6 * (k : Int) by omega]
    exact (not_clW (by omega) hab.2 (h.lt a (hl2 a ha)) hab.1).2 (hz a ha)) h5.suffix) (fun p _ => Int.natCast_nonneg _) (fun p hp => h2 p (hl2 p (List.mem_of_mem_head? hp)))
  have e3 := congrArg List.length e
  rw [List.length_append] at e3
  have : 2 * (6 * k - 1) * (B1 + B2) = 2 * (6 * k - 1) * B1 + 2 * (6 * k - 1) * B2 := Nat.mul_add _ _ _
  omega
end Go.Proofs.Ytafkoddgefcpnab

namespace Go.Proofs.Ytafkoddgefcpnab

/-- Whether a mark has a spread; N times its spread; whether one mark is close to another. -/
def myM (m : Mrk) : Bool := decide (1 ≤ m.n ∧ m.n ≤ 65536 ∧ -(m.n * 4096) ≤ m.s ∧ m.s ≤ m.n * 4096 ∧ 0 ≤ m.q ∧ m.q ≤ m.n * 16777216 ∧ m.s * m.s ≤ m.n * m.q)
def spM (m : Mrk) : Int := m.n * m.q - m.s * m.s
def clQ (k : Int) (a b : Mrk) : Bool := (myM a && myM b) && (decide (1 ≤ k ∧ k ≤ 64) && (decide ((6 * k - 1) * a.n ≤ 6 * k * b.n) && decide (spM a * ((6 * k - 1) * b.n) ≤ spM b * (6 * k * a.n))))
theorem myM_true {m : Mrk} (h : myM m = true) : 1 ≤ m.n ∧ m.n ≤ 65536 ∧ -(m.n * 4096) ≤ m.s ∧ m.s ≤ m.n * 4096 ∧ 0 ≤ m.q ∧ m.q ≤ m.n * 16777216 ∧ m.s * m.s ≤ m.n * m.q := of_decide_eq_true h
theorem myM_bd {m : Mrk} (h : myM m = true) : (1 ≤ m.n ∧ m.n ≤ 65536) ∧ (-268435456 ≤ m.s ∧ m.s ≤ 268435456) ∧ (0 ≤ m.q ∧ m.q ≤ 1099511627776) ∧ (0 ≤ m.n * m.q ∧ m.n * m.q ≤ 72057594037927936) ∧ (0 ≤ m.s * m.s ∧ m.s * m.s ≤ m.n * m.q) ∧ (0 ≤ spM m ∧ spM m ≤ 72057594037927936) := by
  obtain ⟨a, b, c, d, e, f, g⟩ := myM_true h
  have h1 : m.n * m.q ≤ 65536 * m.q := Int.mul_le_mul_of_nonneg_right b e
  have h2 := Int.mul_nonneg (show 0 ≤ m.n by omega) e
  have h3 := sq_nn m.s
  unfold spM
  exact ⟨⟨a, b⟩, ⟨by omega, by omega⟩, ⟨e, by omega⟩, ⟨h2, by omega⟩, ⟨h3, g⟩, ⟨by omega, by omega⟩⟩
theorem clQ_no {k : Int} {a b : Mrk} (h : ¬ (myM a = true ∧ myM b = true ∧ 1 ≤ k ∧ k ≤ 64)) : clQ k a b = false := by
  unfold clQ
  by_cases h1 : myM a = true
  · by_cases h2 : myM b = true
    · rw [decide_eq_false (p := 1 ≤ k ∧ k ≤ 64) (fun hk => h ⟨h1, h2, hk⟩), Bool.false_and, Bool.and_false]
    · rw [Bool.not_eq_true] at h2; rw [h2, Bool.and_false, Bool.false_and]
  · rw [Bool.not_eq_true] at h1; rw [h1, Bool.false_and, Bool.false_and]
theorem clQ_form {k : Int} {a b : Mrk} (h1 : myM a = true) (h2 : myM b = true) (hk : 1 ≤ k ∧ k ≤ 64) : clQ k a b = (decide ((6 * k - 1) * a.n ≤ 6 * k * b.n) && decide (spM a * ((6 * k - 1) * b.n) ≤ spM b * (6 * k * a.n))) := by
  unfold clQ; rw [h1, h2, decide_eq_true hk]; rfl
section
variable {nr : List It → Nat → Nat → Prop} {cl : List It → Nat → Nat → Bool} {g w k c now : Int} {P : List Nat} {I : List It}
theorem SnM.within (h : SnM nr cl g w c now P I) : ∀ p ∈ P, (I.length : Int) - p ≤ c := by
  intro p hp
  cases P with
  | nil => cases hp
  | cons a R =>
    have h1 := h.cap a rfl
    rcases List.mem_cons.1 hp with rfl | hp
    · exact h1
    · have := (List.pairwise_cons.1 h.up).1 p hp
      omega
end
section
variable {w k c now : Int} {P : List Nat} {I : List It}
end
end Go.Proofs.Ytafkoddgefcpnab
