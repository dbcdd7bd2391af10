/- Texts of these claims, one after the other. -/
import Derived.Test.YtchikndofpkjmaaRows
import Derived.Test.YtchikndofpkjmaaZKMemq97
namespace Go.Proofs.Ytchikndofpkjmaa

/-- The live ones are those from a place on. -/
theorem live_from (f : Int) : ∀ {I : List It}, I.Pairwise (fun x y => x.1 ≤ y.1) → ∃ l, l ≤ I.length ∧ I.filter (fun x => decide (f < x.1)) = I.drop l ∧ (∀ i, i < l → (I.getD i (0, 0)).1 ≤ f) ∧ ∀ i, l ≤ i → i < I.length → f < (I.getD i (0, 0)).1 := by
  intro I
  induction I with
  | nil => intro _; exact ⟨0, Nat.le_refl _, rfl, fun i hi => absurd hi (Nat.not_lt_zero _), fun i _ hi => absurd hi (Nat.not_lt_zero _)⟩
  | cons x I ih =>
    intro h
    obtain ⟨h1, h2⟩ := List.pairwise_cons.1 h
    by_cases hx : f < x.1
    · refine ⟨0, Nat.zero_le _, ?_, fun i hi => absurd hi (Nat.not_lt_zero _), fun i _ hi => ?_⟩
      · rw [List.drop_zero, List.filter_eq_self]
        intro y hy
        rcases List.mem_cons.1 hy with rfl | hy
        · exact decide_eq_true hx
        · exact decide_eq_true (by have := h1 y hy; omega)
      · have := asc_le h (Nat.zero_le i) hi
        have e : ((x :: I).getD 0 (0, 0)) = x := rfl
        rw [e] at this; omega
    · obtain ⟨l, a1, a2, a3, a4⟩ := ih h2
      refine ⟨l + 1, by rw [List.length_cons]; omega, ?_, fun i hi => ?_, fun i hi hj => ?_⟩
      · rw [List.filter_cons, if_neg (by simp; omega), a2]; rfl
      · cases i with
        | zero => show x.1 ≤ f; omega
        | succ i => exact a3 i (by omega)
      · cases i with
        | zero => omega
        | succ i => exact a4 i (by omega) (by rw [List.length_cons] at hj; omega)
end Go.Proofs.Ytchikndofpkjmaa

namespace Go.Proofs.Ytchikndofpkjmaa

/-- The answer: from, to. -/
def askP (g now w : Int) (I : List It) : List Nat → Int × Int
  | [] => (0, 0)
  | a :: R => if now - w < (I.getD a (0, 0)).1 then (agP g I a, agP g I a) else match R with
    | [] => (0, 0)
    | b :: _ => if b = a + 1 then (agP g I b, agP g I b) else (agP g I b, agP g I a)
/-- The aggregate of the live items lies between the bounds, which are narrow. -/
theorem Sv.truth {g w k c now : Int} {P : List Nat} {I : List It} (h : Sv g w k c now P I) : (askP g now w I P).1 ≤ agZ g ((I.filter (fun x => decide (now - w < x.1))).map (fun x => x.2)) ∧ agZ g ((I.filter (fun x => decide (now - w < x.1))).map (fun x => x.2)) ≤ (askP g now w I P).2 ∧ k * ((askP g now w I P).2 - (askP g now w I P).1) ≤ (askP g now w I P).1 ∧ 0 ≤ (askP g now w I P).1 := by
  obtain ⟨l, a1, a2, a3, a4⟩ := live_from (now - w) h.asc
  rw [a2]
  show (askP g now w I P).1 ≤ agP g I l ∧ agP g I l ≤ (askP g now w I P).2 ∧ _ ∧ _
  have hn := agP_nn h.g1 h.vals
  cases P with
  | nil =>
    have hl : l = I.length := by
      rcases Nat.eq_or_lt_of_le a1 with e | e
      · exact e
      · have := a4 l (Nat.le_refl _) e; have := h.none_ rfl l e; omega
    have e0 : agP g I l = 0 := by
      rw [hl]
      unfold agP vlF
      rw [List.drop_length]
      have := h.g1
      have : g = 1 ∨ g = 2 ∨ g = 3 ∨ g = 4 := by omega
      rcases this with rfl | rfl | rfl | rfl <;> rfl
    rw [e0]
    exact ⟨Int.le_refl _, Int.le_refl _, by simp [askP], Int.le_refl _⟩
  | cons a R =>
    have ha := h.lt a List.mem_cons_self
    simp only [askP]
    by_cases hx : now - w < (I.getD a (0, 0)).1
    · rw [if_pos hx]
      have hl : l = a := by
        rcases Nat.lt_trichotomy l a with e | e | e
        · have := h.old a rfl l e; have := a4 l (Nat.le_refl _) (by omega); omega
        · exact e
        · have := a3 a e; omega
      rw [hl]
      exact ⟨Int.le_refl _, Int.le_refl _, by rw [Int.sub_self, Int.mul_zero]; exact hn a, hn a⟩
    · rw [if_neg hx]
      cases R with
      | nil => exact absurd (h.one a rfl) hx
      | cons b R =>
        have hb := h.live b (by simp)
        have hbl := h.lt b (by simp)
        have hla : a < l := by
          rcases Nat.lt_or_ge a l with e | e
          · exact e
          · have := a4 a e ha; omega
        have hlb : l ≤ b := by
          rcases Nat.lt_or_ge b l with e | e
          · have := a3 b e; omega
          · exact e
        simp only
        by_cases hs : b = a + 1
        · rw [if_pos hs]
          have hl : l = b := by omega
          rw [hl]
          exact ⟨Int.le_refl _, Int.le_refl _, by rw [Int.sub_self, Int.mul_zero]; exact hn b, hn b⟩
        · rw [if_neg hs]
          have h6 := h.c6.1
          refine ⟨agP_mono h.g1 h.vals hlb, agP_mono h.g1 h.vals (by omega), ?_, hn b⟩
          rcases h6 with e | e
          · exact absurd e hs
          · rw [Int.add_mul, Int.one_mul] at e; simp only; rw [Int.mul_sub]; omega
theorem bern (k : Nat) : ∀ j : Nat, (k + j) * k ^ j ≤ k * (k + 1) ^ j := by
  intro j
  induction j with
  | zero => simp
  | succ j ih =>
    have h1 : (k + 1) * ((k + j) * k ^ j) ≤ (k + 1) * (k * (k + 1) ^ j) := Nat.mul_le_mul_left _ ih
    have e1 : k * (k + 1) ^ (j + 1) = (k + 1) * (k * (k + 1) ^ j) := by rw [Nat.pow_succ]; ac_rfl
    have e2 : (k + (j + 1)) * k ^ (j + 1) = ((k + (j + 1)) * k) * k ^ j := by rw [Nat.pow_succ]; ac_rfl
    have e3 : (k + 1) * ((k + j) * k ^ j) = ((k + 1) * (k + j)) * k ^ j := by ac_rfl
    rw [e1, e2]
    refine Nat.le_trans (Nat.mul_le_mul_right _ ?_) (e3 ▸ h1)
    have g1 : (k + (j + 1)) * k = k * k + (j * k + k) := by rw [Nat.add_mul, Nat.add_mul, Nat.one_mul]
    have g2 : (k + 1) * (k + j) = k * k + j * k + (k + j) := by rw [Nat.add_mul, Nat.mul_add, Nat.one_mul, Nat.mul_comm k j]
    omega
theorem double_pow {k : Nat} (hk : 0 < k) : 2 * k ^ k ≤ (k + 1) ^ k := by
  have h := bern k k
  have e : (k + k) * k ^ k = k * (2 * k ^ k) := by rw [← Nat.two_mul]; ac_rfl
  rw [e] at h
  exact Nat.le_of_mul_le_mul_left h hk
theorem jump {α : Type} (f : α → Int) (k : Nat) : ∀ (j : Nat) (P : List α), ch3 (fun a b => ((k : Int) + 1) * f b < k * f a) P → ∀ a b, P.head? = some a → (P.drop (2 * j)).head? = some b → (((k + 1) ^ j : Nat) : Int) * f b ≤ ((k ^ j : Nat) : Int) * f a := by
  intro j
  induction j with
  | zero =>
    intro P _ a b ha hb
    rw [Nat.mul_zero, List.drop_zero, ha] at hb
    injection hb with e
    subst e
    simp
  | succ j ih =>
    intro P hc a b ha hb
    cases P with
    | nil => cases ha
    | cons x P =>
      injection ha with e
      subst e
      cases P with
      | nil => rw [show 2 * (j + 1) = (2 * j + 1) + 1 by omega, List.drop_succ_cons, List.drop_nil] at hb; cases hb
      | cons y P =>
        rw [show 2 * (j + 1) = (2 * j + 1) + 1 by omega, List.drop_succ_cons, List.drop_succ_cons] at hb
        cases P with
        | nil => rw [List.drop_nil] at hb; cases hb
        | cons z P =>
          have h1 := ih (z :: P) hc.2.tail z b rfl hb
          have h2 : ((k : Int) + 1) * f z < k * f x := hc.1
          have h3 : ((k : Int) + 1) * ((((k + 1) ^ j : Nat) : Int) * f b) ≤ ((k : Int) + 1) * (((k ^ j : Nat) : Int) * f z) := Int.mul_le_mul_of_nonneg_left h1 (by omega)
          have h4 : ((k ^ j : Nat) : Int) * (((k : Int) + 1) * f z) ≤ ((k ^ j : Nat) : Int) * (k * f x) := Int.mul_le_mul_of_nonneg_left (Int.le_of_lt h2) (Int.natCast_nonneg _)
          have e1 : (((k + 1) ^ (j + 1) : Nat) : Int) * f b = ((k : Int) + 1) * ((((k + 1) ^ j : Nat) : Int) * f b) := by
            rw [Nat.pow_succ, Int.natCast_mul, Int.natCast_add]; simp only [Int.natCast_one]; ac_rfl
          have e2 : ((k ^ (j + 1) : Nat) : Int) * f x = ((k ^ j : Nat) : Int) * (k * f x) := by
            rw [Nat.pow_succ, Int.natCast_mul]; ac_rfl
          have e3 : ((k : Int) + 1) * (((k ^ j : Nat) : Int) * f z) = ((k ^ j : Nat) : Int) * (((k : Int) + 1) * f z) := by ac_rfl
          rw [e1, e2]
          rw [e3] at h3
          exact Int.le_trans h3 h4
/-- The number of marks. -/
theorem few_ch3 {α : Type} (f : α → Int) {k : Nat} (hk : 0 < k) : ∀ (B : Nat) (P : List α), ch3 (fun a b => ((k : Int) + 1) * f b < k * f a) P → (∀ p ∈ P, 0 ≤ f p) → (∀ a, P.head? = some a → f a < ((2 ^ B : Nat) : Int)) → P.length ≤ 2 * k * B + 2 := by
  intro B
  induction B with
  | zero =>
    intro P hc hn hf
    cases P with
    | nil => exact Nat.zero_le _
    | cons a P =>
      cases P with
      | nil => simp
      | cons b P =>
        cases P with
        | nil => simp
        | cons c P =>
          have h1 : ((k : Int) + 1) * f c < k * f a := hc.1
          have h2 : f a < 1 := hf a rfl
          have h3 := hn a List.mem_cons_self
          have h4 := hn c (by simp)
          have e : f a = 0 := by omega
          rw [e, Int.mul_zero] at h1
          have := Int.mul_nonneg (show (0 : Int) ≤ (k : Int) + 1 by omega) h4
          omega
  | succ B ih =>
    intro P hc hn hf
    by_cases hl : P.length ≤ 2 * k
    · have : 2 * k * (B + 1) = 2 * k * B + 2 * k := by rw [Nat.mul_add, Nat.mul_one]
      omega
    · have h1 := ih (P.drop (2 * k)) (hc.drop _) (fun p hp => hn p (List.mem_of_mem_drop hp)) (fun b hb => by
        cases ha : P.head? with
        | none => rw [List.head?_eq_none_iff] at ha; subst ha; simp at hl
        | some a =>
          have h2 := jump f k k P hc a b ha hb
          have h3 := double_pow hk
          have hb0 : 0 ≤ f b := hn b (List.mem_of_mem_drop (List.mem_of_mem_head? hb))
          have h4 : ((2 * k ^ k : Nat) : Int) * f b ≤ (((k + 1) ^ k : Nat) : Int) * f b := Int.mul_le_mul_of_nonneg_right (by omega) hb0
          have h5 : ((k ^ k : Nat) : Int) * (2 * f b) ≤ ((k ^ k : Nat) : Int) * f a := by
            have e : ((2 * k ^ k : Nat) : Int) * f b = ((k ^ k : Nat) : Int) * (2 * f b) := by rw [Int.natCast_mul]; simp only [Int.cast_ofNat_Int]; ac_rfl
            rw [e] at h4
            exact Int.le_trans h4 h2
          have h6 : (0 : Int) < ((k ^ k : Nat) : Int) := by have := Nat.pow_pos (n := k) hk; omega
          have h7 : 2 * f b ≤ f a := Int.le_of_mul_le_mul_left h5 h6
          have h8 := hf a ha
          rw [Nat.pow_succ, Int.natCast_mul] at h8
          have : ((2 : Nat) : Int) = 2 := rfl
          rw [this] at h8
          omega)
      rw [List.length_drop] at h1
      have : 2 * k * (B + 1) = 2 * k * B + 2 * k := by rw [Nat.mul_add, Nat.mul_one]
      omega
end Go.Proofs.Ytchikndofpkjmaa

namespace Go.Proofs.Ytchikndofpkjmaa

theorem drL_congr {α : Type} {f h : α → Bool} : ∀ {R : List α}, (∀ x ∈ R, f x = h x) → drL f R = drL h R := by
  intro R
  induction R with
  | nil => intro _; rfl
  | cons a R ih =>
    intro e
    have ea := e a List.mem_cons_self
    have ih := ih (fun x hx => e x (List.mem_cons_of_mem _ hx))
    cases R with
    | nil => simp only [drL]; rw [ea]
    | cons b R =>
      have eb := e b (by simp)
      simp only [drL]
      rw [eb, ih]
theorem cutL_congr {α : Type} {f h : α → Bool} : ∀ {R : List α}, (∀ x ∈ R, f x = h x) → cutL f R = cutL h R := by
  intro R
  induction R with
  | nil => intro _; rfl
  | cons a R ih =>
    intro e
    have ih := ih (fun x hx => e x (List.mem_cons_of_mem _ hx))
    have ea : R.any f = R.any h := by
      rw [Bool.eq_iff_iff, List.any_eq_true, List.any_eq_true]
      constructor <;> rintro ⟨x, hx, hf⟩ <;> exact ⟨x, hx, by first | (rw [← e x (List.mem_cons_of_mem _ hx)]; exact hf) | (rw [e x (List.mem_cons_of_mem _ hx)]; exact hf)⟩
    simp only [cutL]
    rw [ea, ih]
theorem prL_congr {α : Type} {f h : α → α → Bool} {L : List α} (e : ∀ x ∈ L, ∀ y ∈ L, f x y = h x y) : ∀ (n : Nat) (R : List α), (∀ x ∈ R, x ∈ L) → prL f n R = prL h n R := by
  intro n
  induction n with
  | zero => intro R _; rfl
  | succ n ih =>
    intro R hR
    cases R with
    | nil => rfl
    | cons a R =>
      simp only [prL]
      have e1 : cutL (f a) R = cutL (h a) R := cutL_congr (fun x hx => e a (hR a List.mem_cons_self) x (hR x (List.mem_cons_of_mem _ hx)))
      rw [e1]
      obtain ⟨Q, e2⟩ := cutL_suffix (h a) R
      rw [ih (cutL (h a) R) (fun x hx => hR x (List.mem_cons_of_mem _ (by rw [e2]; exact List.mem_append_right _ hx)))]
section
variable {g w k c now : Int} {P : List Nat} {I : List It}
/-- The state that the items make is valid. -/
theorem Sv.st (h : Sv g w k c now P I) (hm : mayC w k c now = true) (hl : (I.length : Int) ≤ 1099511627776) : stM g w k c now I.length (P.map (mrkA I)) = true := by
  refine stM_yes (by unfold mayM agB; rw [hm, decide_eq_true h.g1]; rfl) (mrkB_yes (by omega) hl (fun j hj => h.ok (by rw [List.length_map] at hj; exact hj))) (decide_eq_true (fun j hj => ?_))
  rw [List.length_map] at hj
  exact ⟨fun h1 => h.farAt hj h1, fun h1 h2 => h.nearAt hj h1 h2⟩
theorem Sv.dr_map (h : Sv g w k c now P I) (hm : mayC w k c now = true) {td : Int} (h1 : now ≤ td) (h2 : td ≤ 16777216) : drM td w (P.map (mrkA I)) = (drL (fun p => decide (td - w < (I.getD p (0, 0)).1)) P).map (mrkA I) := by
  unfold drM
  rw [drL_map]
  congr 1
  obtain ⟨g1, g2, g3, g4⟩ := mayC_facts hm
  have ht : (tickB td && winB w) = true := by rw [tickB_yes (by omega) h2, winB_yes g2.1 g2.2]; rfl
  refine drL_congr (fun p hp => ?_)
  have hx := h.rg (I.getD p (0, 0)) (by
    have := h.lt p hp
    rw [List.getD_eq_getElem?_getD, List.getElem?_eq_getElem this]
    exact List.getElem_mem this)
  show liveB td w (I.getD p (0, 0)).1 = _
  rw [Bool.eq_iff_iff, live_iff ht hx.1, decide_eq_true_eq]
  constructor
  · exact fun h => h.1
  · exact fun h => ⟨h, by omega⟩
theorem Sv.in_map (h : Sv g w k c now P I) (v : Int) : inM ((I.length : Int) + 1) now v (P.map (mrkA I)) = (P ++ [I.length]).map (mrkA (I ++ [(now, v)])) := by
  unfold inM
  rw [List.map_append, List.map_map, List.map_singleton, mrkA_new]
  congr 1
  exact List.map_congr_left (fun p hp => (mrkA_push I now v (h.lt p hp)).symm)
theorem Sv.ad_map (h : Sv g w k c now P I) {v : Int} (hv : valG g v) : adM g k I.length now v (P.map (mrkA I)) = (prL (clP g k (I ++ [(now, v)])) (P.length + 1) (P ++ [I.length])).map (mrkA (I ++ [(now, v)])) := by
  unfold adM
  rw [h.in_map v, prL_map, List.length_map]
  congr 1
  have hvals : ∀ x ∈ I ++ [(now, v)], valG g x.2 := fun x hx => by
    rcases List.mem_append.1 hx with e | e
    · exact h.vals x e
    · simp only [List.mem_singleton] at e; subst e; exact hv
  have hlt : ∀ p ∈ P ++ [I.length], p < (I ++ [(now, v)]).length := fun p hp => by
    rw [List.length_append, List.length_singleton]
    rcases List.mem_append.1 hp with e | e
    · have := h.lt p e; omega
    · simp only [List.mem_singleton] at e; omega
  refine prL_congr (L := P ++ [I.length]) (fun x hx y hy => ?_) _ _ (fun x hx => hx)
  unfold clM clP
  rw [ofZ_mrkA h.g1 hvals (hlt x hx), ofZ_mrkA h.g1 hvals (hlt y hy)]
theorem Sv.fu_no (h : Sv g w k c now P I) (hf : fuM c I.length (P.map (mrkA I)) = false) : (∀ p, P.head? = some p → (I.length : Int) - p < c) ∧ (I.length : Int) < 1099511627776 ∨ 1099511627776 < (I.length : Int) := by
  unfold fuM at hf
  rw [Bool.or_eq_false_iff, decide_eq_false_iff_not] at hf
  rcases Int.lt_trichotomy (I.length : Int) 1099511627776 with e | e | e
  · refine Or.inl ⟨fun p hp => ?_, e⟩
    have h1 := h.cap p hp
    cases P with
    | nil => cases hp
    | cons a R =>
      have ea : a = p := by simpa using hp
      subst ea
      have h2 := hf.1
      have h3 : (((a :: R).map (mrkA I)).getD 0 mk0).n = (I.length : Int) - a := by
        show ((vlF I a).length : Int) = _
        have := h.lt a List.mem_cons_self
        rw [vlF_len]; omega
      rw [h3] at h2
      have h4 : decide (0 < ((a :: R).map (mrkA I)).length) = true := decide_eq_true (by simp)
      rw [h4, Bool.true_and, decide_eq_false_iff_not] at h2
      omega
  · exact absurd e hf.2
  · exact Or.inr e
end
end Go.Proofs.Ytchikndofpkjmaa

namespace Go.Proofs.Ytchikndofpkjmaa

section
variable {g w k c now : Int} {P : List Nat} {I : List It}
theorem Sv.as_map (h : Sv g w k c now P I) (hm : mayC w k c now = true) : asM g now w (P.map (mrkA I)) = askP g now w I P := by
  obtain ⟨g1, g2, g3, g4⟩ := mayC_facts hm
  have hlv : ∀ p ∈ P, (liveB now w (mrkA I p).t = true ↔ now - w < (I.getD p (0, 0)).1) := fun p hp => by
    have hx := h.rg (I.getD p (0, 0)) (by
      have := h.lt p hp
      rw [List.getD_eq_getElem?_getD, List.getElem?_eq_getElem this]
      exact List.getElem_mem this)
    show liveB now w (I.getD p (0, 0)).1 = true ↔ _
    rw [live_iff g4 hx.1]
    constructor
    · exact fun h => h.1
    · exact fun h => ⟨h, hx.2⟩
  have hof : ∀ p ∈ P, ofZ g (mrkA I p) = agP g I p := fun p hp => ofZ_mrkA h.g1 h.vals (h.lt p hp)
  cases P with
  | nil => rfl
  | cons a R =>
    have l1 := hlv a List.mem_cons_self
    have o1 := hof a List.mem_cons_self
    simp only [List.map_cons, asM, askP]
    rw [o1]
    by_cases hx : now - w < (I.getD a (0, 0)).1
    · rw [if_pos hx, if_pos (l1.2 hx)]
    · rw [if_neg hx, if_neg (fun e => hx (l1.1 e))]
      cases R with
      | nil => rfl
      | cons b R =>
        have o2 := hof b (by simp)
        simp only [List.map_cons]
        rw [o2]
        by_cases hs : b = a + 1
        · rw [if_pos hs, if_pos (show (mrkA I b).sq = (mrkA I a).sq + 1 by show (b : Int) + 1 = (a : Int) + 1 + 1; omega)]
        · rw [if_neg hs, if_neg (show ¬ (mrkA I b).sq = (mrkA I a).sq + 1 by show ¬ (b : Int) + 1 = (a : Int) + 1 + 1; omega)]
end
end Go.Proofs.Ytchikndofpkjmaa

namespace Go.Proofs.Ytchikndofpkjmaa
open Go.RowKit

/-- The items in the window, by the verifier's own function. -/
def mlL (L : List It) (now v : Int) : List It := L.filter (fun x => decide (now - v < x.1) && decide (x.1 ≤ now))
theorem mlL_take {L : List It} {i : Nat} (hi : i < L.length) (now v : Int) : mlL (L.take (i + 1)) now v = mlL (L.take i) now v ++ (if (decide (now - v < (L.getD i (0, 0)).1) && decide ((L.getD i (0, 0)).1 ≤ now)) = true then [L.getD i (0, 0)] else []) := by
  unfold mlL; rw [take_next hi, List.filter_append]
  by_cases h : (decide (now - v < (L.getD i (0, 0)).1) && decide ((L.getD i (0, 0)).1 ≤ now)) = true
  · rw [if_pos h, List.filter_cons, if_pos h]; rfl
  · rw [if_neg h, List.filter_cons, if_neg h]; rfl

end Go.Proofs.Ytchikndofpkjmaa
