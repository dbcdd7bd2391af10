/- Texts of these claims, one after the other. -/
import Derived.Test.YtafkoddgefcpnaaRows
import Derived.Test.YtafkoddgefcpnaaZFMadeq281
import Derived.Test.YtafkoddgefcpnaaZIAppq119
namespace Go.Proofs.Ytafkoddgefcpnaa

theorem drL_congr {α : Type} {f h : α → Bool} : ∀ {R : List α}, (∀ x ∈ R, f x = h x) → drL f R = drL h R := by
  intro R
  induction R with
  | nil => intro _; rfl
  | cons a R ih =>
    intro e
    have ea := e a List.mem_cons_self
    have ih := ih (fun x hx => e x (List.mem_cons_of_mem _ hx))
    cases R with
    | nil => simp only [drL]; rw [ea]
    | cons b R =>
      have eb := e b (by simp)
      simp only [drL]
      rw [eb, ih]
theorem cutL_congr {α : Type} {f h : α → Bool} : ∀ {R : List α}, (∀ x ∈ R, f x = h x) → cutL f R = cutL h R := by
  intro R
  induction R with
  | nil => intro _; rfl
  | cons a R ih =>
    intro e
    have ih := ih (fun x hx => e x (List.mem_cons_of_mem _ hx))
    have ea : R.any f = R.any h := by
      rw [Bool.eq_iff_iff, List.any_eq_true, List.any_eq_true]
      constructor <;> rintro ⟨x, hx, hf⟩ <;> exact ⟨x, hx, by first | (rw [← e x (List.mem_cons_of_mem _ hx)]; exact hf) | (rw [e x (List.mem_cons_of_mem _ hx)]; exact hf)⟩
    simp only [cutL]
    rw [ea, ih]
theorem prL_congr {α : Type} {f h : α → α → Bool} {L : List α} (e : ∀ x ∈ L, ∀ y ∈ L, f x y = h x y) : ∀ (n : Nat) (R : List α), (∀ x ∈ R, x ∈ L) → prL f n R = prL h n R := by
  intro n
  induction n with
  | zero => intro R _; rfl
  | succ n ih =>
    intro R hR
    cases R with
    | nil => rfl
    | cons a R =>
      simp only [prL]
      have e1 : cutL (f a) R = cutL (h a) R := cutL_congr (fun x hx => e a (hR a List.mem_cons_self) x (hR x (List.mem_cons_of_mem _ hx)))
      rw [e1]
      obtain ⟨Q, e2⟩ := cutL_suffix (h a) R
      rw [ih (cutL (h a) R) (fun x hx => hR x (List.mem_cons_of_mem _ (by rw [e2]; exact List.mem_append_right _ hx)))]
section
variable {g w k c now : Int} {P : List Nat} {I : List It}
/-- The state that the items make is valid. -/
theorem Sv.st (h : Sv g w k c now P I) (hm : mayC w k c now = true) (hl : (I.length : Int) ≤ 1099511627776) : stM g w k c now I.length (P.map (mrkA I)) = true := by
  refine stM_yes (by unfold mayM agB; rw [hm, decide_eq_true h.g1]; rfl) (mrkB_yes (by omega) hl (fun j hj => h.ok (by rw [List.length_map] at hj; exact hj))) (decide_eq_true (fun j hj => ?_))
  rw [List.length_map] at hj
  exact ⟨fun h1 => h.farAt hj h1, fun h1 h2 => h.nearAt hj h1 h2⟩
theorem Sv.dr_map (h : Sv g w k c now P I) (hm : mayC w k c now = true) {td : Int} (h1 : now ≤ td) (h2 : td ≤ 16777216) : drM td w (P.map (mrkA I)) = (drL (fun p => decide (td - w < (I.getD p (0, 0)).1)) P).map (mrkA I) := by
  unfold drM
  rw [drL_map]
  congr 1
  obtain ⟨g1, g2, g3, g4⟩ := mayC_facts hm
  have ht : (tickB td && winB w) = true := by rw [tickB_yes (by omega) h2, winB_yes g2.1 g2.2]; rfl
  refine drL_congr (fun p hp => ?_)
  have hx := h.rg (I.getD p (0, 0)) (by
    have := h.lt p hp
    rw [List.getD_eq_getElem?_getD, List.getElem?_eq_getElem this]
    exact List.getElem_mem this)
  show liveB td w (I.getD p (0, 0)).1 = _
  rw [Bool.eq_iff_iff, live_iff ht hx.1, decide_eq_true_eq]
  constructor
  · exact fun h => h.1
  · exact fun h => ⟨h, by omega⟩
theorem Sv.in_map (h : Sv g w k c now P I) (v : Int) : inM ((I.length : Int) + 1) now v (P.map (mrkA I)) = (P ++ [I.length]).map (mrkA (I ++ [(now, v)])) := by
  unfold inM
  rw [List.map_append, List.map_map, List.map_singleton, mrkA_new]
  congr 1
  exact List.map_congr_left (fun p hp => (mrkA_push I now v (h.lt p hp)).symm)
theorem Sv.ad_map (h : Sv g w k c now P I) {v : Int} (hv : valG g v) : adM g k I.length now v (P.map (mrkA I)) = (prL (clP g k (I ++ [(now, v)])) (P.length + 1) (P ++ [I.length])).map (mrkA (I ++ [(now, v)])) := by
  unfold adM
  rw [h.in_map v, prL_map, List.length_map]
  congr 1
  have hvals : ∀ x ∈ I ++ [(now, v)], valG g x.2 := fun x hx => by
    rcases List.mem_append.1 hx with e | e
    · exact h.vals x e
    · simp only [List.mem_singleton] at e; subst e; exact hv
  have hlt : ∀ p ∈ P ++ [I.length], p < (I ++ [(now, v)]).length := fun p hp => by
    rw [List.length_append, List.length_singleton]
    rcases List.mem_append.1 hp with e | e
    · have := h.lt p e; omega
    · simp only [List.mem_singleton] at e; omega
  refine prL_congr (L := P ++ [I.length]) (fun x hx y hy => ?_) _ _ (fun x hx => hx)
  unfold clM clP
  rw [ofZ_mrkA h.g1 hvals (hlt x hx), ofZ_mrkA h.g1 hvals (hlt y hy)]
theorem Sv.fu_no (h : Sv g w k c now P I) (hf : fuM c I.length (P.map (mrkA I)) = false) : (∀ p, P.head? = some p → (I.length : Int) - p < c) ∧ (I.length : Int) < 1099511627776 ∨ 1099511627776 < (I.length : Int) := by
  unfold fuM at hf
  rw [Bool.or_eq_false_iff, decide_eq_false_iff_not] at hf
  rcases Int.lt_trichotomy (I.length : Int) 1099511627776 with e | e | e
  · refine Or.inl ⟨fun p hp => ?_, e⟩
    have h1 := h.cap p hp
    cases P with
    | nil => cases hp
    | cons a R =>
      have ea : a = p := by simpa using hp
      subst ea
      have h2 := hf.1
      have h3 : (((a :: R).map (mrkA I)).getD 0 mk0).n = (I.length : Int) - a := by
        show ((vlF I a).length : Int) = _
        have := h.lt a List.mem_cons_self
        rw [vlF_len]; omega
      rw [h3] at h2
      have h4 : decide (0 < ((a :: R).map (mrkA I)).length) = true := decide_eq_true (by simp)
      rw [h4, Bool.true_and, decide_eq_false_iff_not] at h2
      omega
  · exact absurd e hf.2
  · exact Or.inr e
end
end Go.Proofs.Ytafkoddgefcpnaa

namespace Go.Proofs.Ytafkoddgefcpnaa

theorem asc_len {n : Nat} : ∀ {P : List Nat} (lo : Nat), P.Pairwise (fun a b => a < b) → (∀ p ∈ P, lo ≤ p ∧ p < n) → lo + P.length ≤ n ∨ P = [] := by
  intro P
  induction P with
  | nil => intro lo _ _; exact Or.inr rfl
  | cons a R ih =>
    intro lo h1 h2
    have ha := h2 a List.mem_cons_self
    rw [List.pairwise_cons] at h1
    refine Or.inl ?_
    rcases ih (a + 1) h1.2 (fun p hp => ⟨h1.1 p hp, (h2 p (List.mem_cons_of_mem _ hp)).2⟩) with h | h
    · rw [List.length_cons]; omega
    · subst h; simp only [List.length_cons, List.length_nil]; omega
theorem SnM.len {nr : List It → Nat → Nat → Prop} {cl : List It → Nat → Nat → Bool} {g w c now : Int} {P : List Nat} {I : List It} (h : SnM nr cl g w c now P I) : P.length ≤ I.length := by
  rcases asc_len 0 h.up (fun p hp => ⟨Nat.zero_le _, h.lt p hp⟩) with e | e
  · omega
  · subst e; exact Nat.zero_le _
end Go.Proofs.Ytafkoddgefcpnaa
