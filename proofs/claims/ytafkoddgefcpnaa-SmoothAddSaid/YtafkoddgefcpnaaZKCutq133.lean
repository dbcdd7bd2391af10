/- Texts of these claims, one after the other. -/
import Derived.Test.YtafkoddgefcpnaaRows
import Derived.Test.YtafkoddgefcpnaaZGBaseq33
namespace Go.Proofs.Ytafkoddgefcpnaa

theorem chn.imp {α : Type} {r s : α → α → Prop} : ∀ {R : List α}, (∀ a ∈ R, ∀ b ∈ R, r a b → s a b) → chn r R → chn s R := by
  intro R
  induction R with
  | nil => intro _ _; trivial
  | cons a R ih =>
    intro h hc
    cases R with
    | nil => trivial
    | cons b R => exact ⟨h a List.mem_cons_self b (by simp) hc.1, ih (fun x hx y hy => h x (List.mem_cons_of_mem _ hx) y (List.mem_cons_of_mem _ hy)) hc.2⟩
theorem ch3.imp {α : Type} {r s : α → α → Prop} : ∀ {R : List α}, (∀ a ∈ R, ∀ b ∈ R, r a b → s a b) → ch3 r R → ch3 s R := by
  intro R
  induction R with
  | nil => intro _ _; trivial
  | cons a R ih =>
    intro h hc
    cases R with
    | nil => trivial
    | cons b R =>
      cases R with
      | nil => trivial
      | cons c R => exact ⟨h a List.mem_cons_self c (by simp) hc.1, ih (fun x hx y hy => h x (List.mem_cons_of_mem _ hx) y (List.mem_cons_of_mem _ hy)) hc.2⟩
theorem chn.push {α : Type} {r : α → α → Prop} {z : α} : ∀ {R : List α}, chn r R → (∀ a, R.getLast? = some a → r a z) → chn r (R ++ [z]) := by
  intro R
  induction R with
  | nil => intro _ _; trivial
  | cons a R ih =>
    intro h hl
    cases R with
    | nil => exact ⟨hl a rfl, trivial⟩
    | cons b R => exact ⟨h.1, ih h.2 (fun x hx => hl x (by rw [List.getLast?_cons_cons]; exact hx))⟩
theorem cutL_ne {α : Type} (f : α → Bool) : ∀ {R : List α}, R ≠ [] → cutL f R ≠ [] := by
  intro R
  induction R with
  | nil => intro h; exact absurd rfl h
  | cons x R ih =>
    intro _
    simp only [cutL]
    split
    next h => exact ih (by rintro rfl; simp at h)
    next h => simp
/-- What is left: an element that is close or the first one, and none that is close behind it. -/
theorem cutL_head {α : Type} (f : α → Bool) : ∀ {R : List α} {x : α} {T : List α}, cutL f R = x :: T → (∀ y ∈ T, f y = false) ∧ (R = x :: T ∨ f x = true) := by
  intro R
  induction R with
  | nil => intro x T h; cases h
  | cons y R ih =>
    intro x T h
    simp only [cutL] at h
    split at h
    next hp =>
      obtain ⟨h1, h2⟩ := ih h
      refine ⟨h1, Or.inr ?_⟩
      rcases h2 with e | e
      · rw [e, List.any_cons, Bool.or_eq_true] at hp
        rcases hp with g | g
        · exact g
        · obtain ⟨z, hz, hf⟩ := List.any_eq_true.1 g
          rw [h1 z hz] at hf; cases hf
      · exact e
    next hp =>
      injection h with e1 e2
      subst e1 e2
      refine ⟨fun z hz => ?_, Or.inl rfl⟩
      cases hf : f z with
      | false => rfl
      | true => exact absurd (List.any_eq_true.2 ⟨z, hz, hf⟩) hp
theorem prL_sub {α : Type} (cl : α → α → Bool) : ∀ (n : Nat) (R : List α), (prL cl n R).Sublist R := by
  intro n
  induction n with
  | zero => intro R; exact List.Sublist.refl _
  | succ n ih =>
    intro R
    cases R with
    | nil => exact List.Sublist.refl _
    | cons a R =>
      obtain ⟨Q, e⟩ := cutL_suffix (cl a) R
      have h := ih (cutL (cl a) R)
      refine List.Sublist.cons_cons a (h.trans ?_)
      have := List.sublist_append_right Q (cutL (cl a) R)
      rwa [← e] at this
theorem prL_last {α : Type} (cl : α → α → Bool) : ∀ (n : Nat) (R : List α), (prL cl n R).getLast? = R.getLast? := by
  intro n
  induction n with
  | zero => intro R; rfl
  | succ n ih =>
    intro R
    cases R with
    | nil => rfl
    | cons a R =>
      simp only [prL]
      cases R with
      | nil => simp [cutL, prL_nil]
      | cons b R =>
        obtain ⟨Q, e⟩ := cutL_suffix (cl a) (b :: R)
        have hne := cutL_ne (cl a) (R := b :: R) (by simp)
        have h := ih (cutL (cl a) (b :: R))
        generalize cutL (cl a) (b :: R) = C at *
        rw [List.getLast?_cons, h, e]
        cases C with
        | nil => exact absurd rfl hne
        | cons c C => simp [List.getLast?_append, List.getLast?_cons]
theorem prL_head {α : Type} (cl : α → α → Bool) (n : Nat) (a : α) (R : List α) : ∃ T, prL cl n (a :: R) = a :: T ∧ (∀ x ∈ T, x ∈ R) := by
  cases n with
  | zero => exact ⟨R, rfl, fun x hx => hx⟩
  | succ n =>
    refine ⟨_, rfl, fun x hx => ?_⟩
    obtain ⟨Q, e⟩ := cutL_suffix (cl a) R
    rw [e]
    exact List.mem_append_right _ ((prL_sub cl n _).subset hx)
/-- Neighbours were neighbours, or are close. -/
theorem prL_chn {α : Type} (cl : α → α → Bool) (r : α → α → Prop) (L : List α) (hcl : ∀ a b, a ∈ L → b ∈ L → cl a b = true → r a b) : ∀ (n : Nat) (R : List α), (∀ x ∈ R, x ∈ L) → chn r R → chn r (prL cl n R) := by
  intro n
  induction n with
  | zero => intro R _ h; exact h
  | succ n ih =>
    intro R hm h
    cases R with
    | nil => trivial
    | cons a R =>
      simp only [prL]
      cases hC : cutL (cl a) R with
      | nil => rw [prL_nil]; trivial
      | cons x T =>
        obtain ⟨h1, h2⟩ := cutL_head (cl a) hC
        obtain ⟨Q, e⟩ := cutL_suffix (cl a) R
        rw [hC] at e
        have hm2 : ∀ y ∈ x :: T, y ∈ L := fun y hy => hm y (List.mem_cons_of_mem _ (by rw [e]; exact List.mem_append_right _ hy))
        have hx : r a x := by
          rcases h2 with e2 | e2
          · rw [e2] at h; exact h.1
          · exact hcl a x (hm a List.mem_cons_self) (hm2 x List.mem_cons_self) e2
        have hT : chn r (x :: T) := by
          have h3 := h.tail
          rw [e] at h3
          clear e hC h h2 hx h1 hm hm2
          induction Q with
          | nil => exact h3
          | cons q Q ihQ => exact ihQ h3.tail
        have h4 := ih _ hm2 hT
        obtain ⟨T2, e2, _⟩ := prL_head cl n x T
        rw [e2] at h4 ⊢
        exact ⟨hx, h4⟩
/-- No element is close to its second successor. -/
theorem prL_ch3 {α : Type} (cl : α → α → Bool) : ∀ (n : Nat) (R : List α), R.length ≤ n → ch3 (fun a c => cl a c = false) (prL cl n R) := by
  intro n
  induction n with
  | zero => intro R h; rw [List.length_eq_zero_iff.1 (by omega : R.length = 0)]; trivial
  | succ n ih =>
    intro R h
    cases R with
    | nil => trivial
    | cons a R =>
      simp only [prL]
      rw [List.length_cons] at h
      have hl := cutL_len (cl a) R
      have h4 := ih (cutL (cl a) R) (by omega)
      cases hC : cutL (cl a) R with
      | nil => rw [prL_nil]; trivial
      | cons x T =>
        rw [hC] at h4
        obtain ⟨h1, _⟩ := cutL_head (cl a) hC
        obtain ⟨T2, e2, h5⟩ := prL_head cl n x T
        rw [e2] at h4 ⊢
        cases T2 with
        | nil => trivial
        | cons c T2 => exact ⟨h1 c (h5 c List.mem_cons_self), h4⟩
end Go.Proofs.Ytafkoddgefcpnaa

namespace Go.Proofs.Ytafkoddgefcpnaa

/-- Marks whose successor is not live go; then a single one that is not live. -/
def drL {α : Type} (lv : α → Bool) : List α → List α
  | [] => []
  | [a] => if lv a then [a] else []
  | a :: b :: R => if lv b then a :: b :: R else drL lv (b :: R)
end Go.Proofs.Ytafkoddgefcpnaa

namespace Go.Proofs.Ytafkoddgefcpnaa

def agP (g : Int) (I : List It) (p : Nat) : Int := agZ g (vlF I p)
theorem vlF_push (I : List It) (t v : Int) {p : Nat} (h : p ≤ I.length) : vlF (I ++ [(t, v)]) p = vlF I p ++ [v] := by
  unfold vlF
  rw [List.drop_append_of_le_length h, List.map_append]
  rfl
theorem agP_mono {g : Int} {I : List It} (hg : 1 ≤ g ∧ g ≤ 4) (h : ∀ x ∈ I, valG g x.2) {p q : Nat} (hpq : p ≤ q) : agP g I q ≤ agP g I p := by
  unfold agP
  have h2 := vlF_val h p
  rw [vlF_split I hpq] at h2 ⊢
  exact ag_mono hg h2
theorem agP_nn {g : Int} {I : List It} (hg : 1 ≤ g ∧ g ≤ 4) (h : ∀ x ∈ I, valG g x.2) (p : Nat) : 0 ≤ agP g I p := ag_nn hg (vlF_val h p)
/-- What is close stays close. -/
theorem agP_close {g k t v : Int} {I : List It} (hg : 1 ≤ g ∧ g ≤ 4) (hk : 1 ≤ k) (h : ∀ x ∈ I, valG g x.2) (hv : valG g v) {p q : Nat} (hp : p < I.length) (hq : q < I.length) (hc : k * agP g I p ≤ (k + 1) * agP g I q) : k * agP g (I ++ [(t, v)]) p ≤ (k + 1) * agP g (I ++ [(t, v)]) q := by
  have h' : ∀ x ∈ I ++ [(t, v)], valG g x.2 := by
    intro x hx
    rcases List.mem_append.1 hx with hx | hx
    · exact h x hx
    · simp only [List.mem_singleton] at hx; subst hx; exact hv
  rcases Nat.le_total p q with hpq | hpq
  · unfold agP at hc ⊢
    rw [vlF_push I t v (by omega), vlF_push I t v (by omega)]
    have h2 := vlF_val h p
    rw [vlF_split I hpq] at hc h2 ⊢
    exact ag_close hg hk (vlF_ne hq) h2 hv hc
  · have h1 := agP_mono hg h' hpq
    have h2 := agP_nn hg h' q
    have h3 : k * agP g (I ++ [(t, v)]) p ≤ k * agP g (I ++ [(t, v)]) q := Int.mul_le_mul_of_nonneg_left h1 (by omega)
    rw [Int.add_mul, Int.one_mul]; omega
end Go.Proofs.Ytafkoddgefcpnaa

namespace Go.Proofs.Ytafkoddgefcpnaa

theorem SnM.add {nr : List It → Nat → Nat → Prop} {cl : List It → Nat → Nat → Bool} {g w c now v : Int} {P : List Nat} {I : List It} {n : Nat} (h : SnM nr cl g w c now P I) (h0 : 0 ≤ now) (hv : valG g v) (hc : ∀ p, P.head? = some p → (I.length : Int) - p < c) (hn : P.length + 1 ≤ n)
    (ncl : ∀ a b, a ∈ P ++ [I.length] → b ∈ P ++ [I.length] → cl (I ++ [(now, v)]) a b = true → nr (I ++ [(now, v)]) a b) (nadj : ∀ a, nr (I ++ [(now, v)]) a (a + 1)) (nst : ∀ a b, a ∈ P → b ∈ P → nr I a b → nr (I ++ [(now, v)]) a b) :
    SnM nr cl g w c now (prL (cl (I ++ [(now, v)])) n (P ++ [I.length])) (I ++ [(now, v)]) := by
  have hI : ∀ {i : Nat}, i < I.length → (I ++ [(now, v)]).getD i (0, 0) = I.getD i (0, 0) := fun hi => by
    rw [List.getD_eq_getElem?_getD, List.getD_eq_getElem?_getD, List.getElem?_append_left hi]
  have hnew : (I ++ [(now, v)]).getD I.length (0, 0) = (now, v) := by
    rw [List.getD_eq_getElem?_getD, List.getElem?_append_right (Nat.le_refl _)]; simp
  have hlen : (I ++ [(now, v)]).length = I.length + 1 := by rw [List.length_append, List.length_singleton]
  have hv' : ∀ x ∈ I ++ [(now, v)], valG g x.2 := by
    intro x hx
    rcases List.mem_append.1 hx with hx | hx
    · exact h.vals x hx
    · simp only [List.mem_singleton] at hx; subst hx; exact hv
  have hup : (P ++ [I.length]).Pairwise (fun a b => a < b) := by
    rw [List.pairwise_append]
    refine ⟨h.up, List.pairwise_singleton _ _, fun a ha b hb => ?_⟩
    simp only [List.mem_singleton] at hb
    subst hb
    exact h.lt a ha
  have hlt : ∀ p ∈ P ++ [I.length], p < I.length + 1 := by
    intro p hp
    rcases List.mem_append.1 hp with hp | hp
    · have := h.lt p hp; omega
    · simp only [List.mem_singleton] at hp; omega
  have hsub := prL_sub (cl (I ++ [(now, v)])) n (P ++ [I.length])
  have hlast := prL_last (cl (I ++ [(now, v)])) n (P ++ [I.length])
  have hl2 : (P ++ [I.length]).getLast? = some I.length := by rw [List.getLast?_append]; rfl
  rw [hl2] at hlast
  have h6 := prL_chn (cl (I ++ [(now, v)])) (nr (I ++ [(now, v)])) (P ++ [I.length]) ncl n (P ++ [I.length]) (fun x hx => hx) (by
    refine chn.push (chn.imp (fun a ha b hb hab => nst a b ha hb hab) h.c6) (fun a ha => ?_)
    rw [← h.last a ha]
    exact nadj a)
  have h5' := prL_ch3 (cl (I ++ [(now, v)])) n (P ++ [I.length]) (by rw [List.length_append, List.length_singleton]; exact hn)
  -- the first one stays
  have hhead : ∃ p T, prL (cl (I ++ [(now, v)])) n (P ++ [I.length]) = p :: T ∧ (P ++ [I.length]).head? = some p ∧ (∀ x ∈ T, x ∈ (P ++ [I.length]).tail) := by
    cases P with
    | nil =>
      obtain ⟨T, e, hT⟩ := prL_head (cl (I ++ [(now, v)])) n I.length []
      exact ⟨_, T, e, rfl, hT⟩
    | cons a R =>
      obtain ⟨T, e, hT⟩ := prL_head (cl (I ++ [(now, v)])) n a (R ++ [I.length])
      exact ⟨a, T, e, rfl, hT⟩
  obtain ⟨p, T, eD, hp, hT⟩ := hhead
  have hw := h.w1
  have hlive : ∀ x ∈ (P ++ [I.length]).tail, now - w < ((I ++ [(now, v)]).getD x (0, 0)).1 := by
    intro x hx
    cases P with
    | nil => cases hx
    | cons a R =>
      rcases List.mem_append.1 hx with g1 | g1
      · rw [hI (h.lt x (List.mem_cons_of_mem _ g1))]; exact h.live x g1
      · simp only [List.mem_singleton] at g1; subst g1; rw [hnew]; show now - w < now; omega
  generalize prL (cl (I ++ [(now, v)])) n (P ++ [I.length]) = D at *
  subst eD
  refine ⟨h.g1, h.w1, h.c1, hup.sublist hsub, fun q hq => by rw [hlen]; exact hlt q (hsub.subset hq), fun q hq => ?_, fun e => (by cases e), fun q hq i hi => ?_, fun q hq => hlive q (hT q hq), fun q hq => ?_, h6, h5', ?_, ?_, hv', fun q hq => ?_⟩
  · rw [hlast] at hq; injection hq with e; omega
  · injection hq with e
    subst e
    cases P with
    | nil =>
      injection hp with e
      subst e
      rw [hI hi]
      exact h.none_ rfl i hi
    | cons a R =>
      injection hp with e
      subst e
      rw [hI (by have := h.lt a List.mem_cons_self; omega)]
      exact h.old a rfl i hi
  · injection hq with e1 e2
    subst e1 e2
    injection hlast with e
    subst e
    rw [hnew]; show now - w < now; omega
  · rw [List.pairwise_append]
    refine ⟨h.asc, List.pairwise_singleton _ _, fun a ha b hb => ?_⟩
    simp only [List.mem_singleton] at hb
    subst hb
    exact (h.rg a ha).2
  · intro x hx
    rcases List.mem_append.1 hx with hx | hx
    · exact h.rg x hx
    · simp only [List.mem_singleton] at hx; subst hx; exact ⟨h0, Int.le_refl _⟩
  · injection hq with e
    subst e
    rw [hlen]
    cases P with
    | nil =>
      injection hp with e
      have := h.c1
      omega
    | cons a R =>
      injection hp with e
      subst e
      have := hc a rfl
      omega
/-- Are two marks close; neighbours: adjacent by number, or close. -/
def clP (g k : Int) (I : List It) (a b : Nat) : Bool := decide (k * agP g I a ≤ (k + 1) * agP g I b)
def nrP (g k : Int) (I : List It) (a b : Nat) : Prop := b = a + 1 ∨ k * agP g I a ≤ (k + 1) * agP g I b
/-- The state of chapter 13. -/
abbrev Sv (g w k c now : Int) (P : List Nat) (I : List It) : Prop := SnM (nrP g k) (clP g k) g w c now P I
theorem Sv.add {g w k c now v : Int} {P : List Nat} {I : List It} {n : Nat} (h : Sv g w k c now P I) (hk : 1 ≤ k) (h0 : 0 ≤ now) (hv : valG g v) (hc : ∀ p, P.head? = some p → (I.length : Int) - p < c) (hn : P.length + 1 ≤ n) : Sv g w k c now (prL (clP g k (I ++ [(now, v)])) n (P ++ [I.length])) (I ++ [(now, v)]) :=
  SnM.add h h0 hv hc hn (fun a b _ _ hab => Or.inr (of_decide_eq_true hab)) (fun a => Or.inl rfl) (fun a b ha hb hab => by
    rcases hab with e | e
    · exact Or.inl e
    · exact Or.inr (agP_close h.g1 hk h.vals hv (h.lt a ha) (h.lt b hb) e))
end Go.Proofs.Ytafkoddgefcpnaa

namespace Go.Proofs.Ytafkoddgefcpnaa

theorem cutL_none {α : Type} {f : α → Bool} : ∀ {R : List α}, (∀ y ∈ R, f y = false) → cutL f R = R := by
  intro R
  induction R with
  | nil => intro _; rfl
  | cons a R ih =>
    intro h
    have : R.any f = false := by
      cases e : R.any f with
      | false => rfl
      | true =>
        obtain ⟨x, hx, hf⟩ := List.any_eq_true.1 e
        rw [h x (List.mem_cons_of_mem _ hx)] at hf
        cases hf
    unfold cutL
    rw [this]
    rfl
/-- The last element that is close stands at place m. -/
theorem cutL_at {α : Type} {f : α → Bool} (d : α) : ∀ {R : List α} {m : Nat}, m < R.length → f (R.getD m d) = true → (∀ n, m < n → n < R.length → f (R.getD n d) = false) → cutL f R = R.drop m := by
  intro R
  induction R with
  | nil => intro m hm; exact absurd hm (Nat.not_lt_zero _)
  | cons a R ih =>
    intro m hm ht hl
    cases m with
    | zero =>
      have : R.any f = false := by
        cases e : R.any f with
        | false => rfl
        | true =>
          obtain ⟨x, hx, hf⟩ := List.any_eq_true.1 e
          obtain ⟨n, hn, rfl⟩ := List.mem_iff_getElem.1 hx
          have := hl (n + 1) (by omega) (by simp only [List.length_cons]; omega)
          rw [List.getD_cons_succ] at this
          simp only [List.getD, List.getElem?_eq_getElem hn, Option.getD_some] at this
          rw [this] at hf
          cases hf
      unfold cutL
      rw [this]
      rfl
    | succ m =>
      have hm2 : m < R.length := by simpa using hm
      rw [List.getD_cons_succ] at ht
      have : R.any f = true := List.any_eq_true.2 ⟨R.getD m d, by simp [List.getD, hm2], ht⟩
      unfold cutL
      rw [this, if_pos rfl, List.drop_succ_cons]
      exact ih hm2 ht (fun n h1 h2 => by
        have := hl (n + 1) (by omega) (by simp only [List.length_cons]; omega)
        rwa [List.getD_cons_succ] at this)
theorem prL_step {α : Type} (cl : α → α → Bool) (n : Nat) (a : α) (R : List α) : prL cl (n + 1) (a :: R) = a :: prL cl n (cutL (cl a) R) := rfl
/-- How often is no matter, if it is often enough. -/
theorem prL_fuel {α : Type} (cl : α → α → Bool) : ∀ (n m : Nat) (R : List α), R.length ≤ n → R.length ≤ m → prL cl n R = prL cl m R := by
  intro n
  induction n with
  | zero =>
    intro m R h _
    have : R = [] := List.eq_nil_of_length_eq_zero (by omega)
    subst this
    rw [prL_nil, prL_nil]
  | succ n ih =>
    intro m R h1 h2
    cases R with
    | nil => rw [prL_nil, prL_nil]
    | cons a R =>
      cases m with
      | zero => simp at h2
      | succ m =>
        have hc := cutL_len (cl a) R
        simp only [List.length_cons] at h1 h2
        rw [prL_step, prL_step, ih m (cutL (cl a) R) (by omega) (by omega)]
/-- Where the removal is: the marks ahead of place i are done. -/
theorem prL_go {α : Type} {cl : α → α → Bool} {pre R Z : List α} {a : α} {n : Nat} (h : pre ++ prL cl (n + 1) (a :: R) = Z) : (pre ++ [a]) ++ prL cl n (cutL (cl a) R) = Z := by
  rw [← h, prL_step, List.append_assoc]
  rfl
end Go.Proofs.Ytafkoddgefcpnaa
