/- Texts of these claims, one after the other. -/
import Derived.Test.YtafkoddgefcpnaaRows
import Derived.Test.YtafkoddgefcpnaaZESqq71
import Derived.Test.YtafkoddgefcpnaaZGBaseq35
import Derived.Test.YtafkoddgefcpnaaZKCutq133
import Derived.Test.YtafkoddgefcpnaaZWAddq17
namespace Go.Proofs.Ytafkoddgefcpnaa
open Go.RowKit

theorem il_len (L : List Int) : (il L).length = L.length := by simp [il]
theorem il_at {L : List Int} {j : Nat} (h : j < L.length) : (il L)[j]? = some (.int .i64 (L.getD j 0)) := by simp [il, List.getD, h]
theorem OwI.sl {w0 w : World} {v : Value} {n : Nat} {L : List Int} (h : OwI w0 w v n L) : ∃ A c, v = .slice A n c ∧ n ≤ c ∧ Sn w A n L := by
  have hn : L.length = n := by have := h.1; rw [il_len] at this; omega
  rcases h.2 with ⟨rfl, rfl⟩ | ⟨g, cap, cur, rfl, _, hh, hc, _, hs, ht⟩
  · exact ⟨none, 0, rfl, Nat.le_refl _, hn, fun hx => absurd hx (by omega)⟩
  · refine ⟨some ⟨g, 0, none⟩, cap, rfl, hc, hn, fun _ => ⟨g, 0, rfl, fun j hj => ?_⟩⟩
    rw [Nat.zero_add, cell_of_row w g j cur _ (0, 0) hh]
    have e := il_at (L := L) (j := j) (by omega)
    rw [← ht, List.getElem?_take] at e
    split at e
    · simpa using e
    · cases e
end Go.Proofs.Ytafkoddgefcpnaa

namespace Go.Proofs.Ytafkoddgefcpnaa
open Go.RowKit

theorem exL_tot (L : List It) (f : Int) : totB (exL L f) ≤ totB L := by
  obtain ⟨P, h⟩ := exL_suffix L f
  have := totB_low P
  have e := totB_app P (exL L f)
  rw [h] at e
  omega
theorem exL_va {L : List It} {k f t : Int} (h : Va L k) (hl : ∀ x ∈ L, x.1 ≤ t) : Va (exL L f) k ∧ ∀ x ∈ exL L f, x.1 ≤ t := by
  obtain ⟨P, e⟩ := exL_suffix L f
  refine ⟨Va.suffix (P := P) (by rw [e]; exact h), fun x hx => hl x ?_⟩
  rw [← e]
  exact List.mem_append_right _ hx
end Go.Proofs.Ytafkoddgefcpnaa

namespace Go.Proofs.Ytafkoddgefcpnaa
open Go.RowKit

/-- append of one item, in the world that stands behind its own row of one item. -/
theorem append1I_run (ty : TypeId) (w0 w : World) (A : Option Addr) (n k : Nat) (L : List It) (p0 p1 : Int) (hO : Own w0 w (.slice A n k) n L) (hu : Up w0 w) (hlen : n + 1 ≤ 1000000) :
    ∃ A' k' w', (Builtin.append_ #[45, 45] ty #[.slice A n k, .slice (some ⟨w.heap.size, 0, none⟩) 1 1]).run Try.prog (w.alloc (.cells #[.int .i64 p0, .int .i64 p1] 51)) = .ok (.slice A' (n + 1) k') w' ∧ Own w0 w' (.slice A' (n + 1) k') (n + 1) (L ++ [(p0, p1)]) ∧ Up w0 w' := by
  obtain ⟨v', w', hr, h1, h2⟩ := append_run ty w0 (w.alloc (.cells #[.int .i64 p0, .int .i64 p1] 51)) (.slice A n k) n L (hO.of_up ((Up.refl _).alloc _ _)) (hu.alloc _ _) (some ⟨w.heap.size, 0, none⟩) 1 1 [(p0, p1)] (one_new w p0 p1) hlen
  obtain ⟨A', k', rfl, _, _⟩ := h1.sl
  exact ⟨A', k', w', hr, h1, h2⟩

end Go.Proofs.Ytafkoddgefcpnaa

namespace Go.Proofs.Ytafkoddgefcpnaa
open Go.RowKit

theorem mayC_yes {v k c now : Int} (h : mayB v c now = true) (h1 : 1 ≤ k) (h2 : k ≤ 64) : mayC v k c now = true := by
  unfold mayC
  rw [h, decide_eq_true (p := 1 ≤ k ∧ k ≤ 64) ⟨h1, h2⟩]
  rfl
theorem mayC_ok {v k c now : Int} (h1 : 0 ≤ now) (h2 : now ≤ 16777216) (h3 : 1 ≤ v) (h4 : v ≤ 1048576) (h5 : 1 ≤ c) (h6 : c ≤ 65536) (h7 : 1 ≤ k) (h8 : k ≤ 64) : mayC v k c now = true := by
  refine mayC_yes ?_ h7 h8
  unfold mayB
  rw [tickB_yes h1 h2, winB_yes h3 h4, decide_eq_true ⟨h5, h6⟩]
  rfl
theorem exL_cons (p : It) (X : List It) (f : Int) : exL (p :: X) f = if p.1 < f then exL X f else p :: X := by
  unfold exL
  rw [List.dropWhile_cons]
  simp
theorem exL_low {f : Int} : ∀ {X : List It}, As X → ∀ x ∈ exL X f, f ≤ x.1 := by
  intro X
  induction X with
  | nil => intro _ x hx; cases hx
  | cons p X ih =>
    intro h x hx
    obtain ⟨h1, h2⟩ := As.cons.1 h
    rw [exL_cons] at hx
    split at hx
    · exact ih h2 x hx
    · rcases List.mem_cons.1 hx with rfl | hx
      · omega
      · have := h1 x hx; omega
theorem Cv.ex {f : Int} : ∀ {X : List It} {S : List Int}, Cv X S → S.Pairwise (fun x y => x ≤ y) → ∃ P R, S = P ++ R ∧ Cv (exL X f) R ∧ ∀ x ∈ P, x < f := by
  intro X
  induction X with
  | nil => intro S h _; exact ⟨[], S, rfl, h, fun x hx => (by cases hx)⟩
  | cons p X ih =>
    rintro S ⟨G, R, rfl, hg, h⟩ hs
    rw [exL_cons]
    split
    next hp =>
      obtain ⟨_, hs2, hs3⟩ := List.pairwise_append.1 hs
      obtain ⟨P, R2, rfl, hc, hP⟩ := ih h (List.pairwise_cons.1 hs2).2
      refine ⟨G ++ p.1 :: P, R2, by simp, hc, fun x hx => ?_⟩
      rcases List.mem_append.1 hx with g | g
      · have := hs3 x g p.1 List.mem_cons_self; omega
      · rcases List.mem_cons.1 g with rfl | g
        · exact hp
        · exact hP x g
    next hp => exact ⟨[], G ++ p.1 :: R, rfl, ⟨G, R, rfl, hg, h⟩, fun x hx => (by cases hx)⟩
theorem stC_adv {v k c now td : Int} {X : List It} (h : stC v k c now X = true) (h1 : now ≤ td) (h2 : td ≤ 16777216) : stC v k c td (exL X (firZ td v)) = true := by
  obtain ⟨a1, a2, a3, a4⟩ := stC_true h
  obtain ⟨g1, g2, g3, g4⟩ := mayC_facts a1
  have hk := (mayC_true a1).2
  have ht : (tickB td && winB v) = true := by rw [tickB_yes (by omega) h2, winB_yes g2.1 g2.2]; rfl
  have hl := lvX_iff.1 a3
  obtain ⟨b1, b2⟩ := exL_va (f := firZ td v) (t := now) a2 (fun x hx => ((live_iff g4 (a2.rg x hx).1.1).1 (hl x hx)).2)
  refine stC_yes (mayC_ok (by omega) h2 g2.1 g2.2 g3.1 g3.2 hk.1 hk.2) b1 (lvX_iff.2 (fun x hx => ?_)) (by have := exL_tot X (firZ td v); omega)
  have e1 := exL_low a2.as_ x hx
  rw [firZ_yes ht] at e1
  have e2 := b2 x hx
  exact (live_iff ht (by omega)).2 ⟨by omega, by omega⟩
theorem Hs.adv {v k c now td : Int} {X M : List It} (h : Hs v k c now X M) (h1 : now ≤ td) (h2 : td ≤ 16777216) : Hs v k c td (exL X (firZ td v)) M := by
  refine ⟨stC_adv h.st h1 h2, h.asc, fun x hx => ⟨(h.rg x hx).1, by have := (h.rg x hx).2; omega⟩, ?_⟩
  obtain ⟨a1, a2, a3, a4⟩ := stC_true h.st
  obtain ⟨g1, g2, g3, g4⟩ := mayC_facts a1
  have ht : (tickB td && winB v) = true := by rw [tickB_yes (by omega) h2, winB_yes g2.1 g2.2]; rfl
  obtain ⟨P, S, e, hP, hC⟩ := h.cv
  have hs : (M.map (fun x => x.1)).Pairwise (fun x y => x ≤ y) := List.pairwise_map.2 h.asc
  rw [e] at hs
  obtain ⟨P2, R, rfl, hC2, hP2⟩ := hC.ex (f := firZ td v) (List.pairwise_append.1 hs).2.1
  refine ⟨P ++ P2, R, by rw [e, List.append_assoc], fun x hx => ?_, hC2⟩
  rcases List.mem_append.1 hx with g | g
  · have := hP x g; omega
  · have g5 := hP2 x g
    have g6 : x ∈ M.map (fun x => x.1) := by rw [e]; simp [g]
    obtain ⟨y, hy, rfl⟩ := List.mem_map.1 g6
    have := (h.rg y hy).1
    rw [firZ_yes ht] at g5
    omega
end Go.Proofs.Ytafkoddgefcpnaa

namespace Go.Proofs.Ytafkoddgefcpnaa

theorem drL_map {α β : Type} (f : α → β) (lv : β → Bool) : ∀ R : List α, drL lv (R.map f) = (drL (fun x => lv (f x)) R).map f := by
  intro R
  induction R with
  | nil => rfl
  | cons a R ih =>
    cases R with
    | nil => simp only [List.map_cons, List.map_nil, drL]; split <;> rfl
    | cons b R =>
      simp only [List.map_cons, drL]
      split
      · rfl
      · exact ih
theorem drL_suffix {α : Type} (lv : α → Bool) : ∀ R : List α, ∃ Q, R = Q ++ drL lv R := by
  intro R
  induction R with
  | nil => exact ⟨[], rfl⟩
  | cons a R ih =>
    cases R with
    | nil =>
      simp only [drL]
      split
      · exact ⟨[], rfl⟩
      · exact ⟨[a], rfl⟩
    | cons b R =>
      simp only [drL]
      split
      · exact ⟨[], rfl⟩
      · obtain ⟨Q, e⟩ := ih; exact ⟨a :: Q, by rw [List.cons_append, ← e]⟩
theorem cutL_map {α β : Type} (g : α → β) (f : β → Bool) : ∀ R : List α, cutL f (R.map g) = (cutL (fun x => f (g x)) R).map g := by
  intro R
  induction R with
  | nil => rfl
  | cons x R ih =>
    simp only [List.map_cons, cutL, List.any_map]
    split
    next h => rw [if_pos (show (R.any fun x => f (g x)) = true from h)]; exact ih
    next h => rw [if_neg (show ¬ (R.any fun x => f (g x)) = true from h)]; rfl
theorem prL_map {α β : Type} (g : α → β) (cl : β → β → Bool) : ∀ (n : Nat) (R : List α), prL cl n (R.map g) = (prL (fun x y => cl (g x) (g y)) n R).map g := by
  intro n
  induction n with
  | zero => intro R; rfl
  | succ n ih =>
    intro R
    cases R with
    | nil => rfl
    | cons a R => simp only [List.map_cons, prL]; rw [cutL_map, ih]
end Go.Proofs.Ytafkoddgefcpnaa

namespace Go.Proofs.Ytafkoddgefcpnaa

theorem mrkA_push (I : List It) (t v : Int) {p : Nat} (h : p < I.length) : mrkA (I ++ [(t, v)]) p = incM v (mrkA I p) := by
  have e0 : (I ++ [(t, v)]).getD p (0, 0) = I.getD p (0, 0) := by
    rw [List.getD_eq_getElem?_getD, List.getD_eq_getElem?_getD, List.getElem?_append_left h]
  unfold mrkA incM
  rw [vlF_push I t v (by omega), e0, List.length_append, suL_app, sqL_app, mnL_push v (vlF_ne h), mxL_push v (vlF_ne h)]
  simp [suL, sqL]
theorem mrkA_new (I : List It) (t v : Int) : mrkA (I ++ [(t, v)]) I.length = oneM ((I.length : Int) + 1) t v := by
  have e0 : (I ++ [(t, v)]).getD I.length (0, 0) = (t, v) := by
    rw [List.getD_eq_getElem?_getD, List.getElem?_append_right (Nat.le_refl _)]; simp
  have e1 : vlF (I ++ [(t, v)]) I.length = [v] := by
    rw [vlF_push I t v (Nat.le_refl _)]; unfold vlF; rw [List.drop_length]; rfl
  unfold mrkA oneM
  rw [e0, e1]
  simp [suL, sqL, mnL, mxL]
theorem ofZ_mrkA {g : Int} {I : List It} (hg : 1 ≤ g ∧ g ≤ 4) (h : ∀ x ∈ I, valG g x.2) {p : Nat} (hp : p < I.length) : ofZ g (mrkA I p) = agP g I p := by
  have : g = 1 ∨ g = 2 ∨ g = 3 ∨ g = 4 := by omega
  rcases this with rfl | rfl | rfl | rfl
  · rfl
  · rfl
  · rfl
  · have h1 := vlF_val h p _ (mnL_mem (vlF_ne hp))
    have h2 := vlF_val h p _ (mxL_mem (vlF_ne hp))
    have h3 := h1.1; have h4 := h1.2.1; have h5 := h2.1; have h6 := h2.2.1
    have e : fit64 (mxL (vlF I p) - mnL (vlF I p)) = true := decide_eq_true (by omega)
    show (if fit64 (mxL (vlF I p) - mnL (vlF I p)) = true then mxL (vlF I p) - mnL (vlF I p) else 0) = _
    rw [if_pos e]; rfl
end Go.Proofs.Ytafkoddgefcpnaa

namespace Go.Proofs.Ytafkoddgefcpnaa

theorem SnM.start {nr : List It → Nat → Nat → Prop} {cl : List It → Nat → Nat → Bool} {g w c now : Int} (hg : 1 ≤ g ∧ g ≤ 4) (hw : 1 ≤ w) (hc : 1 ≤ c) : SnM nr cl g w c now [] [] :=
  ⟨hg, hw, hc, List.Pairwise.nil, (fun p hp => (by cases hp)), (fun p hp => (by cases hp)), (fun _ i hi => absurd hi (Nat.not_lt_zero _)), (fun p hp => (by cases hp)), (fun p hp => (by cases hp)), (fun p hp => (by cases hp)), trivial, trivial, List.Pairwise.nil, (fun x hx => (by cases hx)), (fun x hx => (by cases hx)), (fun p hp => (by cases hp))⟩
/-- What becomes of the marks by a tick. -/
theorem dr_facts {f : Int} {I : List It} (ha : I.Pairwise (fun x y => x.1 ≤ y.1)) : ∀ {P : List Nat}, P.Pairwise (fun a b => a < b) → (∀ p ∈ P, p < I.length) → (∀ p, P.getLast? = some p → p + 1 = I.length) → (P = [] → ∀ i, i < I.length → (I.getD i (0, 0)).1 ≤ f) → (∀ p, P.head? = some p → ∀ i, i < p → (I.getD i (0, 0)).1 ≤ f) →
    (drL (fun p => decide (f < (I.getD p (0, 0)).1)) P = [] → ∀ i, i < I.length → (I.getD i (0, 0)).1 ≤ f) ∧ (∀ p, (drL (fun p => decide (f < (I.getD p (0, 0)).1)) P).head? = some p → ∀ i, i < p → (I.getD i (0, 0)).1 ≤ f) ∧ (∀ p ∈ (drL (fun p => decide (f < (I.getD p (0, 0)).1)) P).tail, f < (I.getD p (0, 0)).1) ∧ (∀ p, drL (fun p => decide (f < (I.getD p (0, 0)).1)) P = [p] → f < (I.getD p (0, 0)).1) ∧ (∀ p, (drL (fun p => decide (f < (I.getD p (0, 0)).1)) P).head? = some p → ∀ q, P.head? = some q → q ≤ p) := by
  intro P
  induction P with
  | nil => intro _ _ _ hn _; exact ⟨fun _ => hn rfl, fun p hp => (by cases hp), fun p hp => (by cases hp), fun p hp => (by cases hp), fun p hp => (by cases hp)⟩
  | cons a R ih =>
    intro hu hl hla hn ho
    cases R with
    | nil =>
      simp only [drL]
      by_cases h : f < (I.getD a (0, 0)).1
      · rw [if_pos (decide_eq_true h)]
        refine ⟨fun e => (by cases e), ho, fun p hp => (by cases hp), fun p hp => ?_, fun p hp q hq => ?_⟩
        · injection hp with e; subst e; exact h
        · injection hp with e; injection hq with e2; omega
      · rw [if_neg (by simpa using h)]
        refine ⟨fun _ i hi => ?_, fun p hp => (by cases hp), fun p hp => (by cases hp), fun p hp => (by cases hp), fun p hp => (by cases hp)⟩
        have h1 := hla a rfl
        have := asc_le ha (show i ≤ a by omega) (by omega)
        omega
    | cons b R =>
      simp only [drL]
      have hb : b < I.length := hl b (by simp)
      by_cases h : f < (I.getD b (0, 0)).1
      · rw [if_pos (decide_eq_true h)]
        refine ⟨fun e => (by cases e), ho, fun p hp => ?_, fun p hp => (by cases hp), fun p hp q hq => ?_⟩
        · have h2 : b ≤ p := by
            rcases List.mem_cons.1 hp with e | e
            · omega
            · have := (List.pairwise_cons.1 (List.pairwise_cons.1 hu).2).1 p e; omega
          have := asc_le ha h2 (hl p (List.mem_cons_of_mem _ hp))
          omega
        · injection hp with e; injection hq with e2; omega
      · rw [if_neg (by simpa using h)]
        obtain ⟨i1, i2, i3, i4, i5⟩ := ih (List.pairwise_cons.1 hu).2 (fun p hp => hl p (List.mem_cons_of_mem _ hp)) (fun p hp => hla p (by rw [List.getLast?_cons_cons]; exact hp)) (fun e => (by cases e)) (fun p hp i hi => by
          injection hp with e
          subst e
          have := asc_le ha (Nat.le_of_lt hi) hb
          omega)
        refine ⟨i1, i2, i3, i4, fun p hp q hq => ?_⟩
        have h2 := i5 p hp b rfl
        injection hq with e
        subst e
        have := (List.pairwise_cons.1 hu).1 b List.mem_cons_self
        omega
theorem SnM.adv {nr : List It → Nat → Nat → Prop} {cl : List It → Nat → Nat → Bool} {g w c now td : Int} {P : List Nat} {I : List It} (h : SnM nr cl g w c now P I) (h1 : now ≤ td) : SnM nr cl g w c td (drL (fun p => decide (td - w < (I.getD p (0, 0)).1)) P) I := by
  obtain ⟨i1, i2, i3, i4, i5⟩ := dr_facts (f := td - w) h.asc h.up h.lt h.last (fun e i hi => by have := h.none_ e i hi; omega) (fun p hp i hi => by have := h.old p hp i hi; omega)
  obtain ⟨Q, e⟩ := drL_suffix (fun p => decide (td - w < (I.getD p (0, 0)).1)) P
  generalize drL (fun p => decide (td - w < (I.getD p (0, 0)).1)) P = D at *
  subst e
  refine ⟨h.g1, h.w1, h.c1, (List.pairwise_append.1 h.up).2.1, fun p hp => h.lt p (List.mem_append_right _ hp), fun p hp => h.last p ?_, i1, i2, i3, i4, h.c6.suffix, h.c5.suffix, h.asc, fun x hx => ⟨(h.rg x hx).1, by have := (h.rg x hx).2; omega⟩, h.vals, fun p hp => ?_⟩
  · rw [List.getLast?_append, hp]; rfl
  · cases hh : (Q ++ D).head? with
    | none =>
      rw [List.head?_eq_none_iff] at hh
      have : D = [] := (List.append_eq_nil_iff.1 hh).2
      subst this; cases hp
    | some q =>
      have := i5 p hp q hh
      have := h.cap q hh
      omega
theorem Sv.far {g w k c now : Int} {P : List Nat} {I : List It} (h : Sv g w k c now P I) : ch3 (fun a b => (k + 1) * agP g I b < k * agP g I a) P := ch3.imp (fun a _ b _ hab => by have := of_decide_eq_false hab; omega) h.c5
end Go.Proofs.Ytafkoddgefcpnaa

namespace Go.Proofs.Ytafkoddgefcpnaa

theorem bern (k : Nat) : ∀ j : Nat, (k + j) * k ^ j ≤ k * (k + 1) ^ j := by
  intro j
  induction j with
  | zero => simp
  | succ j ih =>
    have h1 : (k + 1) * ((k + j) * k ^ j) ≤ (k + 1) * (k * (k + 1) ^ j) := Nat.mul_le_mul_left _ ih
    have e1 : k * (k + 1) ^ (j + 1) = (k + 1) * (k * (k + 1) ^ j) := by rw [Nat.pow_succ]; ac_rfl
    have e2 : (k + (j + 1)) * k ^ (j + 1) = ((k + (j + 1)) * k) * k ^ j := by rw [Nat.pow_succ]; ac_rfl
    have e3 : (k + 1) * ((k + j) * k ^ j) = ((k + 1) * (k + j)) * k ^ j := by ac_rfl
    rw [e1, e2]
    refine Nat.le_trans (Nat.mul_le_mul_right _ ?_) (e3 ▸ h1)
    have g1 : (k + (j + 1)) * k = k * k + (j * k + k) := by rw [Nat.add_mul, Nat.add_mul, Nat.one_mul]
    have g2 : (k + 1) * (k + j) = k * k + j * k + (k + j) := by rw [Nat.add_mul, Nat.mul_add, Nat.one_mul, Nat.mul_comm k j]
    omega
theorem double_pow {k : Nat} (hk : 0 < k) : 2 * k ^ k ≤ (k + 1) ^ k := by
  have h := bern k k
  have e : (k + k) * k ^ k = k * (2 * k ^ k) := by rw [← Nat.two_mul]; ac_rfl
  rw [e] at h
  exact Nat.le_of_mul_le_mul_left h hk
theorem jump {α : Type} (f : α → Int) (k : Nat) : ∀ (j : Nat) (P : List α), ch3 (fun a b => ((k : Int) + 1) * f b < k * f a) P → ∀ a b, P.head? = some a → (P.drop (2 * j)).head? = some b → (((k + 1) ^ j : Nat) : Int) * f b ≤ ((k ^ j : Nat) : Int) * f a := by
  intro j
  induction j with
  | zero =>
    intro P _ a b ha hb
    rw [Nat.mul_zero, List.drop_zero, ha] at hb
    injection hb with e
    subst e
    simp
  | succ j ih =>
    intro P hc a b ha hb
    cases P with
    | nil => cases ha
    | cons x P =>
      injection ha with e
      subst e
      cases P with
      | nil => rw [show 2 * (j + 1) = (2 * j + 1) + 1 by omega, List.drop_succ_cons, List.drop_nil] at hb; cases hb
      | cons y P =>
        rw [show 2 * (j + 1) = (2 * j + 1) + 1 by omega, List.drop_succ_cons, List.drop_succ_cons] at hb
        cases P with
        | nil => rw [List.drop_nil] at hb; cases hb
        | cons z P =>
          have h1 := ih (z :: P) hc.2.tail z b rfl hb
          have h2 : ((k : Int) + 1) * f z < k * f x := hc.1
          have h3 : ((k : Int) + 1) * ((((k + 1) ^ j : Nat) : Int) * f b) ≤ ((k : Int) + 1) * (((k ^ j : Nat) : Int) * f z) := Int.mul_le_mul_of_nonneg_left h1 (by omega)
          have h4 : ((k ^ j : Nat) : Int) * (((k : Int) + 1) * f z) ≤ ((k ^ j : Nat) : Int) * (k * f x) := Int.mul_le_mul_of_nonneg_left (Int.le_of_lt h2) (Int.natCast_nonneg _)
          have e1 : (((k + 1) ^ (j + 1) : Nat) : Int) * f b = ((k : Int) + 1) * ((((k + 1) ^ j : Nat) : Int) * f b) := by
            rw [Nat.pow_succ, Int.natCast_mul, Int.natCast_add]; simp only [Int.natCast_one]; ac_rfl
          have e2 : ((k ^ (j + 1) : Nat) : Int) * f x = ((k ^ j : Nat) : Int) * (k * f x) := by
            rw [Nat.pow_succ, Int.natCast_mul]; ac_rfl
          have e3 : ((k : Int) + 1) * (((k ^ j : Nat) : Int) * f z) = ((k ^ j : Nat) : Int) * (((k : Int) + 1) * f z) := by ac_rfl
          rw [e1, e2]
          rw [e3] at h3
          exact Int.le_trans h3 h4
/-- The number of marks. -/
theorem few_ch3 {α : Type} (f : α → Int) {k : Nat} (hk : 0 < k) : ∀ (B : Nat) (P : List α), ch3 (fun a b => ((k : Int) + 1) * f b < k * f a) P → (∀ p ∈ P, 0 ≤ f p) → (∀ a, P.head? = some a → f a < ((2 ^ B : Nat) : Int)) → P.length ≤ 2 * k * B + 2 := by
  intro B
  induction B with
  | zero =>
    intro P hc hn hf
    cases P with
    | nil => exact Nat.zero_le _
    | cons a P =>
      cases P with
      | nil => simp
      | cons b P =>
        cases P with
        | nil => simp
        | cons c P =>
          have h1 : ((k : Int) + 1) * f c < k * f a := hc.1
          have h2 : f a < 1 := hf a rfl
          have h3 := hn a List.mem_cons_self
          have h4 := hn c (by simp)
          have e : f a = 0 := by omega
          rw [e, Int.mul_zero] at h1
          have := Int.mul_nonneg (show (0 : Int) ≤ (k : Int) + 1 by omega) h4
          omega
  | succ B ih =>
    intro P hc hn hf
    by_cases hl : P.length ≤ 2 * k
    · have : 2 * k * (B + 1) = 2 * k * B + 2 * k := by rw [Nat.mul_add, Nat.mul_one]
      omega
    · have h1 := ih (P.drop (2 * k)) (hc.drop _) (fun p hp => hn p (List.mem_of_mem_drop hp)) (fun b hb => by
        cases ha : P.head? with
        | none => rw [List.head?_eq_none_iff] at ha; subst ha; simp at hl
        | some a =>
          have h2 := jump f k k P hc a b ha hb
          have h3 := double_pow hk
          have hb0 : 0 ≤ f b := hn b (List.mem_of_mem_drop (List.mem_of_mem_head? hb))
          have h4 : ((2 * k ^ k : Nat) : Int) * f b ≤ (((k + 1) ^ k : Nat) : Int) * f b := Int.mul_le_mul_of_nonneg_right (by omega) hb0
          have h5 : ((k ^ k : Nat) : Int) * (2 * f b) ≤ ((k ^ k : Nat) : Int) * f a := by
            have e : ((2 * k ^ k : Nat) : Int) * f b = ((k ^ k : Nat) : Int) * (2 * f b) := by rw [Int.natCast_mul]; simp only [Int.cast_ofNat_Int]; ac_rfl
            rw [e] at h4
            exact Int.le_trans h4 h2
          have h6 : (0 : Int) < ((k ^ k : Nat) : Int) := by have := Nat.pow_pos (n := k) hk; omega
          have h7 : 2 * f b ≤ f a := Int.le_of_mul_le_mul_left h5 h6
          have h8 := hf a ha
          rw [Nat.pow_succ, Int.natCast_mul] at h8
          have : ((2 : Nat) : Int) = 2 := rfl
          rw [this] at h8
          omega)
      rw [List.length_drop] at h1
      have : 2 * k * (B + 1) = 2 * k * B + 2 * k := by rw [Nat.mul_add, Nat.mul_one]
      omega
end Go.Proofs.Ytafkoddgefcpnaa

namespace Go.Proofs.Ytafkoddgefcpnaa

theorem chn.at {α : Type} {r : α → α → Prop} (d : α) : ∀ {P : List α}, chn r P → ∀ j, j + 1 < P.length → r (P.getD j d) (P.getD (j + 1) d) := by
  intro P
  induction P with
  | nil => intro _ j hj; exact absurd hj (Nat.not_lt_zero _)
  | cons a P ih =>
    intro h j hj
    cases P with
    | nil => simp at hj
    | cons b P =>
      cases j with
      | zero => exact h.1
      | succ j => exact ih h.2 j (by simp at hj ⊢; omega)
theorem ch3.at {α : Type} {r : α → α → Prop} (d : α) : ∀ {P : List α}, ch3 r P → ∀ j, j + 2 < P.length → r (P.getD j d) (P.getD (j + 2) d) := by
  intro P
  induction P with
  | nil => intro _ j hj; exact absurd hj (Nat.not_lt_zero _)
  | cons a P ih =>
    intro h j hj
    cases P with
    | nil => simp at hj
    | cons b P =>
      cases P with
      | nil => simp only [List.length_cons, List.length_nil] at hj; omega
      | cons c P =>
        cases j with
        | zero => exact h.1
        | succ j => exact ih h.2 j (by simp at hj ⊢; omega)
/-- Conditions 5 and 6 of chapter 13. -/
theorem Sv.farAt {g w k c now : Int} {P : List Nat} {I : List It} (h : Sv g w k c now P I) {j : Nat} (hj : j < P.length) (h0 : 1 < j) : (k + 1) * ofZ g ((P.map (mrkA I)).getD j mk0) < k * ofZ g ((P.map (mrkA I)).getD (j - 2) mk0) := by
  have e := getD_map (I := I) hj
  have hp := h.lt _ (getD_in hj)
  have e2 := getD_map (I := I) (P := P) (j := j - 2) (by omega)
  have hp2 := h.lt _ (getD_in (P := P) (j := j - 2) (by omega))
  rw [e, e2, ofZ_mrkA h.g1 h.vals hp, ofZ_mrkA h.g1 h.vals hp2]
  have := h.far.at 0 (j - 2) (by omega)
  rwa [show j - 2 + 2 = j by omega] at this
theorem Sv.nearAt {g w k c now : Int} {P : List Nat} {I : List It} (h : Sv g w k c now P I) {j : Nat} (hj : j < P.length) (h0 : 0 < j) (h1 : ((P.map (mrkA I)).getD (j - 1) mk0).sq + 1 < ((P.map (mrkA I)).getD j mk0).sq) : k * ofZ g ((P.map (mrkA I)).getD (j - 1) mk0) ≤ (k + 1) * ofZ g ((P.map (mrkA I)).getD j mk0) := by
  have e := getD_map (I := I) hj
  have hp := h.lt _ (getD_in hj)
  have e1 := getD_map (I := I) (P := P) (j := j - 1) (by omega)
  have hp2 := h.lt _ (getD_in (P := P) (j := j - 1) (by omega))
  rw [e, e1] at h1
  rw [e, e1, ofZ_mrkA h.g1 h.vals hp, ofZ_mrkA h.g1 h.vals hp2]
  have h2 := h.c6.at 0 (j - 1) (by omega)
  rw [show j - 1 + 1 = j by omega] at h2
  rcases h2 with g1 | g1
  · have h1 : ((P.getD (j - 1) 0 : Nat) : Int) + 1 + 1 < ((P.getD j 0 : Nat) : Int) + 1 := h1
    omega
  · exact g1
end Go.Proofs.Ytafkoddgefcpnaa

namespace Go.Proofs.Ytafkoddgefcpnaa
open Go.ChangeShapes Go.WideShapes Go.ChangeAt Go.RowKit Go.Joins Go.Deep

section
variable {H : Type} {enc : TypeId × Value → H} {w : World} {base : Nat} {spare : Nat → Bool} {held : Bool}
set_option maxRecDepth 100000 in
theorem cells_items2 {n : Nat} {cs : List Value} {x : DataW H × List MemPlace} (h : DataW.trod enc Try.prog w 0 (fun _ => true) held n 45 cs = some x) :
    ∃ (A : Option Addr) (len cap : Nat) (L : List It), cs = [.slice A len cap] ∧ len ≤ cap ∧ Sl w A len L ∧ InI L := by
  rcases open_slice_pairs Try.underlying45 Try.underlying51 item_cells rfl rfl int64_cells int64_cells h with ⟨hc, hx⟩ | ⟨a, len, cap, m, k, V0, V1, D0, D1, P0, P1, hc, _, hl, hm, hmm, hx, hall⟩
  · exact ⟨none, 0, 0, [], hc, Nat.le_refl _, Sl.none_, fun x hx => by cases hx⟩
  · simp only [if_true] at hmm
    subst hmm
    have each : ∀ i, i < m → ∃ z : It, w.cell? (a.add (i * 2)) = some (.int .i64 z.1) ∧ w.cell? (a.add (i * 2 + 1)) = some (.int .i64 z.2) ∧ In z.1 ∧ In z.2 := fun i hi => by
      obtain ⟨h1, h2, h3, h4⟩ := hall i hi
      obtain ⟨z0, e0, _, f0⟩ := DataW.trod_int Try.underlying2 h3
      obtain ⟨z1, e1, _, f1⟩ := DataW.trod_int Try.underlying2 h4
      simp at e0 e1
      exact ⟨(z0, z1), by rw [h1, e0], by rw [h2, e1], in_of_wf f0, in_of_wf f1⟩
    obtain ⟨z, hz⟩ := choose_lt each
    refine ⟨some a, len, m, (List.range len).map z, hc, hl, ⟨by simp, fun hn => ?_⟩, fun x hx => ?_⟩
    rotate_left
    · obtain ⟨j, hj, rfl⟩ := List.mem_map.1 hx
      have := hz j (by have := List.mem_range.1 hj; omega)
      exact this.2.2
    have hsp : a.spot = none := by
      have := World.cell?_spot (hz 0 (by omega)).1
      simpa [Addr.add] using this
    obtain ⟨b, o, s⟩ := a
    simp at hsp
    subst hsp
    refine ⟨b, o, rfl, fun j u hj => ?_⟩
    have hjl : j < len * 2 := by
      rcases Nat.lt_or_ge j (len * 2) with g | g
      · exact g
      · rw [List.getElem?_eq_none (by rw [fl_length]; simp; omega)] at hj; cases hj
    have hk : j / 2 < ((List.range len).map z).length := by simp; omega
    obtain ⟨c0, c1, _, _⟩ := hz (j / 2) (by omega)
    rw [add_at] at c0 c1
    rcases (by omega : j = j / 2 * 2 ∨ j = j / 2 * 2 + 1) with e | e
    · have := fl_get0 _ _ hk
      rw [← e, hj] at this
      rw [← e] at c0
      rw [c0, this]; simp
    · have := fl_get1 _ _ hk
      rw [← e, hj] at this
      rw [← e] at c1
      rw [c1, this]; simp
set_option maxRecDepth 100000 in
theorem open_items2 {r : Reach} {b0 : Nat} {v : Value} {d : DataW H} {p : List MemPlace} (hv : Value.okWide Try.prog w r b0 45 v) (h : DataW.Trod enc Try.prog w 0 (fun _ => true) held 45 v d p) :
    ∃ (n k : Nat) (A : Option Addr) (L : List It), v = .slice A n k ∧ n ≤ k ∧ Sl w A n L ∧ InI L := by
  obtain ⟨fuel, hf⟩ := h
  obtain ⟨A, len, cap, L, es, hl, hS, hI⟩ := cells_items2 hf
  obtain ⟨a, n, c, rfl⟩ := okWide_slice Try.underlying45 hv
  simp [Value.cells] at es
  obtain ⟨rfl, rfl, rfl⟩ := es
  exact ⟨_, _, _, L, rfl, hl, hS, hI⟩
end
end Go.Proofs.Ytafkoddgefcpnaa
