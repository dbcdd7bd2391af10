/- Texts of these claims, one after the other. -/
import Derived.Test.YtfcknhpllhkpeaaRows
import Derived.Test.YtfcknhpllhkpeaaZGFrameq6
import Derived.Test.YtfcknhpllhkpeaaZHMathq10
namespace Go.Proofs.Ytfcknhpllhkpeaa
open Go.RowKit

theorem pwB1 (a : Nat) : (1 : Int) ≤ 2 ^ a := Int.pow_pos (by omega)
theorem cn_pos {l : Int} {X : List It} : 0 < cn l X ↔ ∃ x ∈ X, x.2 = l := by
  unfold cn; rw [List.countP_pos_iff]; simp
theorem Va.nil {k : Int} (h1 : 1 ≤ k) (h2 : k ≤ 128) : Va [] k :=
  ⟨h1, h2, fun x hx => (by cases hx), List.Pairwise.nil, List.Pairwise.nil, fun j => (by rw [cn_nil]; omega), fun x hx => (by cases hx)⟩
def vlB : List Int → Int
  | [] => 0
  | c :: cs => c + 2 * vlB cs
def smB : List Int → Int
  | [] => 0
  | c :: cs => c + smB cs
theorem pow_succ2 (f : Nat) : (2 : Int) ^ (f + 1) = 2 * 2 ^ f := by rw [Int.pow_succ]; omega
/-- The numbers of buckets of a valid list. -/
def Gd (k : Int) : List Int → Prop
  | [] => True
  | c :: cs => c ≤ k + 1 ∧ (cs ≠ [] → k ≤ c) ∧ 1 ≤ c ∧ Gd k cs
theorem Gd.low {k : Int} (_hk : 1 ≤ k) : ∀ {cs : List Int}, Gd k cs → cs ≠ [] → 2 ^ (cs.length - 1) * (1 + k) - k ≤ vlB cs := by
  intro cs
  induction cs with
  | nil => intro _ h; exact absurd rfl h
  | cons c cs ih =>
    intro h _
    obtain ⟨h1, h2, h3, h4⟩ := h
    cases cs with
    | nil => simp [vlB]; omega
    | cons d ds =>
      have g := ih h4 (by simp)
      have g2 := h2 (by simp)
      simp only [List.length_cons, Nat.add_sub_cancel] at g ⊢
      rw [pow_succ2, Int.mul_assoc]
      rw [vlB]
      omega
/-- The numbers of buckets of each level. -/
def tpB (X : List It) : Nat := (X.getD 0 (0, 0)).2.toNat
def ctL (X : List It) : List Int := if X = [] then [] else (List.range (tpB X + 1)).map (fun j : Nat => (cn (j : Int) X : Int))
theorem vlB_add (f g : Nat → Int) (R : List Nat) : vlB (R.map (fun j => f j + g j)) = vlB (R.map f) + vlB (R.map g) := by
  induction R with
  | nil => rfl
  | cons a R ih => simp only [List.map_cons, vlB, ih]; omega
theorem smB_add (f g : Nat → Int) (R : List Nat) : smB (R.map (fun j => f j + g j)) = smB (R.map f) + smB (R.map g) := by
  induction R with
  | nil => rfl
  | cons a R ih => simp only [List.map_cons, smB, ih]; omega
theorem vlB_zero (R : List Nat) : vlB (R.map (fun _ => (0 : Int))) = 0 := by
  induction R with
  | nil => rfl
  | cons a R ih => simp only [List.map_cons, vlB, ih]; omega
theorem smB_zero (R : List Nat) : smB (R.map (fun _ => (0 : Int))) = 0 := by
  induction R with
  | nil => rfl
  | cons a R ih => simp only [List.map_cons, smB, ih]; omega
theorem range_map (f : Nat → Int) (m : Nat) : (List.range (m + 1)).map f = f 0 :: (List.range m).map (fun j => f (j + 1)) := by
  rw [List.range_succ_eq_map, List.map_cons, List.map_map]
  rfl
theorem vlB_one : ∀ (m a : Nat), a < m → vlB ((List.range m).map (fun j => if a = j then (1 : Int) else 0)) = 2 ^ a := by
  intro m
  induction m with
  | zero => intro a h; omega
  | succ m ih =>
    intro a h
    rw [range_map, vlB]
    cases a with
    | zero =>
      have e : (List.range m).map (fun j => if 0 = j + 1 then (1 : Int) else 0) = (List.range m).map (fun _ => (0 : Int)) := List.map_congr_left (fun j _ => if_neg (by omega))
      rw [e, vlB_zero]; rfl
    | succ a =>
      have e : (List.range m).map (fun j => if a + 1 = j + 1 then (1 : Int) else 0) = (List.range m).map (fun j => if a = j then (1 : Int) else 0) := List.map_congr_left (fun j _ => by simp)
      rw [e, ih a (by omega), if_neg (by omega), pow_succ2]; omega
theorem smB_one : ∀ (m a : Nat), a < m → smB ((List.range m).map (fun j => if a = j then (1 : Int) else 0)) = 1 := by
  intro m
  induction m with
  | zero => intro a h; omega
  | succ m ih =>
    intro a h
    rw [range_map, smB]
    cases a with
    | zero =>
      have e : (List.range m).map (fun j => if 0 = j + 1 then (1 : Int) else 0) = (List.range m).map (fun _ => (0 : Int)) := List.map_congr_left (fun j _ => if_neg (by omega))
      rw [e, smB_zero]; rfl
    | succ a =>
      have e : (List.range m).map (fun j => if a + 1 = j + 1 then (1 : Int) else 0) = (List.range m).map (fun j => if a = j then (1 : Int) else 0) := List.map_congr_left (fun j _ => by simp)
      rw [e, ih a (by omega), if_neg (by omega)]; omega
theorem cn_split (x : It) (X : List It) (h0 : 0 ≤ x.2) (m : Nat) : (List.range m).map (fun j : Nat => (cn (j : Int) (x :: X) : Int)) = (List.range m).map (fun j : Nat => (cn (j : Int) X : Int) + (if x.2.toNat = j then (1 : Int) else 0)) := by
  refine List.map_congr_left (fun j _ => ?_)
  rw [cn_cons]
  split
  next e => rw [if_pos (by omega)]; omega
  next e => rw [if_neg (by omega)]; omega
theorem cn_val (m : Nat) (hm : m ≤ 31) : ∀ (X : List It), (∀ x ∈ X, 0 ≤ x.2 ∧ x.2 < m) → vlB ((List.range m).map (fun j : Nat => (cn (j : Int) X : Int))) = totB X ∧ smB ((List.range m).map (fun j : Nat => (cn (j : Int) X : Int))) = (X.length : Int) := by
  intro X
  induction X with
  | nil => intro _; exact ⟨vlB_zero _, smB_zero _⟩
  | cons x X ih =>
    intro h
    obtain ⟨i1, i2⟩ := ih (fun y hy => h y (List.mem_cons_of_mem _ hy))
    obtain ⟨h0, h1⟩ := h x List.mem_cons_self
    rw [cn_split x X h0 m, vlB_add, smB_add, i1, i2, vlB_one m _ (by omega), smB_one m _ (by omega)]
    refine ⟨?_, by rw [List.length_cons]; omega⟩
    simp only [totB, szB]
    rw [if_pos (by omega)]; omega
theorem Gd.of_map {k : Int} : ∀ (m : Nat) (f : Nat → Int), (∀ j, j < m → k ≤ f j) → (∀ j, j ≤ m → f j ≤ k + 1) → 1 ≤ k → 1 ≤ f m → Gd k ((List.range (m + 1)).map f) := by
  intro m
  induction m with
  | zero =>
    intro f _ h2 _ h3
    have e : (List.range (0 + 1)).map f = [f 0] := rfl
    rw [e]
    exact ⟨h2 0 (by omega), fun h => absurd rfl h, h3, trivial⟩
  | succ m ih =>
    intro f h1 h2 hk h3
    rw [range_map]
    have := h1 0 (by omega)
    refine ⟨h2 0 (by omega), fun _ => this, by omega, ih (fun j => f (j + 1)) (fun j hj => h1 (j + 1) (by omega)) (fun j hj => h2 (j + 1) (by omega)) hk h3⟩
theorem getD0_mem {X : List It} (h : X ≠ []) : X.getD 0 (0, 0) ∈ X := by
  cases X with
  | nil => exact absurd rfl h
  | cons x X => simp
theorem ctL_len (X : List It) (h : X ≠ []) : (ctL X).length = tpB X + 1 := by unfold ctL; rw [if_neg h]; simp
/-- What the numbers of buckets say of a valid list. -/
theorem Va.gd {X : List It} {k : Int} (h : Va X k) : Gd k (ctL X) ∧ vlB (ctL X) = totB X ∧ smB (ctL X) = (X.length : Int) := by
  by_cases hX : X = []
  · subst hX; exact ⟨trivial, rfl, rfl⟩
  have hm := getD0_mem hX
  have ht := h.ds.top
  have hr := h.rg _ hm
  unfold ctL
  rw [if_neg hX]
  have e : ((tpB X : Nat) : Int) = (X.getD 0 (0, 0)).2 := by unfold tpB; omega
  obtain ⟨c1, c2⟩ := cn_val (tpB X + 1) (by unfold tpB; omega) X (fun x hx => ⟨(h.rg x hx).2.1, by have := ht x hx; omega⟩)
  refine ⟨Gd.of_map _ _ (fun j hj => ?_) (fun j _ => h.up j) h.k1 ?_, c1, c2⟩
  · exact h.fl _ hm j (by omega) (by omega)
  · have : 0 < cn ((tpB X : Nat) : Int) X := cn_pos.2 ⟨_, hm, e.symm⟩
    omega
theorem Va.narrow {X : List It} {k : Int} (h : Va X k) (hX : X ≠ []) : k * (szB (X.getD 0 (0, 0)).2 - 1) + 1 ≤ totB X - szB (X.getD 0 (0, 0)).2 + 1 ∧ 1 ≤ szB (X.getD 0 (0, 0)).2 ∧ szB (X.getD 0 (0, 0)).2 ≤ totB X := by
  obtain ⟨h1, h2, h3⟩ := h.gd
  have hr := h.rg _ (getD0_mem hX)
  have g := h1.low h.k1 (by intro e; have := ctL_len X hX; rw [e] at this; simp at this)
  rw [h2, ctL_len X hX, Nat.add_sub_cancel] at g
  have e : szB (X.getD 0 (0, 0)).2 = 2 ^ tpB X := by unfold szB tpB; rw [if_pos (by omega)]
  rw [e]
  have p := pwB1 (tpB X)
  generalize (2 : Int) ^ tpB X = z at *
  have hk := h.k1
  rw [Int.mul_sub]
  rw [Int.mul_add, Int.mul_comm z k] at g
  have q : k * 1 ≤ k * z := Int.mul_le_mul_of_nonneg_left p (by omega)
  omega
end Go.Proofs.Ytfcknhpllhkpeaa

namespace Go.Proofs.Ytfcknhpllhkpeaa
open Go.RowKit

theorem modm_any (a n : Int) (hn : 1 ≤ n) (hn' : n ≤ 1000000) (w : World) :
    Calls Try.prog 24 #[.int .i64 a, .int .i64 n] w fun e w' => e = .returned (.int .i64 (a % n)) ∧ w = w' := by
  have t0 : (n == 0) = false := by simp; omega
  have h1 := Int.tmod_eq_emod (a := a) (b := n)
  have h2 : 0 ≤ a % n := Int.emod_nonneg _ (by omega)
  have h3 : a % n < n := Int.emod_lt_of_pos _ (by omega)
  have z0 : ¬ n = 0 := by omega
  by_cases hs : a.tmod n < 0
  · have t1 : decide (a.tmod n < 0) = true := decide_eq_true hs
    have HE : Hid (a % n = a.tmod n + n) := Lib.hid (by
      by_cases hz : 0 ≤ a ∨ n ∣ a
      · rw [if_pos hz] at h1; omega
      · rw [if_neg hz] at h1; have : (n.natAbs : Int) = n := by omega
        omega)
    have b1 : -1000000 ≤ a.tmod n := by have := HE.out; omega
    generalize hr : a % n = r at *
    clear h1 h2 h3 hr
    have HEE := Lib.hid HE.out
    have k1 : IntKind.i64.wrap (a.tmod n) = a.tmod n := IntWalk.i64_in _ (by omega)
    have k2 : IntKind.i64.wrap (a.tmod n + n) = a.tmod n + n := IntWalk.i64_in _ (by omega)
    clear HE
    go_enter Try.func24, Try.ntmps24
    go_wp2
    go_ret
    exact ⟨by rw [HEE.out]; rfl, rfl⟩
  · have t1 : decide (a.tmod n < 0) = false := decide_eq_false hs
    have HE : Hid (a % n = a.tmod n) := Lib.hid (by
      by_cases hz : 0 ≤ a ∨ n ∣ a
      · rw [if_pos hz] at h1; omega
      · rw [if_neg hz] at h1; have : (n.natAbs : Int) = n := by omega
        omega)
    have b1 : a.tmod n ≤ 1000000 := by have := HE.out; omega
    generalize hr : a % n = r at *
    clear h1 h2 h3 hr
    have HEE := Lib.hid HE.out
    have k1 : IntKind.i64.wrap (a.tmod n) = a.tmod n := IntWalk.i64_in _ (by omega)
    clear HE
    go_enter Try.func24, Try.ntmps24
    go_wp2
    go_ret
    exact ⟨by rw [HEE.out]; rfl, rfl⟩
end Go.Proofs.Ytfcknhpllhkpeaa

namespace Go.Proofs.Ytfcknhpllhkpeaa
open Go.ChangeShapes Go.WideShapes Go.ChangeAt Go.RowKit Go.Joins Go.Deep

/-- A slice of int64 that reads as the list L. -/
def Sn (w : World) (A : Option Addr) (n : Nat) (L : List Int) : Prop :=
  L.length = n ∧ (0 < n → ∃ b o, A = some ⟨b, o, none⟩ ∧ ∀ j, j < n → w.cell? ⟨b, o + j, none⟩ = some (.int .i64 (L.getD j 0)))
theorem Sn.none_ {w : World} {A : Option Addr} : Sn w A 0 [] := ⟨rfl, fun h => absurd h (by omega)⟩
theorem Sn.up {w w' : World} {A : Option Addr} {n : Nat} {L : List Int} (h : Sn w A n L) (hu : Up w w') : Sn w' A n L :=
  ⟨h.1, fun hn => by
    obtain ⟨b, o, e, hc⟩ := h.2 hn
    exact ⟨b, o, e, fun j hj => hu.keep _ _ _ (hc j hj)⟩⟩
section
variable {H : Type} {enc : TypeId × Value → H} {w : World} {base : Nat} {spare : Nat → Bool} {held : Bool}
end
end Go.Proofs.Ytfcknhpllhkpeaa
