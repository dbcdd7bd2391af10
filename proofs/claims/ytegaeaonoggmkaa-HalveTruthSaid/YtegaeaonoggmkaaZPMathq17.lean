/- Texts of these claims, one after the other. -/
import Derived.Test.YtegaeaonoggmkaaRows
import Derived.Test.YtegaeaonoggmkaaZGBaseq11
import Derived.Test.YtegaeaonoggmkaaZGModq120
namespace Go.Proofs.Ytegaeaonoggmkaa

/-- Items with ages from 1 on and values of at least 0. -/
def okM (land now : Int) (A : List It) : Prop := ∀ x ∈ A, land ≤ x.1 ∧ x.1 ≤ now ∧ 0 ≤ x.2 ∧ x.2 ≤ 4096
theorem okM.tail {land now : Int} {x : It} {A : List It} (h : okM land now (x :: A)) : okM land now A := fun y hy => h y (List.mem_cons_of_mem _ hy)
end Go.Proofs.Ytegaeaonoggmkaa

namespace Go.Proofs.Ytegaeaonoggmkaa

theorem okM.later {land now now' : Int} {M : List It} (h : okM land now M) (hn : now ≤ now') : okM land now' M := fun x hx => by have := h x hx; omega
theorem okM.push {land now v : Int} {A : List It} (h : okM land now A) (hl : land ≤ now) (hv : 0 ≤ v ∧ v ≤ 4096) : okM land now (A ++ [(now, v)]) := by
  intro x hx
  rcases List.mem_append.1 hx with hx | hx
  · exact h x hx
  · simp only [List.mem_singleton] at hx; subst hx; exact ⟨hl, Int.le_refl _, hv.1, hv.2⟩
end Go.Proofs.Ytegaeaonoggmkaa

namespace Go.Proofs.Ytegaeaonoggmkaa

theorem asF_ext {a : Nat} {f g : Nat → Int} {n : Nat} (h : ∀ e, e < n → f e = g e) : asF a f n = asF a g n := by
  induction n with
  | zero => rfl
  | succ n ih =>
    show asF a f n + f n * _ = asF a g n + g n * _
    rw [ih (fun e he => h e (by omega)), h n (by omega)]
theorem asF_add (a : Nat) (f g : Nat → Int) (n : Nat) : asF a (fun e => f e + g e) n = asF a f n + asF a g n := by
  induction n with
  | zero => rfl
  | succ n ih =>
    show asF a (fun e => f e + g e) n + (f n + g n) * _ = (asF a f n + f n * _) + (asF a g n + g n * _)
    rw [ih, Int.add_mul]; omega
theorem asF_zero (a n : Nat) : asF a (fun _ => 0) n = 0 := by
  induction n with
  | zero => rfl
  | succ n ih =>
    show asF a (fun _ => 0) n + 0 * _ = 0
    rw [ih, Int.zero_mul]; rfl
theorem asF_one (a k : Nat) (v : Int) (n : Nat) : asF a (fun e => if e = k then v else 0) n = if k < n then v * 2 ^ (a - 1 - k) else 0 := by
  induction n with
  | zero => rw [if_neg (by omega)]; rfl
  | succ n ih =>
    show asF a (fun e => if e = k then v else 0) n + (if n = k then v else 0) * _ = _
    rw [ih]
    by_cases h : n = k
    · subst h; rw [if_neg (by omega), if_pos rfl, if_pos (by omega), Int.zero_add]
    · rw [if_neg h, Int.zero_mul, Int.add_zero]
      by_cases g : k < n
      · rw [if_pos g, if_pos (by omega)]
      · rw [if_neg g, if_neg (by omega)]
/-- The sum of the values of one age. -/
def buH (now : Int) (e : Nat) : List It → Int
  | [] => 0
  | x :: M => (if now - x.1 = (e : Int) then x.2 else 0) + buH now e M
theorem buH_app (now : Int) (e : Nat) (A B : List It) : buH now e (A ++ B) = buH now e A + buH now e B := by
  induction A with
  | nil => simp [buH]
  | cons x A ih => simp only [List.cons_append, buH, ih]; omega
/-- Items up to now, with values of at least 0. -/
def okH (now : Int) (M : List It) : Prop := ∀ x ∈ M, 0 ≤ x.1 ∧ x.1 ≤ now ∧ 0 ≤ x.2 ∧ x.2 ≤ 4096
theorem okH.tail {now : Int} {x : It} {M : List It} (h : okH now (x :: M)) : okH now M := fun y hy => h y (List.mem_cons_of_mem _ hy)
theorem okH.later {now now' : Int} {M : List It} (h : okH now M) (hn : now ≤ now') : okH now' M := fun x hx => by have := h x hx; omega
theorem okH.push {now v : Int} {M : List It} (h : okH now M) (h0 : 0 ≤ now) (hv : 0 ≤ v ∧ v ≤ 4096) : okH now (M ++ [(now, v)]) := by
  intro x hx
  rcases List.mem_append.1 hx with hx | hx
  · exact h x hx
  · simp only [List.mem_singleton] at hx; subst hx; exact ⟨h0, Int.le_refl _, hv.1, hv.2⟩
theorem buH_bd {now : Int} (e : Nat) : ∀ {M : List It}, okH now M → 0 ≤ buH now e M ∧ buH now e M ≤ (M.length : Int) * 4096 := by
  intro M
  induction M with
  | nil => intro _; exact ⟨Int.le_refl 0, by simp [buH]⟩
  | cons x M ih =>
    intro h
    obtain ⟨i1, i2⟩ := ih h.tail
    have hx := h x List.mem_cons_self
    simp only [buH, List.length_cons]
    rw [show ((M.length + 1 : Nat) : Int) = (M.length : Int) + 1 by omega, Int.add_mul, Int.one_mul]
    split <;> exact ⟨by omega, by omega⟩
theorem buH_old {now : Int} {e : Nat} (h : now < (e : Int)) : ∀ {M : List It}, okH now M → buH now e M = 0 := by
  intro M
  induction M with
  | nil => intro _; rfl
  | cons x M ih =>
    intro g
    have hx := g x List.mem_cons_self
    simp only [buH, ih g.tail]
    rw [if_neg (by omega)]; rfl
theorem buH_later {now : Int} (d e : Nat) : ∀ {M : List It}, okH now M → buH (now + d) e M = if d ≤ e then buH now (e - d) M else 0 := by
  intro M
  induction M with
  | nil => intro _; simp [buH]
  | cons x M ih =>
    intro g
    have hx := g x List.mem_cons_self
    simp only [buH, ih g.tail]
    by_cases h : d ≤ e
    · rw [if_pos h, if_pos h]
      by_cases q : now - x.1 = ((e - d : Nat) : Int)
      · rw [if_pos q, if_pos (by omega)]
      · rw [if_neg q, if_neg (by omega)]
    · rw [if_neg h, if_neg h, if_neg (by omega)]; rfl
/-- The sums of items. -/
def hvS (now : Int) (a : Nat) (M : List It) : List Int := byL a (fun e => buH now e M)
theorem hvS_len (now : Int) (a : Nat) (M : List It) : (hvS now a M).length = a := byL_len _ _
theorem hvS_nil (now : Int) (a : Nat) : hvS now a [] = byL a (fun _ => 0) := rfl
theorem hvS_av {now : Int} (d a : Nat) {M : List It} (h : okH now M) : avH d (hvS now a M) = hvS (now + d) a M := by
  unfold avH
  rw [hvS_len]
  refine byL_ext (fun e he => ?_)
  rw [buH_later d e h]
  by_cases g : d ≤ e
  · rw [if_pos g, if_pos g]; unfold hvS; rw [byL_at (by omega)]
  · rw [if_neg g, if_neg g]
theorem hvS_an {now : Int} (a : Nat) (v : Int) (M : List It) : anH v (hvS now a M) = hvS now a (M ++ [(now, v)]) := by
  unfold anH
  rw [hvS_len]
  refine byL_ext (fun e he => ?_)
  rw [buH_app]
  unfold hvS
  by_cases g : e = 0
  · subst g
    rw [if_pos rfl, byL_at he]
    show _ = _ + ((if now - now = ((0 : Nat) : Int) then v else 0) + 0)
    rw [if_pos (by omega)]; omega
  · rw [if_neg g, byL_at he]
    show _ = _ + ((if now - now = (e : Int) then v else 0) + 0)
    rw [if_neg (by omega)]; omega
theorem hvS_st {now : Int} {a : Nat} {M : List It} (h : okH now M) (ha : 1 ≤ a ∧ a ≤ 64) (hn : 0 ≤ now ∧ now ≤ 16777216) (hl : M.length ≤ 1000) : stH now (hvS now a M) = true := by
  rw [stH_iff, hvS_len]
  refine ⟨ha, hn, fun e he => ?_⟩
  unfold hvS
  rw [byL_at he]
  obtain ⟨b1, b2⟩ := buH_bd e h
  exact ⟨b1, by omega, fun q => buH_old q h⟩
/-- The sum of all items with their weights. -/
def wtH (now : Int) (a : Nat) (x : It) : Int := if now - x.1 < (a : Int) then x.2 * 2 ^ (a - 1 - (now - x.1).toNat) else 0
def sumH (now : Int) (a : Nat) : List It → Int
  | [] => 0
  | x :: M => wtH now a x + sumH now a M
theorem sumH_app (now : Int) (a : Nat) (A B : List It) : sumH now a (A ++ B) = sumH now a A + sumH now a B := by
  induction A with
  | nil => simp [sumH]
  | cons x A ih => simp only [List.cons_append, sumH, ih]; omega
theorem asF_buH {now : Int} (a : Nat) : ∀ {M : List It}, okH now M → asF a (fun e => buH now e M) a = sumH now a M := by
  intro M
  induction M with
  | nil => intro _; exact asF_zero a a
  | cons x M ih =>
    intro h
    have hx := h x List.mem_cons_self
    have e1 : asF a (fun e => buH now e (x :: M)) a = asF a (fun e => (if e = (now - x.1).toNat then x.2 else 0) + buH now e M) a := by
      refine asF_ext (fun e he => ?_)
      show (if now - x.1 = (e : Int) then x.2 else 0) + _ = _
      by_cases q : now - x.1 = (e : Int)
      · rw [if_pos q, if_pos (by omega)]
      · rw [if_neg q, if_neg (by omega)]
    rw [e1, asF_add, asF_one, ih h.tail]
    show _ = wtH now a x + _
    unfold wtH
    by_cases q : now - x.1 < (a : Int)
    · rw [if_pos q, if_pos (by omega)]
    · rw [if_neg q, if_neg (by omega)]
theorem asH_hvS {now : Int} (a : Nat) {M : List It} (h : okH now M) : asH (hvS now a M) = sumH now a M := by
  unfold asH
  rw [hvS_len, ← asF_buH a h]
  refine asF_ext (fun e he => ?_)
  unfold hvS
  rw [byL_at he]
theorem wtH_bd {now : Int} {a : Nat} {x : It} (ha : a ≤ 64) (h0 : 0 ≤ x.2) (h1 : x.2 ≤ 4096) : 0 ≤ wtH now a x ∧ wtH now a x ≤ 10141204801825835211973625643008 := by
  unfold wtH
  split
  · exact term_bd ha h0 (by omega)
  · exact ⟨by decide, by decide⟩
theorem sumH_bd {now : Int} {a : Nat} (ha : a ≤ 64) : ∀ {M : List It}, okH now M → 0 ≤ sumH now a M ∧ sumH now a M ≤ (M.length : Int) * 10141204801825835211973625643008 := by
  intro M
  induction M with
  | nil => intro _; exact ⟨Int.le_refl 0, by simp [sumH]⟩
  | cons x M ih =>
    intro h
    obtain ⟨i1, i2⟩ := ih h.tail
    have hx := h x List.mem_cons_self
    obtain ⟨w1, w2⟩ := wtH_bd (now := now) ha hx.2.2.1 hx.2.2.2
    simp only [sumH, List.length_cons]
    rw [show ((M.length + 1 : Nat) : Int) = (M.length : Int) + 1 by omega, Int.add_mul, Int.one_mul]
    exact ⟨by omega, by omega⟩
end Go.Proofs.Ytegaeaonoggmkaa

namespace Go.Proofs.Ytegaeaonoggmkaa
open Go.RowKit

theorem int_any (a n : Int) (hn : 1 ≤ n) (hn' : n ≤ 1000000) (w : World) :
    Calls Try.prog 24 #[.int .i64 a, .int .i64 n] w fun e w' => e = .returned (.int .i64 (a % n)) ∧ w = w' := by
  have K := Lib.hid (fun W => modm_any a n hn hn' W)
  generalize a % n = r at *
  go_enter Try.func24, Try.ntmps24
  go_wp2_with (go_at_call 27; (with_reducible refine (K.out _).mono ?_); rintro e w' ⟨rfl, rfl⟩)
  go_ret
  exact ⟨rfl, rfl⟩
end Go.Proofs.Ytegaeaonoggmkaa
