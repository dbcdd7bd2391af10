/- Texts of these claims, one after the other. -/
import Derived.Test.YtchikndofpkjmaaRows
import Derived.Test.YtchikndofpkjmaaZGBaseq18
namespace Go.Proofs.Ytchikndofpkjmaa
open Go.RowKit

theorem fl_length (L : List It) : (fl L).length = L.length * 2 := by
  induction L with
  | nil => rfl
  | cons p L ih => simp [fl, ih]; omega
theorem fl_append (L M : List It) : fl (L ++ M) = fl L ++ fl M := by
  induction L with
  | nil => rfl
  | cons p L ih => simp [fl, ih]
theorem fl_one (L : List It) : ∀ u ∈ fl L, u.oneCell' = true := by
  induction L with
  | nil => intro u hu; cases hu
  | cons p L ih =>
    intro u hu
    simp only [fl, List.mem_cons] at hu
    rcases hu with rfl | rfl | hu
    · rfl
    · rfl
    · exact ih u hu
section
variable {w w' : World} {g : Nat} {t : TypeId} {cs : Array Value}
end
theorem Bi.sl {w : World} {g n : Nat} {L : List It} (h : Bi w g L) (hn : L.length = n) : Sl w (some ⟨g, 0, none⟩) n L :=
  ⟨hn, fun _ => ⟨g, 0, rfl, fun j u hj => by rw [Nat.zero_add, Blk.cell h j]; simpa using hj⟩⟩
end Go.Proofs.Ytchikndofpkjmaa

namespace Go.Proofs.Ytchikndofpkjmaa
open Go.ChangeShapes Go.WideShapes Go.ChangeAt Go.RowKit Go.Joins Go.Deep

theorem item_cells : Try.prog.cellsOf 51 = 2 := by kernel_rfl
theorem int64_cells : Try.prog.cellsOf 2 = 1 := by kernel_rfl
section
variable {H : Type} {enc : TypeId × Value → H} {w : World} {base : Nat} {spare : Nat → Bool} {held : Bool}
end
end Go.Proofs.Ytchikndofpkjmaa

namespace Go.Proofs.Ytchikndofpkjmaa
open Go.RowKit

/-- A suffix of a valid list is valid. -/
theorem Va.suffix {P S : List It} {k : Int} (h : Va (P ++ S) k) : Va S k := by
  have hd := Ds.app.1 h.ds
  refine ⟨h.k1, h.k2, fun x hx => h.rg x (List.mem_append_right _ hx), hd.2.1, (As.app.1 h.as_).2.1, fun j => ?_, fun x hx j hj hjx => ?_⟩
  · have := h.up j; rw [cn_app] at this; omega
  · have := h.fl x (List.mem_append_right _ hx) j hj hjx
    rw [cn_app, cn_zero (X := P) (fun y hy => by have := hd.2.2 y hy x hx; omega)] at this
    omega
end Go.Proofs.Ytchikndofpkjmaa

namespace Go.Proofs.Ytchikndofpkjmaa
open Go.RowKit

theorem advance_any (now td x e : Int) (hx : (if tickB now = true then (if td < now ∨ 16777216 < td then (0, 3) else (td, 0)) else (0, 1)) = (x, e)) (w : World) :
    Calls Try.prog 50 #[.int .i64 now, .int .i64 td] w fun r w' => r = .returned (.tuple #[.int .i64 x, .int .i64 e]) ∧ w = w' := by
  have KT := Lib.hid (isTick_any now)
  cases ht : tickB now with
  | false =>
    rw [ht] at KT hx
    simp only [Bool.false_eq_true, if_false, Prod.mk.injEq] at hx
    obtain ⟨rfl, rfl⟩ := hx
    clear ht
    go_enter Try.func50, Try.ntmps50
    go_wp2_with (go_at_call 77; (with_reducible refine (KT.out _).mono ?_); rintro e w' ⟨rfl, rfl⟩)
    go_ret2
    exact ⟨rfl, rfl⟩
  | true =>
    rw [ht] at KT hx
    clear ht
    rw [if_pos rfl] at hx
    by_cases h : td < now
    · rw [if_pos (Or.inl h), Prod.mk.injEq] at hx
      obtain ⟨rfl, rfl⟩ := hx
      go_enter Try.func50, Try.ntmps50
      go_wp2_with (go_at_call 77; (with_reducible refine (KT.out _).mono ?_); rintro e w' ⟨rfl, rfl⟩)
      go_ret2
      exact ⟨rfl, rfl⟩
    · by_cases k : 16777216 < td
      · rw [if_pos (Or.inr k), Prod.mk.injEq] at hx
        obtain ⟨rfl, rfl⟩ := hx
        go_enter Try.func50, Try.ntmps50
        go_wp2_with (go_at_call 77; (with_reducible refine (KT.out _).mono ?_); rintro e w' ⟨rfl, rfl⟩)
        go_ret2
        exact ⟨rfl, rfl⟩
      · rw [if_neg (by omega), Prod.mk.injEq] at hx
        obtain ⟨rfl, rfl⟩ := hx
        go_enter Try.func50, Try.ntmps50
        go_wp2_with (go_at_call 77; (with_reducible refine (KT.out _).mono ?_); rintro e w' ⟨rfl, rfl⟩)
        go_ret2
        exact ⟨rfl, rfl⟩

end Go.Proofs.Ytchikndofpkjmaa

namespace Go.Proofs.Ytchikndofpkjmaa

theorem drL_map {α β : Type} (f : α → β) (lv : β → Bool) : ∀ R : List α, drL lv (R.map f) = (drL (fun x => lv (f x)) R).map f := by
  intro R
  induction R with
  | nil => rfl
  | cons a R ih =>
    cases R with
    | nil => simp only [List.map_cons, List.map_nil, drL]; split <;> rfl
    | cons b R =>
      simp only [List.map_cons, drL]
      split
      · rfl
      · exact ih
theorem drL_suffix {α : Type} (lv : α → Bool) : ∀ R : List α, ∃ Q, R = Q ++ drL lv R := by
  intro R
  induction R with
  | nil => exact ⟨[], rfl⟩
  | cons a R ih =>
    cases R with
    | nil =>
      simp only [drL]
      split
      · exact ⟨[], rfl⟩
      · exact ⟨[a], rfl⟩
    | cons b R =>
      simp only [drL]
      split
      · exact ⟨[], rfl⟩
      · obtain ⟨Q, e⟩ := ih; exact ⟨a :: Q, by rw [List.cons_append, ← e]⟩
theorem cutL_map {α β : Type} (g : α → β) (f : β → Bool) : ∀ R : List α, cutL f (R.map g) = (cutL (fun x => f (g x)) R).map g := by
  intro R
  induction R with
  | nil => rfl
  | cons x R ih =>
    simp only [List.map_cons, cutL, List.any_map]
    split
    next h => rw [if_pos (show (R.any fun x => f (g x)) = true from h)]; exact ih
    next h => rw [if_neg (show ¬ (R.any fun x => f (g x)) = true from h)]; rfl
theorem prL_map {α β : Type} (g : α → β) (cl : β → β → Bool) : ∀ (n : Nat) (R : List α), prL cl n (R.map g) = (prL (fun x y => cl (g x) (g y)) n R).map g := by
  intro n
  induction n with
  | zero => intro R; rfl
  | succ n ih =>
    intro R
    cases R with
    | nil => rfl
    | cons a R => simp only [List.map_cons, prL]; rw [cutL_map, ih]
end Go.Proofs.Ytchikndofpkjmaa
