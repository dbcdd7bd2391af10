/- Texts of these claims, one after the other. -/
import Derived.Test.YtchikndofpkjmaaRows
import Derived.Test.YtchikndofpkjmaaZESqq43
import Derived.Test.YtchikndofpkjmaaZIBaseq77
namespace Go.Proofs.Ytchikndofpkjmaa
open Go.RowKit
set_option linter.unusedVariables false

theorem appendI (w0 w : World) (A : Option Addr) (n k : Nat) (L : List It) (p0 p1 : Int) (hO : Own w0 w (.slice A n k) n L) (hu : Up w0 w) (g : Nat) (hg0 : w.cell? ⟨g, 0, none⟩ = some (.int .i64 p0)) (hg1 : w.cell? ⟨g, 1, none⟩ = some (.int .i64 p1)) (hn : n + 1 ≤ 1000000) :
    ∃ g' k' w', (Builtin.append_ #[45, 45] 45 #[.slice A n k, .slice (some ⟨g, 0, none⟩) 1 1]).run Try.prog w = .ok (.slice (some ⟨g', 0, none⟩) (n + 1) k') w' ∧ Own w0 w' (.slice (some ⟨g', 0, none⟩) (n + 1) k') (n + 1) (L ++ [(p0, p1)]) ∧ Up w0 w' ∧
      (w.heap.size ≤ g' ∨ ∃ o, A = some ⟨g', o, none⟩) ∧ ∀ x o u, x ≠ g' → w.cell? ⟨x, o, none⟩ = some u → w'.cell? ⟨x, o, none⟩ = some u := by
  have hz : (Value.agg #[Value.int IntKind.i64 0, Value.int IntKind.i64 0]).cells.size = 2 := rfl
  obtain ⟨g', k', w', hr, h1, h2, h3, h4⟩ := appendG 45 51 45 _ 2 16 Try.underlying45 item_info hz (by omega) w0 w (.slice A n k) n (fl L) hO hu g 0 1 1 (fl [(p0, p1)]) rfl (by omega) (fun j u hj => by
    rw [Nat.zero_add]
    match j with
    | 0 => simp [fl] at hj; rw [hg0, hj]
    | 1 => simp [fl] at hj; rw [hg1, hj]
    | j + 2 => simp [fl] at hj) (fun u hu => by
      simp [fl] at hu
      rcases hu with rfl | rfl <;> rfl) hn
  rw [← fl_append] at h1
  refine ⟨g', k', w', hr, h1, h2, ?_, fun x o u hx hc => ?_⟩
  · rcases h3 with h | ⟨n0, k0, h⟩
    · exact Or.inl h
    · cases h; exact Or.inr ⟨0, rfl⟩
  · have hl := World.block_lt_of_cell? _ _ hc
    exact (World.cell?_of_block (a := ⟨x, o, none⟩) (h4 x hl hx)).trans hc
theorem Sl.stays {w w' : World} {A : Option Addr} {n g : Nat} {M : List It} (h : Sl w A n M) (hs : ∀ x o u, x ≠ g → w.cell? ⟨x, o, none⟩ = some u → w'.cell? ⟨x, o, none⟩ = some u) (hn : ∀ b o, A = some ⟨b, o, none⟩ → b < w.heap.size → b ≠ g) : Sl w' A n M := by
  refine ⟨h.1, fun h0 => ?_⟩
  obtain ⟨b, o, e, hc⟩ := h.2 h0
  exact ⟨b, o, e, fun j u hj => hs b _ u (hn b o e (World.block_lt_of_cell? _ _ (hc j u hj))) (hc j u hj)⟩
end Go.Proofs.Ytchikndofpkjmaa

namespace Go.Proofs.Ytchikndofpkjmaa
open Go.RowKit
set_option linter.unusedVariables false

section
variable {α : Type} {f : α → List Value} {s : Nat}
variable {w w' : World} {A : Option Addr} {n : Nat} {L : List α}
theorem SG.stays {g : Nat} (h : SG f w A n L) (hs : ∀ x o u, x ≠ g → w.cell? ⟨x, o, none⟩ = some u → w'.cell? ⟨x, o, none⟩ = some u) (hn : ∀ b o, A = some ⟨b, o, none⟩ → b < w.heap.size → b ≠ g) : SG f w' A n L := by
  refine ⟨h.1, fun h0 => ?_⟩
  obtain ⟨b, o, e, hc⟩ := h.2 h0
  exact ⟨b, o, e, fun j u hj => hs b _ u (hn b o e (World.block_lt_of_cell? _ _ (hc j u hj))) (hc j u hj)⟩
end
end Go.Proofs.Ytchikndofpkjmaa
