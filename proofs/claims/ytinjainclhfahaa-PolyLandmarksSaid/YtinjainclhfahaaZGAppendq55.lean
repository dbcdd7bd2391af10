/- Texts of these claims, one after the other. -/
import Derived.Test.YtinjainclhfahaaRows
import Derived.Test.YtinjainclhfahaaZNumq21
import Derived.Test.YtinjainclhfahaaZPStq84
namespace Go.Proofs.Ytinjainclhfahaa
open Go.RowKit

theorem append0_run (ty : TypeId) (w0 w : World) (g : Nat) (hO : Own w0 w (.slice (some ⟨g, 0, none⟩) 0 0) 0 []) (hu : Up w0 w) (A : Option Addr) (m c : Nat) (M : List It) (hS : Sl w A m M) (hlen : m ≤ 1000000) :
    ∃ v' w', (Builtin.append_ #[44, 44] ty #[.slice (some ⟨g, 0, none⟩) 0 0, .slice A m c]).run Try.prog w = .ok v' w' ∧ Own w0 w' v' m M ∧ Up w w' := by
  by_cases h0 : m = 0
  · subst h0
    obtain ⟨i, hi, hz, hs, hb⟩ := info_parts item_info
    have ht := Try.underlying44
    have hM : M = [] := List.eq_nil_of_length_eq_zero hS.1
    subst hM
    refine ⟨_, w, ?_, hO, Up.refl _⟩
    have hl : ∀ (x : Addr), (loadCells x 0).run Try.prog w = .ok #[] w := fun x => by simpa using run_loadCells_list (P := Try.prog) w x [] (by simp)
    cases A <;> simp [Builtin.append_, run_underlying ht, sizeOf, typeInfo, hi, Builtin.lenOf, Builtin.firstCells, storeCells, hl]
  · obtain ⟨i, hi, hz, hs, hb⟩ := info_parts item_info
    have ht := Try.underlying44
    have hm : M.length = m := hS.1
    obtain ⟨b, o, rfl, hc⟩ := hS.2 (by omega)
    have hnews : ∀ j u, (fl M)[j]? = some u → w.cell? ((⟨b, o, none⟩ : Addr).add j) = some u := fun j u hj => by rw [add_at]; exact hc j u hj
    have hl : (fl M).length = m * i.size := by rw [fl_length, hm, hs]
    have h63 : 0 + m ≤ maxLen := by simp only [maxLen]; omega
    have hr := run_append_grow (P := Try.prog) w 44 ty 53 i _ ht hi hz ⟨g, 0, none⟩ 0 0 [] (by simp) (by intro j u hj; simp at hj) ⟨b, o, none⟩ m c (fl M) hl hnews (by omega) (by omega) (growslice_fits (by omega) (by rw [hb]; omega))
    refine ⟨_, _, hr, ?_, (Up.refl w).drew.alloc _ _⟩
    have hge := grownCap_ge w (0 + m) 0 53
    have hcm : grownCap w (0 + m) 0 53 ≤ maxLen := grownCap_le_maxLen w (0 + m) 0 _ h63
    simp only [Nat.zero_add] at hge hcm ⊢
    refine ⟨by rw [fl_length, hm], .inr ⟨w.heap.size, _, _, rfl, hu.size, heap_alloc_new w.drew _, hge, hcm, ?_, ?_⟩⟩
    · simp only [Array.size_append, List.size_toArray, size_zeroCells, hl, hs, show (Value.agg #[Value.int .i64 0, Value.int .i64 0]).cells.size = 2 from rfl]
      simp only [List.length_nil]
      omega
    · simp only [Array.toList_append, List.append_assoc]
      have : (fl M).length = m * 2 := by rw [fl_length, hm]
      rw [← this]
      exact List.take_left

/-- Two orders of an empty row and a row of one item. -/
theorem own_empty' {w0 w : World} {g : Nat} (hg : g = w.heap.size) (h : w0.heap.size ≤ w.heap.size) : Own w0 (w.alloc (.cells #[] 53)) (.slice (some ⟨g, 0, none⟩) 0 0) 0 [] := by
  subst hg
  exact ⟨rfl, Or.inr ⟨w.heap.size, 0, #[], rfl, h, Blk.new w _ _, Nat.le_refl _, Nat.zero_le _, rfl, rfl⟩⟩
end Go.Proofs.Ytinjainclhfahaa

namespace Go.Proofs.Ytinjainclhfahaa

theorem moL_plus (land : Int) (n : Nat) (A B : List It) : plP (moL land n A) (moL land n B) = moL land n (A ++ B) := by
  unfold plP
  rw [moL_len]
  refine byL_ext (fun j hj => ?_)
  show (moL land n A).getD j 0 + (moL land n B).getD j 0 = _
  unfold moL
  rw [byL_at hj, byL_at hj, mom_app]
theorem moL_re (land d : Int) {n : Nat} (hn : n ≤ 5) (M : List It) : reP d (moL land n M) = moL (land - d) n M := by
  unfold reP
  rw [moL_len]
  refine byL_ext (fun j hj => ?_)
  have a0 : (moL land n M).getD 0 0 = momZ land 0 M := by unfold moL; rw [byL_at (by omega)]
  have a1 : 1 ≤ j → (moL land n M).getD 1 0 = momZ land 1 M := fun h => by unfold moL; rw [byL_at (by omega)]
  have a2 : 2 ≤ j → (moL land n M).getD 2 0 = momZ land 2 M := fun h => by unfold moL; rw [byL_at (by omega)]
  have a3 : 3 ≤ j → (moL land n M).getD 3 0 = momZ land 3 M := fun h => by unfold moL; rw [byL_at (by omega)]
  have a4 : 4 ≤ j → (moL land n M).getD 4 0 = momZ land 4 M := fun h => by unfold moL; rw [byL_at (by omega)]
  rcases (show j = 0 ∨ j = 1 ∨ j = 2 ∨ j = 3 ∨ j = 4 by omega) with h | h | h | h | h
  · subst h; rw [mom_re0]; simp only [reS, a0]; simp [chZ]
  · subst h; rw [mom_re1]; simp only [reS, a0, a1 (by omega)]; simp [chZ]; try grind
  · subst h; rw [mom_re2]; simp only [reS, a0, a1 (by omega), a2 (by omega)]; simp [chZ]; try grind
  · subst h; rw [mom_re3]; simp only [reS, a0, a1 (by omega), a2 (by omega), a3 (by omega)]; simp [chZ]; try grind
  · subst h; rw [mom_re4]; simp only [reS, a0, a1 (by omega), a2 (by omega), a3 (by omega), a4 (by omega)]; simp [chZ]; try grind
theorem okM.early {land land' now : Int} {M : List It} (h : okM land now M) (hn : land' ≤ land) : okM land' now M := fun x hx => by have := h x hx; omega
theorem okM.app {land now : Int} {A B : List It} (h : okM land now A) (h2 : okM land now B) : okM land now (A ++ B) := fun x hx => (List.mem_append.1 hx).elim (h x) (h2 x)
end Go.Proofs.Ytinjainclhfahaa
