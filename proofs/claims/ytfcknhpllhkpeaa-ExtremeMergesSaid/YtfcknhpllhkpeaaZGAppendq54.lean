/- append onto an empty row: nothing that was there changes; and where a walk over RingQueue is. -/
import Derived.Test.YtfcknhpllhkpeaaRows
import Derived.Test.YtfcknhpllhkpeaaZGLawq24
namespace Go.Proofs.Ytfcknhpllhkpeaa
open Go.RowKit

theorem append0_run (ty : TypeId) (w0 w : World) (g : Nat) (hO : Own w0 w (.slice (some ⟨g, 0, none⟩) 0 0) 0 []) (hu : Up w0 w) (A : Option Addr) (m c : Nat) (M : List It) (hS : Sl w A m M) (hlen : m ≤ 1000000) :
    ∃ v' w', (Builtin.append_ #[22, 22] ty #[.slice (some ⟨g, 0, none⟩) 0 0, .slice A m c]).run Try.prog w = .ok v' w' ∧ Own w0 w' v' m M ∧ Up w w' := by
  by_cases h0 : m = 0
  · subst h0
    obtain ⟨i, hi, hz, hs, hb⟩ := info_parts item_info
    have ht := Try.underlying22
    have hM : M = [] := List.eq_nil_of_length_eq_zero hS.1
    subst hM
    refine ⟨_, w, ?_, hO, Up.refl _⟩
    have hl : ∀ (x : Addr), (loadCells x 0).run Try.prog w = .ok #[] w := fun x => by simpa using run_loadCells_list (P := Try.prog) w x [] (by simp)
    cases A <;> simp [Builtin.append_, run_underlying ht, sizeOf, typeInfo, hi, Builtin.lenOf, Builtin.firstCells, storeCells, hl]
  · obtain ⟨i, hi, hz, hs, hb⟩ := info_parts item_info
    have ht := Try.underlying22
    have hm : M.length = m := hS.1
    obtain ⟨b, o, rfl, hc⟩ := hS.2 (by omega)
    have hnews : ∀ j u, (fl M)[j]? = some u → w.cell? ((⟨b, o, none⟩ : Addr).add j) = some u := fun j u hj => by rw [add_at]; exact hc j u hj
    have hl : (fl M).length = m * i.size := by rw [fl_length, hm, hs]
    have h63 : 0 + m ≤ maxLen := by simp only [maxLen]; omega
    have hr := run_append_grow (P := Try.prog) w 22 ty 41 i _ ht hi hz ⟨g, 0, none⟩ 0 0 [] (by simp) (by intro j u hj; simp at hj) ⟨b, o, none⟩ m c (fl M) hl hnews (by omega) (by omega) (growslice_fits (by omega) (by rw [hb]; omega))
    refine ⟨_, _, hr, ?_, (Up.refl w).drew.alloc _ _⟩
    have hge := grownCap_ge w (0 + m) 0 41
    have hcm : grownCap w (0 + m) 0 41 ≤ maxLen := grownCap_le_maxLen w (0 + m) 0 _ h63
    simp only [Nat.zero_add] at hge hcm ⊢
    refine ⟨by rw [fl_length, hm], .inr ⟨w.heap.size, _, _, rfl, hu.size, heap_alloc_new w.drew _, hge, hcm, ?_, ?_⟩⟩
    · simp only [Array.size_append, List.size_toArray, size_zeroCells, hl, hs, show (Value.agg #[Value.int .i64 0, Value.int .i64 0]).cells.size = 2 from rfl]
      simp only [List.length_nil]
      omega
    · simp only [Array.toList_append, List.append_assoc]
      have : (fl M).length = m * 2 := by rw [fl_length, hm]
      rw [← this]
      exact List.take_left

theorem one_new' (w : World) (p0 p1 : Int) {g : Nat} (hg : g = w.heap.size) : Sl (w.alloc (.cells #[.int .i64 p0, .int .i64 p1] 41)) (some ⟨g, 0, none⟩) 1 [(p0, p1)] := by
  subst hg; exact one_new w p0 p1
end Go.Proofs.Ytfcknhpllhkpeaa
