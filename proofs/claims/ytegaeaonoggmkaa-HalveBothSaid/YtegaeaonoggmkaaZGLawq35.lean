/- make, copy and append of slices of items: run equations, and laws for a walk. -/
import Derived.Test.YtegaeaonoggmkaaRows
import Derived.Test.YtegaeaonoggmkaaZGBaseq11
import Derived.Test.YtegaeaonoggmkaaZGLawq34
namespace Go.Proofs.Ytegaeaonoggmkaa
open Go.RowKit

theorem item_info : (Try.prog.info? 69).map (fun i => (i.zero, i.size, i.bytes)) = some (some (.agg #[.int .i64 0, .int .i64 0]), 2, 16) := by kernel_rfl
theorem Own.sl {w0 w : World} {v : Value} {n : Nat} {L : List It} (h : Own w0 w v n L) : ∃ A c, v = .slice A n c ∧ n ≤ c ∧ Sl w A n L := by
  have hn : L.length = n := by have := h.1; rw [fl_length] at this; omega
  rcases h.2 with ⟨rfl, rfl⟩ | ⟨g, cap, cur, rfl, _, hh, hc, _, hs, ht⟩
  · exact ⟨none, 0, rfl, Nat.le_refl _, hn, fun hx => absurd hx (by omega)⟩
  · refine ⟨some ⟨g, 0, none⟩, cap, rfl, hc, hn, fun _ => ⟨g, 0, rfl, fun j u hj => ?_⟩⟩
    rw [Nat.zero_add, cell_of_row w g j cur _ (0, 0) hh]
    rw [← ht, List.getElem?_take] at hj
    split at hj
    · simpa using hj
    · cases hj
theorem append_run (ty : TypeId) (w0 w : World) (v : Value) (n : Nat) (L : List It) (hO : Own w0 w v n L) (hu : Up w0 w) (A : Option Addr) (m c : Nat) (M : List It) (hS : Sl w A m M) (hlen : n + m ≤ 1000000) :
    ∃ v' w', (Builtin.append_ #[43, 43] ty #[v, .slice A m c]).run Try.prog w = .ok v' w' ∧ Own w0 w' v' (n + m) (L ++ M) ∧ Up w0 w' := by
  obtain ⟨i, hi, hz, hs, hb⟩ := info_parts item_info
  have ht := Try.underlying43
  have h63 : n + m ≤ maxLen := by simp only [maxLen]; omega
  have hm : M.length = m := hS.1
  have hbase := hu.size
  have hfl : (fl L ++ fl M).length = (n + m) * 2 := by rw [List.length_append, hO.1, fl_length, hm]; omega
  unfold Own
  rw [fl_append]
  by_cases h0 : m = 0
  · subst h0
    have hM : M = [] := List.eq_nil_of_length_eq_zero hm
    subst hM
    refine ⟨v, w, ?_, by have := hO; unfold Own at this; simpa [fl] using this, hu⟩
    have hl : ∀ (x : Addr), (loadCells x 0).run Try.prog w = .ok #[] w := fun x => by simpa using run_loadCells_list (P := Try.prog) w x [] (by simp)
    rcases hO.2 with ⟨rfl, rfl⟩ | ⟨g, cap, cur, rfl, _, hh, hnc, _⟩
    · cases A <;> simp [Builtin.append_, run_underlying ht, sizeOf, typeInfo, hi, Builtin.lenOf, Builtin.firstCells, hl]
    · cases A <;> simp [Builtin.append_, run_underlying ht, sizeOf, typeInfo, hi, Builtin.lenOf, Builtin.firstCells, hnc, storeCells, hl]
  · obtain ⟨b, o, rfl, hc⟩ := hS.2 (by omega)
    have hnews : ∀ j u, (fl M)[j]? = some u → w.cell? ((⟨b, o, none⟩ : Addr).add j) = some u := fun j u hj => by rw [add_at]; exact hc j u hj
    have hl : (fl M).length = m * i.size := by rw [fl_length, hm, hs]
    have grown : ∀ (old : Nat), old < n + m →
      (w.drew.alloc (.cells ((fl L).toArray ++ (fl M).toArray ++ Builtin.zeroCells #[.int .i64 0, .int .i64 0] (grownCap w (n + m) old 69 - (n + m))) 69)).ownsRow w0.heap.size 69 2
        (.slice (some ⟨w.heap.size, 0, none⟩) (n + m) (grownCap w (n + m) old 69)) (n + m) (fl L ++ fl M) := by
      intro old ho
      have hge := grownCap_ge w (n + m) old 69
      have hcm : grownCap w (n + m) old 69 ≤ maxLen := grownCap_le_maxLen w (n + m) old _ h63
      refine ⟨hfl, .inr ⟨w.heap.size, _, _, rfl, hbase, heap_alloc_new w.drew _, hge, hcm, ?_, ?_⟩⟩
      · simp only [Array.size_append, List.size_toArray, size_zeroCells, hO.1, hl, hs]
        simp only [List.length_cons, List.length_nil]
        omega
      · simp only [Array.toList_append, List.append_assoc]
        rw [← List.append_assoc, ← hfl]
        exact List.take_left
    rcases hO.2 with ⟨rfl, rfl⟩ | ⟨g, cap, cur, rfl, hbg, hg, hnc, hcm, hcs, htake⟩
    · have hx : fl L = [] := List.eq_nil_of_length_eq_zero (by simpa using hO.1)
      have hr := run_append_nil (P := Try.prog) w 43 ty 69 i _ ht hi hz ⟨b, o, none⟩ m c (fl M) hl hnews (by omega) (by omega) (by rw [hb]; omega)
      have hgr := grown 0 (by omega)
      rw [hx] at hgr ⊢
      simp only [Nat.zero_add, List.nil_append, Array.empty_append] at hgr ⊢
      exact ⟨_, _, hr, hgr, hu.drew.alloc _ _⟩
    · by_cases hroom : n + m ≤ cap
      · have hfit : n * i.size + (fl M).length ≤ cur.size := by rw [hl, hcs, hs, ← Nat.add_mul]; exact Nat.mul_le_mul_right _ hroom
        have hr := run_append_room (P := Try.prog) w 43 ty 69 i ht hi g n cap cur hg ⟨b, o, none⟩ m c (fl M) hl hnews (fl_one _) hroom hfit
        obtain ⟨h1, h2⟩ := Cp.set w g cur (cur.toList.take (n * i.size) ++ fl M ++ cur.toList.drop (n * i.size + (fl M).length)).toArray _ hg
        refine ⟨_, _, hr, ⟨hfl, .inr ⟨g, cap, _, rfl, hbg, h2, hroom, hcm, ?_, ?_⟩⟩, h1.up w0 hu hbg⟩
        · simp only [List.size_toArray, List.length_append, List.length_take, List.length_drop, Array.length_toList]
          omega
        · rw [hs, htake, ← hfl]
          exact List.take_left
      · have holds : ∀ j u, (fl L)[j]? = some u → w.cell? ((⟨g, 0, none⟩ : Addr).add j) = some u := World.ownsRow.cells (g := g) hO rfl
        have hr := run_append_grow (P := Try.prog) w 43 ty 69 i _ ht hi hz ⟨g, 0, none⟩ n cap (fl L) (by rw [hs]; exact hO.1) holds ⟨b, o, none⟩ m c (fl M) hl hnews (by omega) (by omega) (growslice_fits (by omega) (by rw [hb]; omega))
        exact ⟨_, _, hr, grown cap (by omega), hu.drew.alloc _ _⟩

theorem one_new (w : World) (p0 p1 : Int) : Sl (w.alloc (.cells #[.int .i64 p0, .int .i64 p1] 69)) (some ⟨w.heap.size, 0, none⟩) 1 [(p0, p1)] :=
  Bi.sl (L := [(p0, p1)]) (Blk.new w _ _) rfl

section
variable {w w1 w2 : World} {p g : Nat}
end

section
variable {w w' : World} {p g c h l : Nat} {L : List It}
end
end Go.Proofs.Ytegaeaonoggmkaa
