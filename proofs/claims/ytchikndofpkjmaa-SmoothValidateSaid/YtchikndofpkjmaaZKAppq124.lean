/- Rows of marks of the call's own: append of a whole row. -/
import Derived.Test.YtchikndofpkjmaaRows
import Derived.Test.YtchikndofpkjmaaZIBaseq77
namespace Go.Proofs.Ytchikndofpkjmaa
open Go.RowKit
set_option linter.unusedVariables false

theorem mark_info : (Try.prog.info? 23).map (fun i => (i.zero, i.size, i.bytes)) = some (some (.agg #[.int .i64 0, .int .i64 0, .int .i64 0, .int .i64 0, .int .i64 0, .int .i64 0, .int .i64 0]), 7, 56) := by kernel_rfl
def OwM (w0 w : World) (v : Value) (n : Nat) (L : List Mrk) : Prop := OG cM 23 7 w0 w v n L
theorem appendM (ty : TypeId) (w0 w : World) (v : Value) (n : Nat) (L : List Mrk) (hO : OwM w0 w v n L) (hu : Up w0 w) (A : Option Addr) (m c : Nat) (M : List Mrk) (hS : SG cM w A m M) (hlen : n + m ≤ 1000000) :
    ∃ A' k' w', (Builtin.append_ #[24, 24] ty #[v, .slice A m c]).run Try.prog w = .ok (.slice A' (n + m) k') w' ∧ OwM w0 w' (.slice A' (n + m) k') (n + m) (L ++ M) ∧ Up w0 w' := by
  have hm : M.length = m := hS.1
  have hl0 : L.length = n := hO.1
  by_cases h0 : m = 0
  · subst h0
    have hM : M = [] := List.eq_nil_of_length_eq_zero hm
    subst hM
    obtain ⟨i, hi, hz, hs, hb⟩ := info_parts mark_info
    have ht := Try.underlying24
    have hl : ∀ (x : Addr), (loadCells x 0).run Try.prog w = .ok #[] w := fun x => by simpa using run_loadCells_list (P := Try.prog) w x [] (by simp)
    rcases hO.2.2 with ⟨h1, rfl⟩ | ⟨g, cap, cur, h1, _, hh, hnc, _⟩
    · subst h1
      refine ⟨none, 0, w, ?_, by simpa using hO, hu⟩
      cases A <;> simp [Builtin.append_, run_underlying ht, sizeOf, typeInfo, hi, Builtin.lenOf, Builtin.firstCells, hl]
    · subst h1
      refine ⟨_, cap, w, ?_, by simpa using hO, hu⟩
      cases A <;> simp [Builtin.append_, run_underlying ht, sizeOf, typeInfo, hi, Builtin.lenOf, Builtin.firstCells, hnc, storeCells, hl]
  · obtain ⟨b, o, rfl, hc⟩ := hS.2 (by omega)
    have hz : (Value.agg #[Value.int IntKind.i64 0, Value.int IntKind.i64 0, Value.int IntKind.i64 0, Value.int IntKind.i64 0, Value.int IntKind.i64 0, Value.int IntKind.i64 0, Value.int IntKind.i64 0]).cells.size = 7 := rfl
    obtain ⟨g', k', w', hr, h1, h2, h3, h4⟩ := appendG 24 23 ty _ 7 56 Try.underlying24 mark_info hz (by omega) w0 w v n (flG cM L) hO.2 hu b o m c (flG cM M) (by rw [flG_len cM_len, hm]) (by omega) hc (flG_one cM_one M) hlen
    rw [← flG_app] at h1
    exact ⟨_, k', w', hr, ⟨by rw [List.length_append, hl0, hm], h1⟩, h2⟩
/-- One mark that has just been made. -/
theorem oneM_row (w : World) (m : Mrk) : SG cM (w.alloc (.cells (cM m).toArray 23)) (some ⟨w.heap.size, 0, none⟩) 1 [m] := by
  refine ⟨rfl, fun _ => ⟨w.heap.size, 0, rfl, fun j u hj => ?_⟩⟩
  rw [Nat.zero_add, Blk.cell (Blk.new w _ _)]
  simpa [flG] using hj
theorem append1M (w0 w : World) (A : Option Addr) (n k : Nat) (L : List Mrk) (sq t nn s qq lo hi : Int) (hO : OwM w0 w (.slice A n k) n L) (hu : Up w0 w) (hn : n + 1 ≤ 1000000) :
    ∃ A' k' w', (Builtin.append_ #[24, 24] 24 #[.slice A n k, .slice (some ⟨w.heap.size, 0, none⟩) 1 1]).run Try.prog (w.alloc (.cells #[.int .i64 sq, .int .i64 t, .int .i64 nn, .int .i64 s, .int .i64 qq, .int .i64 lo, .int .i64 hi] 23)) = .ok (.slice A' (n + 1) k') w' ∧ OwM w0 w' (.slice A' (n + 1) k') (n + 1) (L ++ [⟨sq, t, nn, s, qq, lo, hi⟩]) ∧ Up w0 w' :=
  appendM 24 w0 (w.alloc (.cells #[.int .i64 sq, .int .i64 t, .int .i64 nn, .int .i64 s, .int .i64 qq, .int .i64 lo, .int .i64 hi] 23)) (.slice A n k) n L ⟨hO.1, hO.2.of_up ((Up.refl _).alloc _ _)⟩ (hu.alloc _ _) (some ⟨w.heap.size, 0, none⟩) 1 1 [⟨sq, t, nn, s, qq, lo, hi⟩] (oneM_row w ⟨sq, t, nn, s, qq, lo, hi⟩) hn
end Go.Proofs.Ytchikndofpkjmaa
