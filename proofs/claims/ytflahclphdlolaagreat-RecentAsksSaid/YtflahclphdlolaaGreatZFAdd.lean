/- What Add of package recent returns. -/
import Derived.Test.YtflahclphdlolaaGreatZFAdv
import Derived.Test.YtflahclphdlolaaGreatZFBase
import Derived.Test.YtflahclphdlolaaGreatZG0a
import Derived.Test.YtflahclphdlolaaGreatZG2a
import Derived.Test.YtflahclphdlolaaGreatZG4a
import Derived.Test.YtflahclphdlolaaGreatZGLaw
import Derived.Test.YtflahclphdlolaaGreatZJFVal
namespace Go.Proofs.YtflahclphdlolaaGreat
open Go.RowKit

/-- append of one item onto a slice without room: a new block. -/
theorem appendF_run (ty : TypeId) (w0 w : World) (A : Option Addr) (n : Nat) (L : List It) (hS : Sl w A n L) (hu : Up w0 w) (g : Nat) (p0 p1 : Int) (hg : Sl w (some ⟨g, 0, none⟩) 1 [(p0, p1)]) (hn : n ≤ 100000) :
    ∃ g' k' w', (Builtin.append_ #[22, 22] ty #[.slice A n n, .slice (some ⟨g, 0, none⟩) 1 1]).run Tryz.prog w = .ok (.slice (some ⟨g', 0, none⟩) (n + 1) k') w' ∧ n + 1 ≤ k' ∧ Own w0 w' (.slice (some ⟨g', 0, none⟩) (n + 1) k') (n + 1) (L ++ [(p0, p1)]) ∧ Up w w' := by
  obtain ⟨i, hi, hz, hs, hb⟩ := info_parts item_info
  have ht := Tryz.underlying22
  have hL := hS.1
  have hnews : ∀ j u, (fl [(p0, p1)])[j]? = some u → w.cell? ((⟨g, 0, none⟩ : Addr).add j) = some u := by
    obtain ⟨b, o, e, hc⟩ := hg.2 (by omega)
    cases e
    intro j u hj
    rw [add_at]
    exact hc j u hj
  have hl : (fl [(p0, p1)]).length = 1 * i.size := by rw [fl_length, hs]; rfl
  have h63 : n + 1 ≤ maxLen := by simp only [maxLen]; omega
  have hfl : (fl (L ++ [(p0, p1)])).length = (n + 1) * 2 := by rw [fl_length, List.length_append, hL]; rfl
  have grown : Own w0 (w.drew.alloc (.cells ((fl L).toArray ++ (fl [(p0, p1)]).toArray ++ Builtin.zeroCells (Value.agg #[Value.int .i64 0, Value.int .i64 0]).cells (grownCap w (n + 1) n 70 - (n + 1))) 70))
      (.slice (some ⟨w.heap.size, 0, none⟩) (n + 1) (grownCap w (n + 1) n 70)) (n + 1) (L ++ [(p0, p1)]) := by
    have hge := grownCap_ge w (n + 1) n 70
    have hcm : grownCap w (n + 1) n 70 ≤ maxLen := grownCap_le_maxLen w (n + 1) n _ h63
    refine ⟨hfl, .inr ⟨w.heap.size, _, _, rfl, hu.size, heap_alloc_new w.drew _, hge, hcm, ?_, ?_⟩⟩
    · simp only [Array.size_append, List.size_toArray, size_zeroCells, fl_length, hL, show (Value.agg #[Value.int .i64 0, Value.int .i64 0]).cells.size = 2 from rfl]
      simp only [List.length_cons, List.length_nil]
      omega
    · simp only [Array.toList_append, List.append_assoc]
      rw [← List.append_assoc, ← fl_append, ← hfl]
      exact List.take_left
  have holds : ∀ a, A = some a → ∀ j u, (fl L)[j]? = some u → w.cell? (a.add j) = some u := by
    intro a ha j u hj
    have hn0 : 0 < n := by
      rcases Nat.eq_zero_or_pos n with h | h
      · rw [h] at hL
        rw [List.length_eq_zero_iff.1 hL] at hj
        cases hj
      · exact h
    obtain ⟨b, o, e, hc⟩ := hS.2 hn0
    rw [ha] at e
    cases e
    rw [add_at]
    exact hc j u hj
  cases A with
  | none =>
    have h0 : n = 0 := by
      rcases Nat.eq_zero_or_pos n with h | h
      · exact h
      · obtain ⟨b, o, e, _⟩ := hS.2 h; cases e
    subst h0
    have hx : L = [] := List.eq_nil_of_length_eq_zero hL
    subst hx
    have hr := run_append_nil (P := Tryz.prog) w 22 ty 70 i _ ht hi hz ⟨g, 0, none⟩ 1 1 (fl [(p0, p1)]) hl hnews (by omega) (by omega) (by rw [hb]; omega)
    simp only [Nat.zero_add] at grown ⊢
    refine ⟨_, _, _, hr, grownCap_ge w 1 0 _, ?_, (Up.refl w).drew.alloc _ _⟩
    simpa [fl] using grown
  | some a =>
    have hr := run_append_grow (P := Tryz.prog) w 22 ty 70 i _ ht hi hz a n n (fl L) (by rw [fl_length, hL, hs]) (holds a rfl) ⟨g, 0, none⟩ 1 1 (fl [(p0, p1)]) hl hnews (by omega) (by omega) (growslice_fits (by omega) (by rw [hb]; omega))
    exact ⟨_, _, _, hr, grownCap_ge w (n + 1) n _, grown, (Up.refl w).drew.alloc _ _⟩

theorem slice3_run (A : Option Addr) (n k : Nat) (hk : n ≤ k) (w : World) : (Instr.slice 22 (.slice A n k) none (some (.int .i64 n)) (some (.int .i64 n))).run Tryz.prog w = .ok (.slice A n n) w := by
  have qs := Tryz.sizeOf70
  have ht := Tryz.underlying22
  have e0 : A.map (·.add 0) = A := by cases A <;> simp [Addr.add]
  have h1 : (n : Int) ≤ k := by omega
  simp [Instr.slice, run_underlying ht, Instr.sliceBounds, run_sliceBound, qs, e0, h1, Int.natCast_nonneg]

set_option maxHeartbeats 4000000 in
set_option maxRecDepth 100000 in
theorem add9_bad (v c now x : Int) (n k : Nat) (A : Option Addr) (L : List It) (hv : stB v c now L = false) (w : World) (hS : Sl w A n L) :
    Calls Tryz.prog 10 #[.agg #[.int .i64 v, .int .i64 c, .int .i64 now, .slice A n k], .int .i64 x] w fun e w' => e = .returned (.tuple #[.agg #[.int .i64 0, .int .i64 0, .int .i64 0, .slice none 0 0], .int .i64 2]) ∧ Up w w' := by
  have KV := Lib.hid (fun W (h : Sl W A n L) => validate9_up v c now n k A L W h)
  rw [stE_no hv] at KV
  have HS := Lib.hid hS
  clear hS hv
  go_enter Tryz.func10, Tryz.ntmps10
  go_wp2_with (go_at_call 11; (with_reducible refine (KV.out _ (HS.out.up (((Up.refl w).alloc _ _).alloc _ _))).mono ?_); rintro e w1 ⟨rfl, hu⟩; have HU1 := Lib.hid ((((Up.refl w).alloc #[.int .i64 v, .int .i64 c, .int .i64 now, .slice A n k] 24).alloc #[.int .i64 0, .int .i64 0, .int .i64 0, .slice none 0 0] 24).trans hu); have c00 := hu.keep (w.heap.size) 0 (.int .i64 v) (by simp [go_sem]); have c01 := hu.keep (w.heap.size) 1 (.int .i64 c) (by simp [go_sem]); have c02 := hu.keep (w.heap.size) 2 (.int .i64 now) (by simp [go_sem]); have c03 := hu.keep (w.heap.size) 3 (.slice A n k) (by simp [go_sem]); have c10 := hu.keep (w.heap.size + 1) 0 (.int .i64 0) (by simp [go_sem]); have c11 := hu.keep (w.heap.size + 1) 1 (.int .i64 0) (by simp [go_sem]); have c12 := hu.keep (w.heap.size + 1) 2 (.int .i64 0) (by simp [go_sem]); have c13 := hu.keep (w.heap.size + 1) 3 (.slice none 0 0) (by simp [go_sem]); have z00 := HU1.out.ownGe (g := w.heap.size) (Nat.le_refl _) 0; have z01 := HU1.out.ownGe (g := w.heap.size) (Nat.le_refl _) 1; have z02 := HU1.out.ownGe (g := w.heap.size) (Nat.le_refl _) 2; have z03 := HU1.out.ownGe (g := w.heap.size) (Nat.le_refl _) 3; have z10 := HU1.out.ownGe (g := w.heap.size + 1) (by omega) 0; have z11 := HU1.out.ownGe (g := w.heap.size + 1) (by omega) 1; have z12 := HU1.out.ownGe (g := w.heap.size + 1) (by omega) 2; have z13 := HU1.out.ownGe (g := w.heap.size + 1) (by omega) 3; have hlt : w.heap.size + 1 < w1.heap.size := World.block_lt_of_cell? _ _ c10; have hlt0 : w.heap.size < w1.heap.size := Nat.lt_of_succ_lt hlt; clear hu)
  refine bodyPost_ret (v := .tuple #[.agg #[.int .i64 0, .int .i64 0, .int .i64 0, .slice none 0 0], .int .i64 2]) (by simp [results, Tryz.results10, go_sem, c10, c11, c12, c13]) rfl ⟨rfl, ?_⟩
  exact HU1.out.set4 (by omega)

set_option maxHeartbeats 4000000 in
set_option maxRecDepth 100000 in
theorem add9_range (v c now x : Int) (n k : Nat) (A : Option Addr) (L : List It) (hv : stB v c now L = true) (hx : valueB x = false) (w : World) (hS : Sl w A n L) :
    Calls Tryz.prog 10 #[.agg #[.int .i64 v, .int .i64 c, .int .i64 now, .slice A n k], .int .i64 x] w fun e w' => e = .returned (.tuple #[.agg #[.int .i64 0, .int .i64 0, .int .i64 0, .slice none 0 0], .int .i64 4]) ∧ Up w w' := by
  have KV := Lib.hid (fun W (h : Sl W A n L) => validate9_up v c now n k A L W h)
  rw [stE_yes hv] at KV
  have HS := Lib.hid hS
  have KA := Lib.hid (value_any x)
  rw [hx] at KA
  clear hS hv hx
  go_enter Tryz.func10, Tryz.ntmps10
  go_wp2_with (first | (go_at_call 34; (with_reducible refine (KA.out _).mono ?_); rintro e w2 ⟨rfl, rfl⟩) | (go_at_call 11; (with_reducible refine (KV.out _ (HS.out.up (((Up.refl w).alloc _ _).alloc _ _))).mono ?_); rintro e w1 ⟨rfl, hu⟩; have HU1 := Lib.hid ((((Up.refl w).alloc #[.int .i64 v, .int .i64 c, .int .i64 now, .slice A n k] 24).alloc #[.int .i64 0, .int .i64 0, .int .i64 0, .slice none 0 0] 24).trans hu); have c00 := hu.keep (w.heap.size) 0 (.int .i64 v) (by simp [go_sem]); have c01 := hu.keep (w.heap.size) 1 (.int .i64 c) (by simp [go_sem]); have c02 := hu.keep (w.heap.size) 2 (.int .i64 now) (by simp [go_sem]); have c03 := hu.keep (w.heap.size) 3 (.slice A n k) (by simp [go_sem]); have c10 := hu.keep (w.heap.size + 1) 0 (.int .i64 0) (by simp [go_sem]); have c11 := hu.keep (w.heap.size + 1) 1 (.int .i64 0) (by simp [go_sem]); have c12 := hu.keep (w.heap.size + 1) 2 (.int .i64 0) (by simp [go_sem]); have c13 := hu.keep (w.heap.size + 1) 3 (.slice none 0 0) (by simp [go_sem]); have z00 := HU1.out.ownGe (g := w.heap.size) (Nat.le_refl _) 0; have z01 := HU1.out.ownGe (g := w.heap.size) (Nat.le_refl _) 1; have z02 := HU1.out.ownGe (g := w.heap.size) (Nat.le_refl _) 2; have z03 := HU1.out.ownGe (g := w.heap.size) (Nat.le_refl _) 3; have z10 := HU1.out.ownGe (g := w.heap.size + 1) (by omega) 0; have z11 := HU1.out.ownGe (g := w.heap.size + 1) (by omega) 1; have z12 := HU1.out.ownGe (g := w.heap.size + 1) (by omega) 2; have z13 := HU1.out.ownGe (g := w.heap.size + 1) (by omega) 3; have hlt : w.heap.size + 1 < w1.heap.size := World.block_lt_of_cell? _ _ c10; have hlt0 : w.heap.size < w1.heap.size := Nat.lt_of_succ_lt hlt; clear hu))
  refine bodyPost_ret (v := .tuple #[.agg #[.int .i64 0, .int .i64 0, .int .i64 0, .slice none 0 0], .int .i64 4]) (by simp [results, Tryz.results10, go_sem, c10, c11, c12, c13]) rfl ⟨rfl, ?_⟩
  exact HU1.out.set4 (by omega)

set_option maxHeartbeats 4000000 in
set_option maxRecDepth 100000 in
theorem add9_full (v c now x : Int) (n k : Nat) (A : Option Addr) (L : List It) (hv : stB v c now L = true) (hx : valueB x = true) (hf : (n : Int) = c) (w : World) (hS : Sl w A n L) :
    Calls Tryz.prog 10 #[.agg #[.int .i64 v, .int .i64 c, .int .i64 now, .slice A n k], .int .i64 x] w fun e w' => e = .returned (.tuple #[.agg #[.int .i64 0, .int .i64 0, .int .i64 0, .slice none 0 0], .int .i64 5]) ∧ Up w w' := by
  have KV := Lib.hid (fun W (h : Sl W A n L) => validate9_up v c now n k A L W h)
  rw [stE_yes hv] at KV
  have HS := Lib.hid hS
  have KA := Lib.hid (value_any x)
  rw [hx] at KA
  have t1 : ((n : Int) == c) = true := by simp [hf]
  clear hS hv hx hf
  go_enter Tryz.func10, Tryz.ntmps10
  go_wp2_with (first | (go_at_call 34; (with_reducible refine (KA.out _).mono ?_); rintro e w2 ⟨rfl, rfl⟩) | (go_at_call 11; (with_reducible refine (KV.out _ (HS.out.up (((Up.refl w).alloc _ _).alloc _ _))).mono ?_); rintro e w1 ⟨rfl, hu⟩; have HU1 := Lib.hid ((((Up.refl w).alloc #[.int .i64 v, .int .i64 c, .int .i64 now, .slice A n k] 24).alloc #[.int .i64 0, .int .i64 0, .int .i64 0, .slice none 0 0] 24).trans hu); have c00 := hu.keep (w.heap.size) 0 (.int .i64 v) (by simp [go_sem]); have c01 := hu.keep (w.heap.size) 1 (.int .i64 c) (by simp [go_sem]); have c02 := hu.keep (w.heap.size) 2 (.int .i64 now) (by simp [go_sem]); have c03 := hu.keep (w.heap.size) 3 (.slice A n k) (by simp [go_sem]); have c10 := hu.keep (w.heap.size + 1) 0 (.int .i64 0) (by simp [go_sem]); have c11 := hu.keep (w.heap.size + 1) 1 (.int .i64 0) (by simp [go_sem]); have c12 := hu.keep (w.heap.size + 1) 2 (.int .i64 0) (by simp [go_sem]); have c13 := hu.keep (w.heap.size + 1) 3 (.slice none 0 0) (by simp [go_sem]); have z00 := HU1.out.ownGe (g := w.heap.size) (Nat.le_refl _) 0; have z01 := HU1.out.ownGe (g := w.heap.size) (Nat.le_refl _) 1; have z02 := HU1.out.ownGe (g := w.heap.size) (Nat.le_refl _) 2; have z03 := HU1.out.ownGe (g := w.heap.size) (Nat.le_refl _) 3; have z10 := HU1.out.ownGe (g := w.heap.size + 1) (by omega) 0; have z11 := HU1.out.ownGe (g := w.heap.size + 1) (by omega) 1; have z12 := HU1.out.ownGe (g := w.heap.size + 1) (by omega) 2; have z13 := HU1.out.ownGe (g := w.heap.size + 1) (by omega) 3; have hlt : w.heap.size + 1 < w1.heap.size := World.block_lt_of_cell? _ _ c10; have hlt0 : w.heap.size < w1.heap.size := Nat.lt_of_succ_lt hlt; clear hu))
  refine bodyPost_ret (v := .tuple #[.agg #[.int .i64 0, .int .i64 0, .int .i64 0, .slice none 0 0], .int .i64 5]) (by simp [results, Tryz.results10, go_sem, c10, c11, c12, c13]) rfl ⟨rfl, ?_⟩
  exact HU1.out.set4 (by omega)

set_option maxHeartbeats 4000000 in
set_option maxRecDepth 100000 in
theorem add9_good (v c now x : Int) (n k : Nat) (A : Option Addr) (L : List It) (hk : n ≤ k) (hv : stB v c now L = true) (hx : valueB x = true) (hf : (n : Int) ≠ c) (w : World) (hS : Sl w A n L) :
    Calls Tryz.prog 10 #[.agg #[.int .i64 v, .int .i64 c, .int .i64 now, .slice A n k], .int .i64 x] w fun e w' => ∃ g' k', e = .returned (.tuple #[.agg #[.int .i64 v, .int .i64 c, .int .i64 now, .slice (some ⟨g', 0, none⟩) (n + 1) k'], .int .i64 0]) ∧ n + 1 ≤ k' ∧ Nw w (some ⟨g', 0, none⟩) ∧ Sl w' (some ⟨g', 0, none⟩) (n + 1) (L ++ [(now, x)]) ∧ Up w w' := by
  have KV := Lib.hid (fun W (h : Sl W A n L) => validate9_up v c now n k A L W h)
  rw [stE_yes hv] at KV
  have HS := Lib.hid hS
  have hn : n ≤ 65536 := by
    have := stB_true hv
    have h3 := (mayB_true this.1).2.2.2
    have h4 := this.2.1
    rw [hS.1] at h4
    omega
  have KA := Lib.hid (value_any x)
  rw [hx] at KA
  have t1 : ((n : Int) == c) = false := by simp [hf]
  have hsl := slice3_run A n k hk
  clear hS hv hx hf
  go_enter Tryz.func10, Tryz.ntmps10
  go_wp2_with (first | (go_at_call 34; (with_reducible refine (KA.out _).mono ?_); rintro e w1 ⟨rfl, rfl⟩) | (go_at_call 11; (with_reducible refine (KV.out _ (HS.out.up (((Up.refl w).alloc _ _).alloc _ _))).mono ?_); rintro e w1 ⟨rfl, hu⟩; have HU1 := Lib.hid ((((Up.refl w).alloc #[.int .i64 v, .int .i64 c, .int .i64 now, .slice A n k] 24).alloc #[.int .i64 0, .int .i64 0, .int .i64 0, .slice none 0 0] 24).trans hu); have c00 := hu.keep (w.heap.size) 0 (.int .i64 v) (by simp [go_sem]); have c01 := hu.keep (w.heap.size) 1 (.int .i64 c) (by simp [go_sem]); have c02 := hu.keep (w.heap.size) 2 (.int .i64 now) (by simp [go_sem]); have c03 := hu.keep (w.heap.size) 3 (.slice A n k) (by simp [go_sem]); have c10 := hu.keep (w.heap.size + 1) 0 (.int .i64 0) (by simp [go_sem]); have c11 := hu.keep (w.heap.size + 1) 1 (.int .i64 0) (by simp [go_sem]); have c12 := hu.keep (w.heap.size + 1) 2 (.int .i64 0) (by simp [go_sem]); have c13 := hu.keep (w.heap.size + 1) 3 (.slice none 0 0) (by simp [go_sem]); have z00 := HU1.out.ownGe (g := w.heap.size) (Nat.le_refl _) 0; have z01 := HU1.out.ownGe (g := w.heap.size) (Nat.le_refl _) 1; have z02 := HU1.out.ownGe (g := w.heap.size) (Nat.le_refl _) 2; have z03 := HU1.out.ownGe (g := w.heap.size) (Nat.le_refl _) 3; have z10 := HU1.out.ownGe (g := w.heap.size + 1) (by omega) 0; have z11 := HU1.out.ownGe (g := w.heap.size + 1) (by omega) 1; have z12 := HU1.out.ownGe (g := w.heap.size + 1) (by omega) 2; have z13 := HU1.out.ownGe (g := w.heap.size + 1) (by omega) 3; have hlt : w.heap.size + 1 < w1.heap.size := World.block_lt_of_cell? _ _ c10; have hlt0 : w.heap.size < w1.heap.size := Nat.lt_of_succ_lt hlt; clear hu))
  have hW1 : Sl (w1.drew.alloc (.cells #[.int .i64 now, .int .i64 x] 70)) A n L := ((HS.out.up HU1.out).up (Up.refl _).drew).up ((Up.refl _).alloc _ _)
  obtain ⟨g2, k2, w2, hr, hk2, hO, hu⟩ := appendF_run 22 w1 (w1.drew.alloc (.cells #[.int .i64 now, .int .i64 x] 70)) A n L hW1 ((Up.refl _).drew.alloc _ _) w1.heap.size now x (one_new w1.drew now x) (by omega)
  have hu12 : Up w1 w2 := ((Up.refl w1).drew.alloc _ _).trans hu
  have HU2 := Lib.hid (HU1.out.trans hu12)
  have HO := Lib.hid hO
  have HR := Lib.hid hr
  have d00 := hu12.keep _ _ _ c00
  have d01 := hu12.keep _ _ _ c01
  have d02 := hu12.keep _ _ _ c02
  have d03 := hu12.keep _ _ _ c03
  have d10 := hu12.keep _ _ _ c10
  have d11 := hu12.keep _ _ _ c11
  have d12 := hu12.keep _ _ _ c12
  have d13 := hu12.keep _ _ _ c13
  have y00 := HU2.out.ownGe (g := w.heap.size) (Nat.le_refl _) 0
  have y10 := HU2.out.ownGe (g := w.heap.size + 1) (by omega) 0
  have y01 := HU2.out.ownGe (g := w.heap.size) (Nat.le_refl _) 1
  have y11 := HU2.out.ownGe (g := w.heap.size + 1) (by omega) 1
  have y02 := HU2.out.ownGe (g := w.heap.size) (Nat.le_refl _) 2
  have y12 := HU2.out.ownGe (g := w.heap.size + 1) (by omega) 2
  have y03 := HU2.out.ownGe (g := w.heap.size) (Nat.le_refl _) 3
  have y13 := HU2.out.ownGe (g := w.heap.size + 1) (by omega) 3
  clear hu hO hr hu12 hW1 c00 c10 c11 c12 c13 z00 z01 z02 z03 z10 z11 z12 z13
  go_region_law (refine step_append_run rfl (.tmp 30) (.tmp 35) _ rfl _ _ rfl rfl _ _ HR.out ?_)
  all_goals go_wp2_with fail
  all_goals refine bodyPost_ret (v := .tuple #[.agg #[.int .i64 v, .int .i64 c, .int .i64 now, .slice (some ⟨g2, 0, none⟩) (n + 1) k2], .int .i64 0]) (by simp [results, Tryz.results10, go_sem, d10, d11, d12, d13]) rfl ⟨g2, k2, rfl, hk2, HO.out.nw.up HU1.out, ?_, ?_⟩
  all_goals first
    | (obtain ⟨A3, k3, e3, _, hS3⟩ := HO.out.sl
       cases e3
       exact (hS3.off (HO.out.off (by omega)) _).off4 (HO.out.off (by omega)) _ _ _ _)
    | exact (HU2.out.setCell (Nat.le_refl _) _).set4 (by omega)
end Go.Proofs.YtflahclphdlolaaGreat
