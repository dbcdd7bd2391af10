/- What Add of the reference of package recent returns. -/
import Derived.Deep.DeepCutAuto
import Derived.Test.YtflahclphdlolaaFRVal
import Derived.Test.YtflahclphdlolaaFAdv
namespace Go.Proofs.Ytflahclphdlolaa
open Go.RowKit

/-- Where Add of the reference is behind its two appends: the box of x has the new list. -/
structure Ad (w wx : World) (v c now : Int) (n k : Nat) (A : Option Addr) (M : List It) : Prop where
  up : Up w wx
  c00 : wx.cell? ⟨w.heap.size, 0, none⟩ = some (.int .i64 v)
  c01 : wx.cell? ⟨w.heap.size, 1, none⟩ = some (.int .i64 c)
  c02 : wx.cell? ⟨w.heap.size, 2, none⟩ = some (.int .i64 now)
  c03 : wx.cell? ⟨w.heap.size, 3, none⟩ = some (.slice A n k)
  c10 : wx.cell? ⟨w.heap.size + 1, 0, none⟩ = some (.int .i64 0)
  c11 : wx.cell? ⟨w.heap.size + 1, 1, none⟩ = some (.int .i64 0)
  c12 : wx.cell? ⟨w.heap.size + 1, 2, none⟩ = some (.int .i64 0)
  c13 : wx.cell? ⟨w.heap.size + 1, 3, none⟩ = some (.slice none 0 0)
  sl : Sl wx A n M
  off : ∀ b o, A = some ⟨b, o, none⟩ → b ≠ w.heap.size + 1
theorem Ad.of {w w1 w7 : World} {v c now : Int} {n k : Nat} {A : Option Addr} {M : List It} {s : Value} (hu1 : Up w w1) (hu : Up w1 w7) (hO : Own w1 w7 (.slice A n k) n M) (hlt : w.heap.size + 1 < w1.heap.size)
    (c00 : w1.cell? ⟨w.heap.size, 0, none⟩ = some (.int .i64 v)) (c01 : w1.cell? ⟨w.heap.size, 1, none⟩ = some (.int .i64 c)) (c02 : w1.cell? ⟨w.heap.size, 2, none⟩ = some (.int .i64 now)) (c03 : w1.cell? ⟨w.heap.size, 3, none⟩ = some s)
    (c10 : w1.cell? ⟨w.heap.size + 1, 0, none⟩ = some (.int .i64 0)) (c11 : w1.cell? ⟨w.heap.size + 1, 1, none⟩ = some (.int .i64 0)) (c12 : w1.cell? ⟨w.heap.size + 1, 2, none⟩ = some (.int .i64 0)) (c13 : w1.cell? ⟨w.heap.size + 1, 3, none⟩ = some (.slice none 0 0)) :
    Ad w (w7.setCell ⟨w.heap.size, 3, none⟩ (.slice A n k)) v c now n k A M := by
  obtain ⟨A3, k3, e3, _, hS3⟩ := hO.sl
  cases e3
  have far : ∀ q x, w1.cell? ⟨w.heap.size + 1, q, none⟩ = some x → (w7.setCell ⟨w.heap.size, 3, none⟩ (.slice A n k)).cell? ⟨w.heap.size + 1, q, none⟩ = some x := fun q x h => (cell_far (by show w.heap.size ≠ w.heap.size + 1; omega)).trans (hu.keep _ _ _ h)
  refine ⟨(hu1.trans hu).setCell (Nat.le_refl _) _, ?_, ?_, ?_, ?_, far 0 _ c10, far 1 _ c11, far 2 _ c12, far 3 _ c13, hS3.off (hO.off (by omega)) _, hO.off (by omega)⟩
  · exact cell_set (hu.keep _ _ _ c00)
  · exact cell_set (hu.keep _ _ _ c01)
  · exact cell_set (hu.keep _ _ _ c02)
  · exact cell_set (hu.keep _ _ _ c03)

set_option maxHeartbeats 4000000 in
set_option maxRecDepth 100000 in
theorem radd9_bad (v c now x : Int) (n k : Nat) (A : Option Addr) (L : List It) (hv : stB v c now L = false) (w : World) (hS : Sl w A n L) :
    Calls Try.prog 15 #[.agg #[.int .i64 v, .int .i64 c, .int .i64 now, .slice A n k], .int .i64 x] w fun e w' => e = .returned (.tuple #[.agg #[.int .i64 0, .int .i64 0, .int .i64 0, .slice none 0 0], .int .i64 2]) ∧ Up w w' := by
  have KV := Lib.hid (fun W (h : Sl W A n L) => rvalidate9_up v c now n k A L W h)
  rw [stE_no hv] at KV
  have HS := Lib.hid hS
  clear hS hv
  go_enter Try.func15, Try.ntmps15
  go_wp2_with (go_at_call 17; (with_reducible refine (KV.out _ (HS.out.up (((Up.refl w).alloc _ _).alloc _ _))).mono ?_); rintro e w1 ⟨rfl, hu⟩; have HU1 := Lib.hid ((((Up.refl w).alloc #[.int .i64 v, .int .i64 c, .int .i64 now, .slice A n k] 24).alloc #[.int .i64 0, .int .i64 0, .int .i64 0, .slice none 0 0] 24).trans hu); have c00 := hu.keep (w.heap.size) 0 (.int .i64 v) (by simp [go_sem]); have c01 := hu.keep (w.heap.size) 1 (.int .i64 c) (by simp [go_sem]); have c02 := hu.keep (w.heap.size) 2 (.int .i64 now) (by simp [go_sem]); have c03 := hu.keep (w.heap.size) 3 (.slice A n k) (by simp [go_sem]); have c10 := hu.keep (w.heap.size + 1) 0 (.int .i64 0) (by simp [go_sem]); have c11 := hu.keep (w.heap.size + 1) 1 (.int .i64 0) (by simp [go_sem]); have c12 := hu.keep (w.heap.size + 1) 2 (.int .i64 0) (by simp [go_sem]); have c13 := hu.keep (w.heap.size + 1) 3 (.slice none 0 0) (by simp [go_sem]); have z00 := HU1.out.ownGe (g := w.heap.size) (Nat.le_refl _) 0; have z01 := HU1.out.ownGe (g := w.heap.size) (Nat.le_refl _) 1; have z02 := HU1.out.ownGe (g := w.heap.size) (Nat.le_refl _) 2; have z03 := HU1.out.ownGe (g := w.heap.size) (Nat.le_refl _) 3; have z10 := HU1.out.ownGe (g := w.heap.size + 1) (by omega) 0; have z11 := HU1.out.ownGe (g := w.heap.size + 1) (by omega) 1; have z12 := HU1.out.ownGe (g := w.heap.size + 1) (by omega) 2; have z13 := HU1.out.ownGe (g := w.heap.size + 1) (by omega) 3; have hlt : w.heap.size + 1 < w1.heap.size := World.block_lt_of_cell? _ _ c10; have hlt0 : w.heap.size < w1.heap.size := Nat.lt_of_succ_lt hlt; clear hu)
  refine bodyPost_ret (v := .tuple #[.agg #[.int .i64 0, .int .i64 0, .int .i64 0, .slice none 0 0], .int .i64 2]) (by simp [results, Try.results15, go_sem, c10, c11, c12, c13]) rfl ⟨rfl, ?_⟩
  exact HU1.out.set4 (by omega)

set_option maxHeartbeats 4000000 in
set_option maxRecDepth 100000 in
theorem radd9_range (v c now x : Int) (n k : Nat) (A : Option Addr) (L : List It) (hv : stB v c now L = true) (hx : valueB x = false) (w : World) (hS : Sl w A n L) :
    Calls Try.prog 15 #[.agg #[.int .i64 v, .int .i64 c, .int .i64 now, .slice A n k], .int .i64 x] w fun e w' => e = .returned (.tuple #[.agg #[.int .i64 0, .int .i64 0, .int .i64 0, .slice none 0 0], .int .i64 4]) ∧ Up w w' := by
  have KV := Lib.hid (fun W (h : Sl W A n L) => rvalidate9_up v c now n k A L W h)
  rw [stE_yes hv] at KV
  have HS := Lib.hid hS
  have KA := Lib.hid (rvalue_any x)
  rw [hx] at KA
  clear hS hv hx
  go_enter Try.func15, Try.ntmps15
  go_wp2_with (first | (go_at_call 37; (with_reducible refine (KA.out _).mono ?_); rintro e w2 ⟨rfl, rfl⟩) | (go_at_call 17; (with_reducible refine (KV.out _ (HS.out.up (((Up.refl w).alloc _ _).alloc _ _))).mono ?_); rintro e w1 ⟨rfl, hu⟩; have HU1 := Lib.hid ((((Up.refl w).alloc #[.int .i64 v, .int .i64 c, .int .i64 now, .slice A n k] 24).alloc #[.int .i64 0, .int .i64 0, .int .i64 0, .slice none 0 0] 24).trans hu); have c00 := hu.keep (w.heap.size) 0 (.int .i64 v) (by simp [go_sem]); have c01 := hu.keep (w.heap.size) 1 (.int .i64 c) (by simp [go_sem]); have c02 := hu.keep (w.heap.size) 2 (.int .i64 now) (by simp [go_sem]); have c03 := hu.keep (w.heap.size) 3 (.slice A n k) (by simp [go_sem]); have c10 := hu.keep (w.heap.size + 1) 0 (.int .i64 0) (by simp [go_sem]); have c11 := hu.keep (w.heap.size + 1) 1 (.int .i64 0) (by simp [go_sem]); have c12 := hu.keep (w.heap.size + 1) 2 (.int .i64 0) (by simp [go_sem]); have c13 := hu.keep (w.heap.size + 1) 3 (.slice none 0 0) (by simp [go_sem]); have z00 := HU1.out.ownGe (g := w.heap.size) (Nat.le_refl _) 0; have z01 := HU1.out.ownGe (g := w.heap.size) (Nat.le_refl _) 1; have z02 := HU1.out.ownGe (g := w.heap.size) (Nat.le_refl _) 2; have z03 := HU1.out.ownGe (g := w.heap.size) (Nat.le_refl _) 3; have z10 := HU1.out.ownGe (g := w.heap.size + 1) (by omega) 0; have z11 := HU1.out.ownGe (g := w.heap.size + 1) (by omega) 1; have z12 := HU1.out.ownGe (g := w.heap.size + 1) (by omega) 2; have z13 := HU1.out.ownGe (g := w.heap.size + 1) (by omega) 3; have hlt : w.heap.size + 1 < w1.heap.size := World.block_lt_of_cell? _ _ c10; have hlt0 : w.heap.size < w1.heap.size := Nat.lt_of_succ_lt hlt; clear hu))
  refine bodyPost_ret (v := .tuple #[.agg #[.int .i64 0, .int .i64 0, .int .i64 0, .slice none 0 0], .int .i64 4]) (by simp [results, Try.results15, go_sem, c10, c11, c12, c13]) rfl ⟨rfl, ?_⟩
  exact HU1.out.set4 (by omega)

set_option maxHeartbeats 4000000 in
set_option maxRecDepth 100000 in
theorem radd9_full (v c now x : Int) (n k : Nat) (A : Option Addr) (L : List It) (hv : stB v c now L = true) (hx : valueB x = true) (hf : (n : Int) = c) (w : World) (hS : Sl w A n L) :
    Calls Try.prog 15 #[.agg #[.int .i64 v, .int .i64 c, .int .i64 now, .slice A n k], .int .i64 x] w fun e w' => e = .returned (.tuple #[.agg #[.int .i64 0, .int .i64 0, .int .i64 0, .slice none 0 0], .int .i64 5]) ∧ Up w w' := by
  have KV := Lib.hid (fun W (h : Sl W A n L) => rvalidate9_up v c now n k A L W h)
  rw [stE_yes hv] at KV
  have HS := Lib.hid hS
  have KA := Lib.hid (rvalue_any x)
  rw [hx] at KA
  have t1 : ((n : Int) == c) = true := by simp [hf]
  clear hS hv hx hf
  go_enter Try.func15, Try.ntmps15
  go_wp2_with (first | (go_at_call 37; (with_reducible refine (KA.out _).mono ?_); rintro e w2 ⟨rfl, rfl⟩) | (go_at_call 17; (with_reducible refine (KV.out _ (HS.out.up (((Up.refl w).alloc _ _).alloc _ _))).mono ?_); rintro e w1 ⟨rfl, hu⟩; have HU1 := Lib.hid ((((Up.refl w).alloc #[.int .i64 v, .int .i64 c, .int .i64 now, .slice A n k] 24).alloc #[.int .i64 0, .int .i64 0, .int .i64 0, .slice none 0 0] 24).trans hu); have c00 := hu.keep (w.heap.size) 0 (.int .i64 v) (by simp [go_sem]); have c01 := hu.keep (w.heap.size) 1 (.int .i64 c) (by simp [go_sem]); have c02 := hu.keep (w.heap.size) 2 (.int .i64 now) (by simp [go_sem]); have c03 := hu.keep (w.heap.size) 3 (.slice A n k) (by simp [go_sem]); have c10 := hu.keep (w.heap.size + 1) 0 (.int .i64 0) (by simp [go_sem]); have c11 := hu.keep (w.heap.size + 1) 1 (.int .i64 0) (by simp [go_sem]); have c12 := hu.keep (w.heap.size + 1) 2 (.int .i64 0) (by simp [go_sem]); have c13 := hu.keep (w.heap.size + 1) 3 (.slice none 0 0) (by simp [go_sem]); have z00 := HU1.out.ownGe (g := w.heap.size) (Nat.le_refl _) 0; have z01 := HU1.out.ownGe (g := w.heap.size) (Nat.le_refl _) 1; have z02 := HU1.out.ownGe (g := w.heap.size) (Nat.le_refl _) 2; have z03 := HU1.out.ownGe (g := w.heap.size) (Nat.le_refl _) 3; have z10 := HU1.out.ownGe (g := w.heap.size + 1) (by omega) 0; have z11 := HU1.out.ownGe (g := w.heap.size + 1) (by omega) 1; have z12 := HU1.out.ownGe (g := w.heap.size + 1) (by omega) 2; have z13 := HU1.out.ownGe (g := w.heap.size + 1) (by omega) 3; have hlt : w.heap.size + 1 < w1.heap.size := World.block_lt_of_cell? _ _ c10; have hlt0 : w.heap.size < w1.heap.size := Nat.lt_of_succ_lt hlt; clear hu))
  refine bodyPost_ret (v := .tuple #[.agg #[.int .i64 0, .int .i64 0, .int .i64 0, .slice none 0 0], .int .i64 5]) (by simp [results, Try.results15, go_sem, c10, c11, c12, c13]) rfl ⟨rfl, ?_⟩
  exact HU1.out.set4 (by omega)

set_option maxHeartbeats 4000000 in
set_option maxRecDepth 100000 in
theorem radd9_good (v c now x : Int) (n k : Nat) (A : Option Addr) (L : List It) (hv : stB v c now L = true) (hx : valueB x = true) (hf : (n : Int) ≠ c) (w : World) (hS : Sl w A n L) :
    Calls Try.prog 15 #[.agg #[.int .i64 v, .int .i64 c, .int .i64 now, .slice A n k], .int .i64 x] w fun e w' => ∃ A' k', e = .returned (.tuple #[.agg #[.int .i64 v, .int .i64 c, .int .i64 now, .slice A' (n + 1) k'], .int .i64 0]) ∧ Sl w' A' (n + 1) (L ++ [(now, x)]) ∧ Up w w' := by
  have KV := Lib.hid (fun W (h : Sl W A n L) => rvalidate9_up v c now n k A L W h)
  rw [stE_yes hv] at KV
  have HS := Lib.hid hS
  have hn : n ≤ 65536 := by
    have := stB_true hv
    have h3 := (mayB_true this.1).2.2.2
    have h4 := this.2.1
    rw [hS.1] at h4
    omega
  have KA := Lib.hid (rvalue_any x)
  rw [hx] at KA
  have t1 : ((n : Int) == c) = false := by simp [hf]
  clear hS hv hx hf
  go_enter Try.func15, Try.ntmps15
  go_wp2_with (first | (go_at_call 37; (with_reducible refine (KA.out _).mono ?_); rintro e w1 ⟨rfl, rfl⟩) | (go_at_call 17; (with_reducible refine (KV.out _ (HS.out.up (((Up.refl w).alloc _ _).alloc _ _))).mono ?_); rintro e w1 ⟨rfl, hu⟩; have HU1 := Lib.hid ((((Up.refl w).alloc #[.int .i64 v, .int .i64 c, .int .i64 now, .slice A n k] 24).alloc #[.int .i64 0, .int .i64 0, .int .i64 0, .slice none 0 0] 24).trans hu); have c00 := hu.keep (w.heap.size) 0 (.int .i64 v) (by simp [go_sem]); have c01 := hu.keep (w.heap.size) 1 (.int .i64 c) (by simp [go_sem]); have c02 := hu.keep (w.heap.size) 2 (.int .i64 now) (by simp [go_sem]); have c03 := hu.keep (w.heap.size) 3 (.slice A n k) (by simp [go_sem]); have c10 := hu.keep (w.heap.size + 1) 0 (.int .i64 0) (by simp [go_sem]); have c11 := hu.keep (w.heap.size + 1) 1 (.int .i64 0) (by simp [go_sem]); have c12 := hu.keep (w.heap.size + 1) 2 (.int .i64 0) (by simp [go_sem]); have c13 := hu.keep (w.heap.size + 1) 3 (.slice none 0 0) (by simp [go_sem]); have z00 := HU1.out.ownGe (g := w.heap.size) (Nat.le_refl _) 0; have z01 := HU1.out.ownGe (g := w.heap.size) (Nat.le_refl _) 1; have z02 := HU1.out.ownGe (g := w.heap.size) (Nat.le_refl _) 2; have z03 := HU1.out.ownGe (g := w.heap.size) (Nat.le_refl _) 3; have z10 := HU1.out.ownGe (g := w.heap.size + 1) (by omega) 0; have z11 := HU1.out.ownGe (g := w.heap.size + 1) (by omega) 1; have z12 := HU1.out.ownGe (g := w.heap.size + 1) (by omega) 2; have z13 := HU1.out.ownGe (g := w.heap.size + 1) (by omega) 3; have hlt : w.heap.size + 1 < w1.heap.size := World.block_lt_of_cell? _ _ c10; have hlt0 : w.heap.size < w1.heap.size := Nat.lt_of_succ_lt hlt; clear hu))
  have HS1 := Lib.hid (HS.out.up HU1.out)
  obtain ⟨v1a, w6a, ra1, oa1, ua1⟩ := append0_run 22 w1 (w1.drew.alloc (.cells #[] 39)) w1.heap.size (own_empty' (w := w1.drew) rfl (Nat.le_refl _)) ((Up.refl _).drew.alloc _ _) A n k L (HS1.out.up ((Up.refl _).drew.alloc _ _)) (by omega)
  have va1 : Up w1 w6a := ((Up.refl w1).drew.alloc #[] 39).trans ua1
  obtain ⟨v2a, w7a, ra2, oa2, ua2⟩ := append_run 22 w1 (w6a.alloc (.cells #[.int .i64 now, .int .i64 x] 39)) v1a n L (oa1.of_up ((Up.refl _).alloc _ _)) (va1.alloc _ _) (some ⟨w6a.heap.size, 0, none⟩) 1 1 [(now, x)] (one_new w6a now x) (by omega)
  obtain ⟨v1b, w6b, rb1, ob1, ub1⟩ := append0_run 22 w1 ((w1.drew.alloc (.cells #[] 39)).alloc (.cells #[.int .i64 now, .int .i64 x] 39)) w1.heap.size ((own_empty' (w := w1.drew) rfl (Nat.le_refl _)).of_up ((Up.refl _).alloc _ _)) (((Up.refl _).drew.alloc _ _).alloc _ _) A n k L (HS1.out.up (((Up.refl _).drew.alloc _ _).alloc _ _)) (by omega)
  have vb1 : Up w1 w6b := (((Up.refl w1).drew.alloc _ _).alloc _ _).trans ub1
  obtain ⟨v2b, w7b, rb2, ob2, ub2⟩ := append_run 22 w1 w6b v1b n L ob1 vb1 (some ⟨(w1.heap.size + 1), 0, none⟩) 1 1 [(now, x)] ((one_new' _ now x (by simp)).up ub1) (by omega)
  obtain ⟨v1c, w6c, rc1, oc1, uc1⟩ := append0_run 22 w1 ((w1.drew.alloc (.cells #[.int .i64 now, .int .i64 x] 39)).alloc (.cells #[] 39)) (w1.heap.size + 1) (own_empty' (by simp) (by simp)) (((Up.refl _).drew.alloc _ _).alloc _ _) A n k L (HS1.out.up (((Up.refl _).drew.alloc _ _).alloc _ _)) (by omega)
  have vc1 : Up w1 w6c := (((Up.refl w1).drew.alloc _ _).alloc _ _).trans uc1
  obtain ⟨v2c, w7c, rc2, oc2, uc2⟩ := append_run 22 w1 w6c v1c n L oc1 vc1 (some ⟨w1.heap.size, 0, none⟩) 1 1 [(now, x)] (((one_new' w1.drew now x rfl).up ((Up.refl _).alloc _ _)).up uc1) (by omega)
  obtain ⟨A1a, k1a, rfl, _, _⟩ := oa1.sl
  obtain ⟨A2a, k2a, rfl, _, s2a⟩ := oa2.sl
  have LAa := Lib.hid (Ad.of HU1.out ua2 oa2 hlt c00 c01 c02 c03 c10 c11 c12 c13)
  have R1a := Lib.hid ra1
  have R2a := Lib.hid ra2
  have ad03 := ua2.keep _ _ _ c03
  have az03 := (HU1.out.trans ua2).ownGe (g := w.heap.size) (Nat.le_refl _) 3
  have ae02 := va1.keep _ _ _ c02
  have ae03 := va1.keep _ _ _ c03
  have l6a : w.heap.size < w6a.heap.size := Nat.lt_of_lt_of_le hlt0 va1.size
  clear ra1 ra2 oa1 oa2 ua1 ua2 va1 s2a
  obtain ⟨A1b, k1b, rfl, _, _⟩ := ob1.sl
  obtain ⟨A2b, k2b, rfl, _, s2b⟩ := ob2.sl
  have LAb := Lib.hid (Ad.of HU1.out ub2 ob2 hlt c00 c01 c02 c03 c10 c11 c12 c13)
  have R1b := Lib.hid rb1
  have R2b := Lib.hid rb2
  have bd03 := ub2.keep _ _ _ c03
  have bz03 := (HU1.out.trans ub2).ownGe (g := w.heap.size) (Nat.le_refl _) 3
  have be02 := vb1.keep _ _ _ c02
  have be03 := vb1.keep _ _ _ c03
  clear rb1 rb2 ob1 ob2 ub1 ub2 vb1 s2b
  obtain ⟨A1c, k1c, rfl, _, _⟩ := oc1.sl
  obtain ⟨A2c, k2c, rfl, _, s2c⟩ := oc2.sl
  have LAc := Lib.hid (Ad.of HU1.out uc2 oc2 hlt c00 c01 c02 c03 c10 c11 c12 c13)
  have R1c := Lib.hid rc1
  have R2c := Lib.hid rc2
  have cd03 := uc2.keep _ _ _ c03
  have cz03 := (HU1.out.trans uc2).ownGe (g := w.heap.size) (Nat.le_refl _) 3
  have ce02 := vc1.keep _ _ _ c02
  have ce03 := vc1.keep _ _ _ c03
  clear rc1 rc2 oc1 oc2 uc1 uc2 vc1 s2c
  have hlt2 : w.heap.size < w1.heap.size + 1 := Nat.lt_succ_of_lt hlt0
  clear c00 c01 c10 c11 c12 c13 z00 z01 z02 z03 z10 z11 z12 z13
  go_cut [] (fun wx => ∃ (A' : Option Addr) (k' : Nat), Hid (Ad w wx v c now (n + 1) k' A' (L ++ [(now, x)])))
  case first =>
    go_region_law (first
      | ((with_reducible refine step_append_run rfl (.tmp 24) (.tmp 26) _ rfl _ _ ?_ ?_ _ _ R1a.out ?_); rfl; rfl)
      | ((with_reducible refine step_append_run rfl (.tmp 27) (.tmp 32) _ rfl _ _ ?_ ?_ _ _ R2a.out ?_); rfl; rfl)
      | ((with_reducible refine step_append_run rfl (.tmp 24) (.tmp 26) _ rfl _ _ ?_ ?_ _ _ R1b.out ?_); rfl; rfl)
      | ((with_reducible refine step_append_run rfl (.tmp 27) (.tmp 32) _ rfl _ _ ?_ ?_ _ _ R2b.out ?_); rfl; rfl)
      | ((with_reducible refine step_append_run rfl (.tmp 24) (.tmp 26) _ rfl _ _ ?_ ?_ _ _ R1c.out ?_); rfl; rfl)
      | ((with_reducible refine step_append_run rfl (.tmp 27) (.tmp 32) _ rfl _ _ ?_ ?_ _ _ R2c.out ?_); rfl; rfl))
    all_goals go_wp2_with fail
    all_goals go_meet
    all_goals first
      | (with_reducible exact ⟨_, _, LAa⟩)
      | (with_reducible exact ⟨_, _, LAb⟩)
      | (with_reducible exact ⟨_, _, LAc⟩)
  case rest =>
    obtain ⟨A2, k2, HA⟩ := hcut
    clear c02 c03 LAa LAb LAc R1a R2a R1b R2b R1c R2c ad03 az03 ae02 ae03 bd03 bz03 be02 be03 cd03 cz03 ce02 ce03
    have c00 := HA.out.c00
    have c01 := HA.out.c01
    have c02 := HA.out.c02
    have c03 := HA.out.c03
    have c10 := HA.out.c10
    have c11 := HA.out.c11
    have c12 := HA.out.c12
    have c13 := HA.out.c13
    have z10 := HA.out.up.ownGe (g := w.heap.size + 1) (by omega) 0
    have z11 := HA.out.up.ownGe (g := w.heap.size + 1) (by omega) 1
    have z12 := HA.out.up.ownGe (g := w.heap.size + 1) (by omega) 2
    have z13 := HA.out.up.ownGe (g := w.heap.size + 1) (by omega) 3
    go_wp2_with fail
    refine bodyPost_ret (v := .tuple #[.agg #[.int .i64 v, .int .i64 c, .int .i64 now, .slice A2 (n + 1) k2], .int .i64 0]) (by simp [results, Try.results15, go_sem, c10, c11, c12, c13]) rfl ⟨A2, k2, rfl, ?_, ?_⟩
    · exact HA.out.sl.off4 HA.out.off _ _ _ _
    · exact HA.out.up.set4 (by omega)
end Go.Proofs.Ytflahclphdlolaa
