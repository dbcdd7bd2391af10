/- Same of the reference of layer 10; rows of numbers, SameInts. -/
import Derived.Test.YtnhekeohbnmodaaHRow
import Derived.Test.YtnhekeohbnmodaaHRVal
import Derived.Test.YtnhekeohbnmodaaCFrame
namespace Go.Proofs.Ytnhekeohbnmodaa
open Go.RowKit

theorem eqBucket (a0 a1 b0 b1 : Int) (w : World) : (Op.equalIn 10000 39 (.agg #[.int .i64 a0, .int .i64 a1]) (.agg #[.int .i64 b0, .int .i64 b1])).run Try.prog w =
    .ok (a0 == b0 && a1 == b1) w := by
  have qu := Try.underlying2
  have qa := Try.isAgg2
  have qz := Try.sizeOf2
  have qu2 := Try.underlying3
  have qa2 := Try.isAgg3
  have qz2 := Try.sizeOf3
  rw [show (10000 : Nat) = 9999 + 1 from rfl, Op.equalIn]
  simp only [Sem.run_bind, run_underlying Try.underlying39, Result.andThen_ok]
  go_simp
  by_cases h0 : a0 = b0 <;> by_cases h1 : a1 = b1 <;> simp [h0, h1]
set_option maxHeartbeats 2000000 in
set_option maxRecDepth 100000 in
theorem sameB_t (n k q : Nat) (A B : Option Addr) (L : List It) (hn : n ≤ 1000000) (w : World) (hA : Sl w A n L) (hB : Sl w B n L) :
    Calls Try.prog 18 #[.slice A n k, .slice B n q] w fun e w' => e = .returned (.bool true) ∧ Up w w' := by
  have HA := Lib.hid hA
  have HB := Lib.hid hB
  clear hA hB
  have t1 : ((n : Int) != (n : Int)) = false := by simp
  go_enter Try.func18, Try.ntmps18
  go_wp2
  go_loopw [13] (fun t wr => ∃ i : Nat, t = .int .i64 i ∧ i ≤ n ∧ Hid (Up w wr)) (fun t _ => n - (intOf t).toNat)
  case atStart => exact ⟨0, rfl, Nat.zero_le _, Lib.hid (Up.refl _)⟩
  case round =>
    obtain ⟨i, rfl, i2, HU⟩ := hrel
    by_cases hlt : i < n
    · obtain ⟨b, o, rfl, d0, d1⟩ := (HA.out.up HU.out).at_ hlt
      obtain ⟨b', o', rfl, d2, d3⟩ := (HB.out.up HU.out).at_ hlt
      generalize (L.getD i (0, 0)).1 = p0 at *
      generalize (L.getD i (0, 0)).2 = p1 at *
      have f2 : (i : Int) < n := by omega
      have f3 : (0 : Int) ≤ i := by omega
      have qe : ∀ w, (Op.equalIn 10000 39 (.agg #[.int .i64 p0, .int .i64 p1]) (.agg #[.int .i64 p0, .int .i64 p1])).run Try.prog w = .ok true w := fun w => by rw [eqBucket]; simp
      go_wp2
      go_quiet (fail)
      go_wp2
      go_roundw
      case rel => exact ⟨i + 1, by go_num, by omega, Lib.hid (HU.out.drewN _)⟩
      case measure => simp [intOf]; omega
    · go_wp2
      go_ret
      exact ⟨rfl, HU.out⟩

/-- Rows of numbers. -/
def il (L : List Int) : List Value := L.map (.int .i64)
theorem il_len (L : List Int) : (il L).length = L.length := by simp [il]
theorem il_app (L M : List Int) : il (L ++ M) = il L ++ il M := by simp [il]
theorem il_at {L : List Int} {j : Nat} (h : j < L.length) : (il L)[j]? = some (.int .i64 (L.getD j 0)) := by simp [il, List.getD, h]
theorem il_one (L : List Int) : ∀ u ∈ il L, u.oneCell' = true := by
  intro u hu
  simp only [il, List.mem_map] at hu
  obtain ⟨_, _, rfl⟩ := hu
  rfl
def OwI (w0 w : World) (v : Value) (n : Nat) (L : List Int) : Prop := Rw w0 w 3 1 v n (il L)
theorem OwI.nil (w0 w : World) : OwI w0 w (.slice none 0 0) 0 [] := Rw.nil _ _ _ _
theorem OwI.of_up {w0 w w' : World} {v : Value} {n : Nat} {L : List Int} (h : OwI w0 w v n L) (hu : Up w w') : OwI w0 w' v n L := Rw.of_up h hu
theorem OwI.sl {w0 w : World} {v : Value} {n : Nat} {L : List Int} (h : OwI w0 w v n L) : ∃ A c, v = .slice A n c ∧ n ≤ c ∧ Sn w A n L := by
  have hn : L.length = n := by have := h.1; rw [il_len] at this; omega
  rcases h.2 with ⟨rfl, rfl⟩ | ⟨g, cap, cur, rfl, _, hh, hc, _, hs, ht⟩
  · exact ⟨none, 0, rfl, Nat.le_refl _, hn, fun hx => absurd hx (by omega)⟩
  · refine ⟨some ⟨g, 0, none⟩, cap, rfl, hc, hn, fun _ => ⟨g, 0, rfl, fun j hj => ?_⟩⟩
    rw [Nat.zero_add, cell_of_row w g j cur _ (0, 0) hh]
    have e := il_at (L := L) (j := j) (by omega)
    rw [← ht, List.getElem?_take] at e
    split at e
    · simpa using e
    · cases e
theorem append1J (ty : TypeId) (w0 w : World) (A : Option Addr) (n k : Nat) (L : List Int) (x : Int) (hO : OwI w0 w (.slice A n k) n L) (hu : Up w0 w) (hlen : n + 1 ≤ 1000000) :
    ∃ A' k' w', (Builtin.append_ #[36, 36] ty #[.slice A n k, .slice (some ⟨w.heap.size, 0, none⟩) 1 1]).run Try.prog (w.alloc (.cells #[.int .i64 x] 3)) = .ok (.slice A' (n + 1) k') w' ∧ OwI w0 w' (.slice A' (n + 1) k') (n + 1) (L ++ [x]) ∧ Up w0 w' := by
  obtain ⟨g', k', w', hr, h1, h2, _, _⟩ := appendR 36 3 ty _ 1 8 Try.underlying36 int_info rfl (by omega) w0 (w.alloc (.cells #[.int .i64 x] 3)) (.slice A n k) n (il L) (hO.of_up ((Up.refl _).alloc _ _)) (hu.alloc _ _) w.heap.size 0 1 1 (il [x]) rfl (by omega) (fun j u hj => by rw [Nat.zero_add, Blk.cell (Blk.new w _ _)]; simpa [il] using hj) (il_one _) hlen
  rw [← il_app] at h1
  exact ⟨_, k', w', hr, h1, h2⟩
set_option maxHeartbeats 2000000 in
set_option maxRecDepth 100000 in
theorem sameI_t (n k q : Nat) (A B : Option Addr) (L : List Int) (hn : n ≤ 1000000) (w : World) (hA : Sn w A n L) (hB : Sn w B n L) :
    Calls Try.prog 26 #[.slice A n k, .slice B n q] w fun e w' => e = .returned (.bool true) ∧ Up w w' := by
  have HA := Lib.hid hA
  have HB := Lib.hid hB
  clear hA hB
  have t1 : ((n : Int) != (n : Int)) = false := by simp
  go_enter Try.func26, Try.ntmps26
  go_wp2
  go_loopw [13] (fun t wr => ∃ i : Nat, t = .int .i64 i ∧ i ≤ n ∧ Hid (Up w wr)) (fun t _ => n - (intOf t).toNat)
  case atStart => exact ⟨0, rfl, Nat.zero_le _, Lib.hid (Up.refl _)⟩
  case round =>
    obtain ⟨i, rfl, i2, HU⟩ := hrel
    by_cases hlt : i < n
    · obtain ⟨b, o, rfl, d0⟩ := (HA.out.up HU.out).2 (by omega)
      obtain ⟨b', o', rfl, d1⟩ := (HB.out.up HU.out).2 (by omega)
      have d0 := d0 i hlt
      have d1 := d1 i hlt
      generalize L.getD i 0 = p0 at *
      have f2 : (i : Int) < n := by omega
      have f3 : (0 : Int) ≤ i := by omega
      have t2 : (p0 != p0) = false := by simp
      go_wp2
      go_quiet (fail)
      go_wp2
      go_roundw
      case rel => exact ⟨i + 1, by go_num, by omega, Lib.hid (HU.out.drewN _)⟩
      case measure => simp [intOf]; omega
    · go_wp2
      go_ret
      exact ⟨rfl, HU.out⟩
end Go.Proofs.Ytnhekeohbnmodaa
