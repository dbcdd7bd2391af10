/- Texts of this claim, one after the other. -/
import Derived.Test.YtflahclphdlolaaGreatZFAskM
import Derived.Test.YtflahclphdlolaaGreatZFNum
import Derived.Test.YtflahclphdlolaaGreatZG0a
import Derived.Test.YtflahclphdlolaaGreatZG2a
/- Equality of answers: numbers, bounds, fractions, lists of numbers. -/
namespace Go.Proofs.YtflahclphdlolaaGreat
open Go.RowKit

theorem eqRatio9 (a0 a1 : Int) (w : World) : (Op.equalIn 10000 30 (.agg #[.int .i64 a0, .int .i64 a1]) (.agg #[.int .i64 a0, .int .i64 a1])).run Tryz.prog w = .ok true w := by
  have qu := Tryz.underlying2
  have qa := Tryz.isAgg2
  have qz := Tryz.sizeOf2
  rw [show (10000 : Nat) = 9999 + 1 from rfl, Op.equalIn]
  simp only [Sem.run_bind, run_underlying Tryz.underlying30, Result.andThen_ok]
  go_simp
theorem eqBounds9 (a0 a1 : Int) (w : World) : (Op.equalIn 10000 32 (.agg #[.int .i64 a0, .int .i64 a1, .int .i64 a0, .int .i64 a1, .int .i64 a0, .int .i64 a1]) (.agg #[.int .i64 a0, .int .i64 a1, .int .i64 a0, .int .i64 a1, .int .i64 a0, .int .i64 a1])).run Tryz.prog w = .ok true w := by
  have qu := Tryz.underlying2
  have qa := Tryz.isAgg2
  have qz := Tryz.sizeOf2
  have ru := Tryz.underlying30
  have ra := Tryz.isAgg30
  have rz := Tryz.sizeOf30
  have e : ∀ w, (Op.equalIn 9999 30 (.agg #[.int .i64 a0, .int .i64 a1]) (.agg #[.int .i64 a0, .int .i64 a1])).run Tryz.prog w = .ok true w := fun w => by
    rw [show (9999 : Nat) = 9998 + 1 from rfl, Op.equalIn]
    simp only [Sem.run_bind, run_underlying Tryz.underlying30, Result.andThen_ok]
    go_simp
  rw [show (10000 : Nat) = 9999 + 1 from rfl, Op.equalIn]
  simp only [Sem.run_bind, run_underlying Tryz.underlying32, Result.andThen_ok]
  go_simp
set_option maxHeartbeats 2000000 in
set_option maxRecDepth 100000 in
theorem sameNum_t (n k q : Nat) (A B : Option Addr) (L : List Int) (hn : n ≤ 1000000) (w : World) (hA : Sn w A n L) (hB : Sn w B n L) :
    Calls Tryz.prog 32 #[.slice A n k, .slice B n q] w fun e w' => e = .returned (.bool true) ∧ Up w w' := by
  have HA := Lib.hid hA
  have HB := Lib.hid hB
  clear hA hB
  have t1 : ((n : Int) != (n : Int)) = false := by simp
  go_enter Tryz.func32, Tryz.ntmps32
  go_wp2
  go_loopw [13] (fun t wr => ∃ i : Nat, t = .int .i64 i ∧ i ≤ n ∧ Hid (Up w wr)) (fun t _ => n - (intOf t).toNat)
  case atStart => exact ⟨0, rfl, Nat.zero_le _, Lib.hid (Up.refl _)⟩
  case round =>
    obtain ⟨i, rfl, i2, HU⟩ := hrel
    by_cases hlt : i < n
    · obtain ⟨b, o, rfl, hc⟩ := (HA.out.up HU.out).2 (by omega)
      obtain ⟨b', o', rfl, hc'⟩ := (HB.out.up HU.out).2 (by omega)
      have d0 := hc i hlt
      have d1 := hc' i hlt
      clear hc hc'
      generalize L.getD i 0 = p0 at *
      have f2 : (i : Int) < n := by omega
      have f3 : (0 : Int) ≤ i := by omega
      have t2 : (p0 != p0) = false := by simp
      go_wp2
      go_quiet (fail)
      go_wp2
      go_roundw
      case rel => exact ⟨i + 1, by go_num, by omega, Lib.hid (HU.out.drewN _)⟩
      case measure => simp [intOf]; omega
    · go_wp2
      go_ret
      exact ⟨rfl, HU.out⟩
end Go.Proofs.YtflahclphdlolaaGreat

/- Equality of answers. -/
namespace Go.Proofs.YtflahclphdlolaaGreat
open Go.RowKit

theorem askR_len {v c now o a b N D e0 : Int} {L : List It} {Vs : List Int} (h : askR v c now L o a b = (N, D, Vs, e0)) : Vs.length ≤ 2 := by
  unfold askR at h
  repeat' split at h
  all_goals (cases h; simp)
theorem eqFrac9 (w : World) : (Op.equalIn 10000 38 (.agg #[.int .u64 0, .int .u64 0, .int .u64 0, .int .u64 0]) (.agg #[.int .u64 0, .int .u64 0, .int .u64 0, .int .u64 0])).run Tryz.prog w = .ok true w := by
  have qu := Tryz.underlying34
  have qa := Tryz.isAgg34
  have qz := Tryz.sizeOf34
  have ru := Tryz.underlying36
  have ra := Tryz.isAgg36
  have rz := Tryz.sizeOf36
  have e : ∀ w, (Op.equalIn 9999 36 (.agg #[.int .u64 0, .int .u64 0]) (.agg #[.int .u64 0, .int .u64 0])).run Tryz.prog w = .ok true w := fun w => by
    rw [show (9999 : Nat) = 9998 + 1 from rfl, Op.equalIn]
    simp only [Sem.run_bind, run_underlying Tryz.underlying36, Result.andThen_ok]
    go_simp
  rw [show (10000 : Nat) = 9999 + 1 from rfl, Op.equalIn]
  simp only [Sem.run_bind, run_underlying Tryz.underlying38, Result.andThen_ok]
  go_simp
set_option maxHeartbeats 4000000 in
set_option maxRecDepth 100000 in
theorem sameAns_t (N D : Int) (n k q : Nat) (A B : Option Addr) (L : List Int) (hn : n ≤ 1000000) (w : World) (hA : Sn w A n L) (hB : Sn w B n L) :
    Calls Tryz.prog 8 #[.agg #[.int .i64 N, .int .i64 D, .int .i64 N, .int .i64 D, .int .i64 N, .int .i64 D, .slice A n k, .int .u64 0, .int .u64 0, .int .u64 0, .int .u64 0], .agg #[.int .i64 N, .int .i64 D, .int .i64 N, .int .i64 D, .int .i64 N, .int .i64 D, .slice B n q, .int .u64 0, .int .u64 0, .int .u64 0, .int .u64 0]] w fun e w' => e = .returned (.bool true) ∧ Up w w' := by
  have K := Lib.hid (fun W (h1 : Sn W A n L) (h2 : Sn W B n L) => sameNum_t n k q A B L hn W h1 h2)
  have HA := Lib.hid hA
  have HB := Lib.hid hB
  have qb := fun W => eqBounds9 N D W
  have qf := fun W => eqFrac9 W
  clear hA hB
  go_enter Tryz.func8, Tryz.ntmps8
  go_wp2_with (go_at_call 32; (with_reducible refine (K.out _ (HA.out.up (((Up.refl w).alloc _ _).alloc _ _)) (HB.out.up (((Up.refl w).alloc _ _).alloc _ _))).mono ?_); rintro e w1 ⟨rfl, hu⟩; have HU := Lib.hid ((((Up.refl w).alloc #[.int .i64 N, .int .i64 D, .int .i64 N, .int .i64 D, .int .i64 N, .int .i64 D, .slice A n k, .int .u64 0, .int .u64 0, .int .u64 0, .int .u64 0] 40).alloc #[.int .i64 N, .int .i64 D, .int .i64 N, .int .i64 D, .int .i64 N, .int .i64 D, .slice B n q, .int .u64 0, .int .u64 0, .int .u64 0, .int .u64 0] 40).trans hu); have x7 := hu.keep w.heap.size 7 (.int .u64 0) (by simp [go_sem]); have x8 := hu.keep w.heap.size 8 (.int .u64 0) (by simp [go_sem]); have x9 := hu.keep w.heap.size 9 (.int .u64 0) (by simp [go_sem]); have x10 := hu.keep w.heap.size 10 (.int .u64 0) (by simp [go_sem]); have y7 := hu.keep (w.heap.size + 1) 7 (.int .u64 0) (by simp [go_sem]); have y8 := hu.keep (w.heap.size + 1) 8 (.int .u64 0) (by simp [go_sem]); have y9 := hu.keep (w.heap.size + 1) 9 (.int .u64 0) (by simp [go_sem]); have y10 := hu.keep (w.heap.size + 1) 10 (.int .u64 0) (by simp [go_sem]); clear hu)
  go_ret
  exact ⟨rfl, HU.out⟩
end Go.Proofs.YtflahclphdlolaaGreat
