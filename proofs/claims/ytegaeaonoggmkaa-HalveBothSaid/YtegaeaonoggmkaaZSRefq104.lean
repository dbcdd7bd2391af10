/- What Zeros, Bits, Left and Right of the reference of package wide return. -/
import Derived.Test.YtegaeaonoggmkaaRows
import Derived.Test.YtegaeaonoggmkaaZSLeftq102
import Derived.Test.YtegaeaonoggmkaaZWRDivq103
namespace Go.Proofs.Ytegaeaonoggmkaa
open Go.RowKit

theorem dbl_small {x : Int} (hx : In2 x) (h : hiZ x / 9223372036854775808 = 0) : dblZ x 0 = 2 * x ∧ In2 (2 * x) := by
  unfold hiZ at h; unfold dblZ In2 at *; omega
theorem dbl_big {x : Int} (hx : In2 x) (h : hiZ x / 9223372036854775808 ≠ 0) : 340282366920938463463374607431768211456 ≤ 2 * x := by
  unfold hiZ at h; unfold In2 at hx; omega
theorem pow_next (v : Int) (i : Nat) : 2 * (v * 2 ^ i) = v * 2 ^ (i + 1) := by rw [Int.pow_succ]; ac_rfl
theorem pow_mono {v : Int} (hv : 0 ≤ v) {i n : Nat} (h : i ≤ n) : v * 2 ^ i ≤ v * 2 ^ n := by
  apply Int.mul_le_mul_of_nonneg_left _ hv
  rw [← pow_cast, ← pow_cast]
  exact Int.ofNat_le.2 (Nat.pow_le_pow_right (by decide) h)

set_option maxHeartbeats 2000000 in
set_option maxRecDepth 100000 in
theorem rleft_up (h l n : Int) (hh : Word h) (hl : Word l) (hn : In n) (w : World) :
    Calls Try.prog 42 #[.agg #[.int .u64 h, .int .u64 l], .int .i64 n] w fun e w' => e = got2 (leftV (val h l) n) (leftB (val h l) n) ∧ Up w w' := by
  have hv := val_in hh hl
  obtain ⟨n1, n2⟩ := hn
  by_cases hneg : n < 0
  · have t1 : decide (n < 0) = true := decide_eq_true hneg
    rw [(leftB_neg hneg).1, (leftB_neg hneg).2]
    clear hneg n1 n2 hv
    go_enter Try.func42, Try.ntmps42
    go_wp2_with fail
    refine bodyPost_ret (v := .tuple #[.agg #[.int .u64 0, .int .u64 0], .bool false]) (by simp [results, Try.results42, go_sem]) rfl ⟨?_, ?_⟩
    · rfl
    · repeat (first | exact Up.refl _ | refine Up.alloc ?_ _ _ | refine Up.setCell ?_ (by first | (simp; done) | (simp; omega) | omega) _ | refine Up.drewN ?_ _ | refine Up.drew ?_)
  have t1 : decide (n < 0) = false := decide_eq_false hneg
  by_cases hz : val h l = 0
  · have hy := leftB_yes (v := val h l) (n := n) (by omega) (by rw [hz, Int.zero_mul]; exact ⟨by decide, by decide⟩)
    rw [hy.1, hy.2, hz, Int.zero_mul]
    have z1 : h = 0 := by obtain ⟨a1, _⟩ := hh; obtain ⟨b1, _⟩ := hl; unfold val at hz; omega
    have z2 : l = 0 := by obtain ⟨a1, _⟩ := hh; obtain ⟨b1, _⟩ := hl; unfold val at hz; omega
    subst z1 z2
    clear hz hy hneg n1 n2 hv
    go_enter Try.func42, Try.ntmps42
    go_wp2_with fail
    refine bodyPost_ret (v := .tuple #[.agg #[.int .u64 0, .int .u64 0], .bool true]) (by simp [results, Try.results42, go_sem]) rfl ⟨?_, ?_⟩
    · rfl
    · repeat (first | exact Up.refl _ | refine Up.alloc ?_ _ _ | refine Up.setCell ?_ (by first | (simp; done) | (simp; omega) | omega) _ | refine Up.drewN ?_ _ | refine Up.drew ?_)
  obtain ⟨N, rfl⟩ := Int.eq_ofNat_of_zero_le (show 0 ≤ n by omega)
  have HL := Lib.hid (fun (hq : In2 (val h l * 2 ^ N)) => leftB_yes (v := val h l) (n := (N : Int)) (by omega) (by rw [Int.toNat_natCast]; exact hq))
  have HN := Lib.hid (fun (hq : ¬ In2 (val h l * 2 ^ N)) => leftB_no (v := val h l) (n := (N : Int)) (by rw [Int.toNat_natCast]; exact hq))
  rw [Int.toNat_natCast] at HL
  have ht : (h == 0) = false ∨ ((h == 0) = true ∧ (l == 0) = false) := by
    by_cases z1 : h = 0
    · exact Or.inr ⟨beq_iff_eq.2 z1, beq_eq_false_iff_ne.2 (fun z2 => hz (by rw [z1, z2]; rfl))⟩
    · exact Or.inl (beq_eq_false_iff_ne.2 z1)
  clear hneg n1 hz
  rcases ht with ta | ⟨ta, tb⟩
  all_goals
    go_enter Try.func42, Try.ntmps42
    go_wp2_with fail
    go_loopw [6] (fun u wr => ∃ i : Nat, u = .int .i64 (i : Int) ∧ i ≤ N ∧ In2 (val h l * 2 ^ i) ∧ Up w wr ∧ wr.cell? ⟨w.heap.size, 0, none⟩ = some (.int .u64 (hiZ (val h l * 2 ^ i))) ∧ wr.cell? ⟨w.heap.size, 1, none⟩ = some (.int .u64 (loZ (val h l * 2 ^ i))) ∧ wr.cell? ⟨w.heap.size + 1, 0, none⟩ = some (.int .u64 0) ∧ wr.cell? ⟨w.heap.size + 1, 1, none⟩ = some (.int .u64 0)) (fun u _ => N - (intOf u).toNat)
    case atStart =>
      refine ⟨0, rfl, by omega, ?_, ?_, ?_, ?_, by simp [go_sem], by simp [go_sem]⟩
      · rw [Int.pow_zero, Int.mul_one]; exact hv
      · repeat (first | exact Up.refl _ | refine Up.alloc ?_ _ _ | refine Up.setCell ?_ (by first | (simp; done) | (simp; omega) | omega) _ | refine Up.drewN ?_ _ | refine Up.drew ?_)
      · rw [Int.pow_zero, Int.mul_one, hiZ_val hl]; simp [go_sem]
      · rw [Int.pow_zero, Int.mul_one, loZ_val hl]; simp [go_sem]
    case round =>
      obtain ⟨i, rfl, hi, hx, hup, c0, c1, r0, r1⟩ := hrel
      have HUP := Lib.hid hup
      clear hup
      by_cases hlt : i < N
      · have t0 : decide ((i : Int) < (N : Int)) = true := decide_eq_true (by omega)
        have t0' : decide (i < N) = true := decide_eq_true hlt
        have HD := Lib.hid (fun W => double_up (hiZ (val h l * 2 ^ i)) (loZ (val h l * 2 ^ i)) 0 (hiZ_word hx) (loZ_word _) (by decide) (by decide) W)
        rw [val_hilo] at HD
        have l1 : w.heap.size < wr.heap.size := World.block_lt_of_cell? _ _ c0
        have l2 : w.heap.size + 1 < wr.heap.size := World.block_lt_of_cell? _ _ r0
        by_cases ho : hiZ (val h l * 2 ^ i) / 9223372036854775808 = 0
        · have tq : (hiZ (val h l * 2 ^ i) / 9223372036854775808 != 0) = false := bne_eq_false_iff_eq.2 ho
          obtain ⟨e1, e2⟩ := dbl_small hx ho
          rw [e1, pow_next] at HD
          rw [pow_next] at e2
          have HI := Lib.hid e2
          clear e1 e2 ho hx
          generalize hX : hiZ (val h l * 2 ^ (i + 1)) = X at *
          generalize hY : loZ (val h l * 2 ^ (i + 1)) = Y at *
          have HX := Lib.hid hX
          have HY := Lib.hid hY
          clear hX hY
          generalize hiZ (val h l * 2 ^ i) / 9223372036854775808 = o at *
          generalize hiZ (val h l * 2 ^ i) = x at *
          generalize loZ (val h l * 2 ^ i) = y at *
          go_wp2_with fail
          refine (HD.out _).mono ?_
          rintro e w1 ⟨rfl, hu1⟩
          have d0 := hu1.keep _ _ _ c0
          have d1 := hu1.keep _ _ _ c1
          have s0 := hu1.keep _ _ _ r0
          have s1 := hu1.keep _ _ _ r1
          have up1 := HUP.out.trans hu1
          have z0 := up1.own 0 0
          have z1 := up1.own 0 1
          simp only [Nat.add_zero] at z0 z1
          have HU1 := Lib.hid up1
          have l3 : w.heap.size < w1.heap.size := World.block_lt_of_cell? _ _ d0
          clear hu1 up1 c0 c1 r0 r1
          go_wp2_with fail
          go_roundw
          case rel =>
            refine ⟨i + 1, by go_num, by omega, HI.out, ?_, ?_, ?_, ?_, ?_⟩
            · ((repeat (first | (with_reducible exact Up.refl _) | (with_reducible exact HU1.out) | (with_reducible refine Up.alloc ?_ _ _) | (with_reducible refine Up.setCell ?_ ?_ _) | (with_reducible refine Up.drewN ?_ _) | (with_reducible refine Up.drew ?_))); all_goals (first | (simp; done) | (simp; omega) | omega))
            · rw [HX.out]; simp [go_sem, *]
            · rw [HY.out]; simp [go_sem, *]
            · simp [go_sem, *]
            · simp [go_sem, *]
          case measure => simp only [intOf]; omega
        · have tq : (hiZ (val h l * 2 ^ i) / 9223372036854775808 != 0) = true := bne_iff_ne.2 ho
          have hbig := dbl_big hx ho
          rw [pow_next] at hbig
          have hm := pow_mono hv.1 (show i + 1 ≤ N by omega)
          have HR := Lib.hid (HN.out (by unfold In2; omega))
          clear ho hx hbig hm
          generalize hiZ (dblZ (val h l * 2 ^ i) 0) = X at *
          generalize loZ (dblZ (val h l * 2 ^ i) 0) = Y at *
          generalize hiZ (val h l * 2 ^ i) / 9223372036854775808 = o at *
          generalize hiZ (val h l * 2 ^ i) = x at *
          generalize loZ (val h l * 2 ^ i) = y at *
          go_wp2_with fail
          refine (HD.out _).mono ?_
          rintro e w1 ⟨rfl, hu1⟩
          have d0 := hu1.keep _ _ _ c0
          have d1 := hu1.keep _ _ _ c1
          have s0 := hu1.keep _ _ _ r0
          have s1 := hu1.keep _ _ _ r1
          have up1 := HUP.out.trans hu1
          have z0 := up1.own 0 0
          have z1 := up1.own 0 1
          have z2 := up1.own 1 0
          have z3 := up1.own 1 1
          simp only [Nat.add_zero] at z0 z1
          have HU1 := Lib.hid up1
          clear hu1 up1 c0 c1 r0 r1
          go_wp2_with fail
          refine bodyPost_ret (v := .tuple #[.agg #[.int .u64 0, .int .u64 0], .bool false]) (by simp [results, Try.results42, go_sem, s0, s1]) rfl ⟨?_, ?_⟩
          · rw [HR.out.1, HR.out.2]; rfl
          · ((repeat (first | (with_reducible exact Up.refl _) | (with_reducible exact HU1.out) | (with_reducible refine Up.alloc ?_ _ _) | (with_reducible refine Up.setCell ?_ ?_ _) | (with_reducible refine Up.drewN ?_ _) | (with_reducible refine Up.drew ?_))); all_goals (first | (simp; done) | (simp; omega) | omega))
      · have t0 : decide ((i : Int) < (N : Int)) = false := decide_eq_false (by omega)
        have t0' : decide (i < N) = false := decide_eq_false hlt
        obtain rfl : i = N := by omega
        have HR := Lib.hid (HL.out hx)
        have z2 := HUP.out.own 1 0
        have z3 := HUP.out.own 1 1
        clear hx
        go_wp2_with fail
        refine bodyPost_ret (v := .tuple #[.agg #[.int .u64 (hiZ (val h l * 2 ^ i)), .int .u64 (loZ (val h l * 2 ^ i))], .bool true]) (by simp [results, Try.results42, go_sem, r0, r1]) rfl ⟨?_, ?_⟩
        · rw [HR.out.1, HR.out.2]; rfl
        · ((repeat (first | (with_reducible exact Up.refl _) | (with_reducible exact HUP.out) | (with_reducible refine Up.alloc ?_ _ _) | (with_reducible refine Up.setCell ?_ ?_ _) | (with_reducible refine Up.drewN ?_ _) | (with_reducible refine Up.drew ?_))); all_goals (first | (simp; done) | (simp; omega) | omega))

end Go.Proofs.Ytegaeaonoggmkaa
