/- What the reference's Format returns. -/
import Derived.Test.YtkhgibpginbdcaaWRDiv2
import Derived.Test.YtkhgibpginbdcaaWFormat
import Derived.Test.YtkhgibpginbdcaaWKeep
import Derived.Deep.LoopGhost
import Derived.Deep.RegionHeld3
import Derived.Deep.DeepCutAuto
import Derived.Laws.IdiomStrings
namespace Go.Proofs.Ytkhgibpginbdcaa
open Go.RowKit

theorem rdiv10 (a : Int) (ha : In2 a) (w : World) :
    Calls Try.prog 27 #[.agg #[.int .u64 (hiZ a), .int .u64 (loZ a)], .agg #[.int .u64 0, .int .u64 10]] w fun e w' =>
      e = .returned (.tuple #[.agg #[.int .u64 (hiZ (a / 10)), .int .u64 (loZ (a / 10))], .agg #[.int .u64 (hiZ (a % 10)), .int .u64 (loZ (a % 10))], .bool true]) ∧ Up w w' := by
  have h := rdiv_pos (hiZ a) (loZ a) 0 10 (hiZ_word ha) (loZ_word a) word_0 word_10 (by decide) (Or.inr ⟨by decide, by decide⟩) w
  rw [val_hilo, show val 0 10 = 10 by decide] at h
  exact h

theorem cat_bytes (d : UInt8) (l : List UInt8) : ((⟨[d].toArray⟩ : ByteArray) ++ (⟨l.toArray⟩ : ByteArray)) = ⟨(d :: l).toArray⟩ := by
  apply ByteArray.ext
  simp
theorem tests_v' {y : Int} (h0 : y ≠ 0) : (hiZ y == 0) = false ∨ ((hiZ y == 0) = true ∧ (loZ y == 0) = false) := by
  by_cases z1 : hiZ y = 0
  · exact Or.inr ⟨beq_iff_eq.2 z1, beq_eq_false_iff_ne.2 (fun h => h0 (by unfold hiZ loZ at *; omega))⟩
  · exact Or.inl (beq_eq_false_iff_ne.2 z1)

set_option maxHeartbeats 4000000 in
set_option maxRecDepth 100000 in
theorem rformat_up (v : Int) (hv : In2 v) (w : World) :
    Calls Try.prog 34 #[.agg #[.int .u64 (hiZ v), .int .u64 (loZ v)]] w fun e w' => e = .returned (.string ⟨(decs v).toArray⟩) ∧ Up w w' := by
  go_enter Try.func34, Try.ntmps34
  go_wp2_with fail
  go_loopg [3] v.toNat (fun gk t wr => ∃ (m : Nat) (a : Int) (l : List UInt8), t = .string ⟨l.toArray⟩ ∧ gk = a.toNat ∧ 1 ≤ m ∧ l.length + m = 39 ∧ In2 a ∧ Hid (a.toNat < 10 ^ m) ∧ Hid (decs v = dec m a.toNat ++ l) ∧ Up w wr ∧ wr.cell? ⟨w.heap.size, 0, none⟩ = some (.int .u64 (hiZ a)) ∧ wr.cell? ⟨w.heap.size, 1, none⟩ = some (.int .u64 (loZ a)))
  case atStart =>
    refine ⟨39, v, [], rfl, rfl, by omega, rfl, hv, Lib.hid ?_, Lib.hid ?_, ?_, by simp [go_sem], by simp [go_sem]⟩
    · obtain ⟨p1, p2⟩ := hv
      have : (10 : Nat) ^ 39 = 1000000000000000000000000000000000000000 := by decide
      omega
    · simp [decs]
    · repeat (first | exact Up.refl _ | refine Up.alloc ?_ _ _ | refine Up.setCell ?_ (by first | (simp; done) | (simp; omega) | omega) _ | refine Up.drewN ?_ _ | refine Up.drew ?_)
  case round =>
    obtain ⟨m, a, l, rfl, rfl, m1, hlm, ha, HA, HD, hup, a0, a1⟩ := hrel
    have HUP := Lib.hid hup
    have lr : w.heap.size < wr.heap.size := World.block_lt_of_cell? _ _ a0
    have z0 := hup.own 0 0
    have z1 := hup.own 0 1
    simp only [Nat.add_zero] at z0 z1
    clear hup
    go_upto_region 2 with fail
    go_cut [4, 5] (fun t4 t5 wx => ∃ g k : Nat, t4 = .pointer (some ⟨g, 0, none⟩) ∧ t5 = .pointer (some ⟨k, 0, none⟩) ∧ wr.heap.size ≤ g ∧ wr.heap.size ≤ k ∧ wx.cell? ⟨g, 0, none⟩ = some (.int .u64 (hiZ (a / 10))) ∧ wx.cell? ⟨g, 1, none⟩ = some (.int .u64 (loZ (a / 10))) ∧ wx.cell? ⟨k, 0, none⟩ = some (.int .u64 (hiZ (a % 10))) ∧ wx.cell? ⟨k, 1, none⟩ = some (.int .u64 (loZ (a % 10))) ∧
      Up wr wx ∧ wx.cell? ⟨w.heap.size, 0, none⟩ = some (.int .u64 (hiZ a)) ∧ wx.cell? ⟨w.heap.size, 1, none⟩ = some (.int .u64 (loZ a)))
    case first =>
      go_region_held3 (fun w' => Up wr w' ∧ w'.cell? ⟨w.heap.size, 0, none⟩ = some (.int .u64 (hiZ a)) ∧ w'.cell? ⟨w.heap.size, 1, none⟩ = some (.int .u64 (loZ a)))
        (first | (with_reducible exact keep2 (by assumption) (by assumption)) | (repeat (first | (with_reducible assumption) | (with_reducible exact Hid.out (by assumption)) | (with_reducible exact ⟨Up.refl _, a0, a1⟩) | (with_reducible refine keep2 (Lib.hid ((Up.refl _).alloc _ _)) ?_) | (with_reducible refine keep2 (Lib.hid (Up.refl _).drew) ?_) | (with_reducible refine set2 ?_ (by omega) (by omega) (by omega)))))
        (first
          | (go_at_call 23; (with_reducible refine (rof_up 10 _).mono ?_); rintro e w2 ⟨rfl, hu2⟩; have HU2 := Lib.hid hu2; have HS2 := Lib.hid (keep2 HU2 (by assumption)); obtain ⟨hc2, hz2⟩ := hu2.cells; have hs2 := hu2.size; (try simp at hs2); clear hu2; (try unfold got2); (try (have p2_0 : wr.heap.size < w2.heap.size := by omega)); (try (have p2_1 : wr.heap.size + 1 < w2.heap.size := by omega)))
          | (go_at_call 27; (with_reducible refine (rdiv10 a ha _).mono ?_); rintro e w3 ⟨rfl, hu3⟩; have HU3 := Lib.hid hu3; have HS3 := Lib.hid (keep2 HU3 (by assumption)); obtain ⟨hc3, hz3⟩ := hu3.cells; have hs3 := hu3.size; (try simp at hs3); clear hu3; (try unfold got2); (try (have p3_0 : wr.heap.size < w3.heap.size := by omega)); (try (have p3_1 : wr.heap.size + 1 < w3.heap.size := by omega)); (try (have p3_2 : w2.heap.size < w3.heap.size := by omega)); (try (have p3_3 : w2.heap.size + 1 < w3.heap.size := by omega)))
          )
      all_goals
        go_wp2_with fail
        go_meet
        refine ⟨_, _, rfl, rfl, ?_, ?_, ?_, ?_, ?_, ?_, by assumption⟩
        · omega
        · omega
        all_goals (first | (simp [go_sem, *]; done) | ((have q2 : w2.heap.size < w2.heap.size + 1 + 1 := by omega); (have q3 : wr.heap.size < wr.heap.size + 1 + 1 := by omega); (try (have q4 : wr.heap.size < w2.heap.size + 1 := by omega)); (try (have q5 : wr.heap.size < w2.heap.size + 1 + 1 := by omega)); simp [go_sem, *]; done))
    obtain ⟨g, k, rfl, rfl, lg, lk, g0, g1, k0, k1, hup', a0', a1'⟩ := hcut
    have z0' := (hup'.cells.2 ⟨w.heap.size, 0, none⟩).trans z0
    have z1' := (hup'.cells.2 ⟨w.heap.size, 1, none⟩).trans z1
    have HUP2 := Lib.hid (HUP.out.trans hup')
    have el : loZ (a % 10) = a % 10 := by unfold loZ; omega
    rw [el] at k1
    have d0 : 0 ≤ a % 10 := by omega
    have d1 : a % 10 ≤ 9 := by omega
    have kg : ¬ g = w.heap.size := by omega
    have lw : w.heap.size < wc.heap.size := World.block_lt_of_cell? _ _ a0'
    have lgc : g < wc.heap.size := World.block_lt_of_cell? _ _ g0
    clear hup' a0 a1 z0 z1 el k0
    have hcv : (convert 53 9 (.slice (some ⟨wc.heap.size, 0, none⟩) 1 1)).run Try.prog (wc.alloc (.cells #[.int .u8 (48 + a % 10)] 5)) = .ok (.string ⟨[UInt8.ofNat (48 + a.toNat % 10)].toArray⟩) (wc.alloc (.cells #[.int .u8 (48 + a % 10)] 5)) := by
      refine run_convert_bytes_back (P := Try.prog) (wc.alloc (.cells #[.int .u8 (48 + a % 10)] 5)) 53 9 5 ⟨wc.heap.size, 0, none⟩ 1 [UInt8.ofNat (48 + a.toNat % 10)] (by kernel_rfl) (by kernel_rfl) (by kernel_rfl) (fun j hj => ?_)
      obtain rfl : j = 0 := by simpa using hj
      rw [add_at, World.cell?_alloc_at _ _ _ _ rfl]
      show some (Value.int .u8 (48 + a % 10)) = some (Value.int .u8 ((UInt8.ofNat (48 + a.toNat % 10)).toNat : Int))
      rw [digit_toNat _ (by omega)]
      congr 2
      obtain ⟨p1, _⟩ := ha
      omega
    generalize hDD : (⟨[UInt8.ofNat (48 + a.toNat % 10)].toArray⟩ : ByteArray) = DD at hcv
    generalize hLL : (⟨l.toArray⟩ : ByteArray) = LL
    have hcat : DD ++ LL = ⟨(UInt8.ofNat (48 + a.toNat % 10) :: l).toArray⟩ := by rw [← hDD, ← hLL]; exact cat_bytes _ _
    have hsz : ¬ 9223372036854775807 < DD.size + LL.size := by
      have s1 : DD.size = 1 := by rw [← hDD]; rfl
      have s2 : LL.size = l.length := by rw [← hLL]; rfl
      omega
    have HCAT := Lib.hid hcat
    clear hDD hLL hcat
    have ha' : In2 (a / 10) := by obtain ⟨p1, p2⟩ := ha; exact ⟨by omega, by omega⟩
    by_cases hz : a / 10 = 0
    · have t1 : (hiZ (a / 10) == 0) = true := by rw [hz]; decide
      have t2 : (loZ (a / 10) == 0) = true := by rw [hz]; decide
      have HZ := Lib.hid hz
      clear hz
      go_wp2_with fail
      go_ret
      refine ⟨?_, ?_⟩
      · have hD := HD.out
        obtain ⟨m', rfl⟩ : ∃ m', m = m' + 1 := ⟨m - 1, by omega⟩
        rw [dec_last (by have := HZ.out; omega)] at hD
        rw [hD]
        exact congrArg (fun x => Ending.returned (Value.string x)) HCAT.out
      · repeat (first | exact Up.refl _ | (refine Up.trans ?_ (HUP2.out); skip) | refine Up.alloc ?_ _ _ | refine Up.setCell ?_ (by first | (simp; done) | (simp; omega) | omega) _ | refine Up.drewN ?_ _ | refine Up.drew ?_)
    · have HZ := Lib.hid hz
      rcases tests_v' hz with t1 | ⟨t1, t2⟩
      all_goals
        clear hz
        go_wp2_with fail
        go_roundg (a / 10).toNat
        case measure => have := HZ.out; obtain ⟨p1, _⟩ := ha; omega
        case rel =>
          have hz := HZ.out
          have hD := HD.out
          have hA := HA.out
          obtain ⟨m', rfl⟩ : ∃ m', m = m' + 1 := ⟨m - 1, by omega⟩
          have e1 : (a / 10).toNat = a.toNat / 10 := by obtain ⟨p1, p2⟩ := ha; omega
          have m3 : m' ≠ 0 := fun e => by subst e; rw [Nat.pow_one] at hA; obtain ⟨p1, p2⟩ := ha; omega
          refine ⟨m', a / 10, UInt8.ofNat (48 + a.toNat % 10) :: l, congrArg Value.string HCAT.out, rfl, by omega, by simp; omega, ha', Lib.hid (by rw [e1]; rw [Nat.pow_succ] at hA; omega), Lib.hid ?_, ?_, by simp [go_sem, *], by simp [go_sem, *]⟩
          · rw [hD, dec_more (by obtain ⟨p1, p2⟩ := ha; omega), e1, List.append_assoc]
            rfl
          · repeat (first | exact Up.refl _ | (refine Up.trans ?_ (HUP2.out); skip) | refine Up.alloc ?_ _ _ | refine Up.setCell ?_ (by first | (simp; done) | (simp; omega) | omega) _ | refine Up.drewN ?_ _ | refine Up.drew ?_)

end Go.Proofs.Ytkhgibpginbdcaa
