/- binomial and older of package poly. -/
import Derived.Test.YtinjainclhfahaaRows
import Derived.Test.YtinjainclhfahaaZPRowq105
namespace Go.Proofs.Ytinjainclhfahaa
open Go.RowKit
set_option linter.unusedVariables false

theorem ch_step {n i : Nat} (hn : n ≤ 4) (hi : i < n) : IntKind.i64.wrap ((n : Int) - i) = (n : Int) - i ∧ IntKind.u64.wrap ((n : Int) - i) = (n : Int) - i ∧ IntKind.u64.wrap (chZ n i * ((n : Int) - i)) = chZ n i * ((n : Int) - i) ∧ IntKind.i64.wrap ((i : Int) + 1) = (i : Int) + 1 ∧ IntKind.u64.wrap ((i : Int) + 1) = (i : Int) + 1 ∧ (chZ n i * ((n : Int) - i)).tdiv ((i : Int) + 1) = chZ n (i + 1) ∧ IntKind.u64.wrap (chZ n (i + 1)) = chZ n (i + 1) ∧ ¬ ((i : Int) + 1 = 0) := by
  rcases (show n = 1 ∨ n = 2 ∨ n = 3 ∨ n = 4 by omega) with h | h | h | h <;> subst h <;>
  rcases (show i = 0 ∨ i = 1 ∨ i = 2 ∨ i = 3 by omega) with g | g | g | g <;> subst g <;> first | omega | decide
set_option maxHeartbeats 4000000 in
set_option maxRecDepth 100000 in
theorem binomial_any (n k : Nat) (hn : n ≤ 4) (hk : k ≤ n) (w : World) :
    Calls Try.prog 66 #[.int .i64 n, .int .i64 k] w fun e w' => e = .returned (.int .u64 (chZ n k)) ∧ w = w' := by
  go_enter Try.func66, Try.ntmps66
  go_wp2_with fail
  go_loopw [5, 8] (fun s t wr => ∃ i : Nat, s = .int .u64 (chZ n i) ∧ t = .int .i64 i ∧ i ≤ k ∧ w = wr) (fun _ t _ => k - (intOf t).toNat)
  case atStart => exact ⟨0, by cases n <;> rfl, rfl, Nat.zero_le _, rfl⟩
  case round =>
    obtain ⟨i, rfl, rfl, hi, rfl⟩ := hrel
    by_cases h : i < k
    case neg =>
      obtain rfl : i = k := by omega
      have f1 : decide ((i : Int) < i) = false := decide_eq_false (by omega)
      go_wp2_with fail
      go_ret
      exact ⟨rfl, rfl⟩
    obtain ⟨e1, e2, e3, e4, e5, e6, e7, e8⟩ := ch_step hn (show i < n by omega)
    have f1 : (i : Int) < k := by omega
    obtain ⟨c1, hc1⟩ : ∃ z, z = chZ n (i + 1) := ⟨_, rfl⟩
    rw [← hc1] at e6 e7
    have Hc := Lib.hid hc1
    generalize chZ n i = c0 at *
    clear hc1
    go_wp2_with fail
    go_roundw
    case rel => exact ⟨i + 1, by rw [Hc.out], by go_num, by omega, by first | rfl | trivial⟩
    case measure => simp [intOf]; omega
set_option maxHeartbeats 4000000 in
set_option maxRecDepth 100000 in
theorem older_up (d : Int) (j k : Nat) (A : Option Addr) (L : List Int) (hd0 : 0 ≤ d) (hd1 : d ≤ 16777217) (hj : j ≤ 4) (hI : ∀ x ∈ L, In2 x) (w : World) (hS : SG cW w A (j + 1) L) :
    Calls Try.prog 60 #[.slice A (j + 1) k, .int .u64 d] w fun e w' => e = .returned (.tuple #[.agg #[.int .u64 (hiZ (fit2 (reS d L j (j + 1)))), .int .u64 (loZ (fit2 (reS d L j (j + 1))))], .bool (fits2 (reS d L j (j + 1)))]) ∧ Up w w' := by
  have hn : ∀ x ∈ L, 0 ≤ x := fun x hx => (hI x hx).1
  have HS := Lib.hid hS
  have HI := Lib.hid hI
  have HB : Hid (∀ i, i ≤ j → ¬ In2 (reS d L j (i + 1)) → fit2 (reS d L j (j + 1)) = 0 ∧ fits2 (reS d L j (j + 1)) = false) := Lib.hid (fun i hi h => by
    have := fits2_no (reS_far hd0 hn j (show i + 1 ≤ j + 1 by omega) h)
    exact ⟨by unfold fit2; rw [this]; rfl, this⟩)
  have HT : Hid (In2 (reS d L j (j + 1)) → fit2 (reS d L j (j + 1)) = reS d L j (j + 1) ∧ fits2 (reS d L j (j + 1)) = true) := Lib.hid (fun h => ⟨fit2_yes h, fits2_yes h⟩)
  have HQ : Hid (∀ i, ¬ In2 (d ^ (j - i) * chZ j i * L.getD i 0) → ¬ In2 (reS d L j (i + 1))) := Lib.hid (fun i h g => h (reS_in hd0 hn j i g).2)
  have KW := Lib.hid (fun D (hD : D ≤ 4) W => wpow_v d D hd0 hd1 hD W)
  have KB := Lib.hid (fun i (hi : i ≤ j) W => binomial_any j i hj hi W)
  have KO := Lib.hid (fun i (hi : i ≤ j) W => wof_v (chZ j i) ⟨by have := (chZ_le hj hi).1; omega, by have := (chZ_le hj hi).2; omega⟩ W)
  have KM : Hid (∀ i, i ≤ j → ∀ W, Calls Try.prog 56 #[.agg #[.int .u64 (hiZ (d ^ (j - i))), .int .u64 (loZ (d ^ (j - i)))], .agg #[.int .u64 (hiZ (chZ j i)), .int .u64 (loZ (chZ j i))]] W fun e w' => e = .returned (.tuple #[.agg #[.int .u64 (hiZ (d ^ (j - i) * chZ j i)), .int .u64 (loZ (d ^ (j - i) * chZ j i))], .bool true]) ∧ Up W w') := Lib.hid (fun i hi W => by
    have q := weight_in hd0 hd1 hj hi
    have h := wmul_v (d ^ (j - i)) (chZ j i) (age_in hd0 hd1 (show j - i ≤ 4 by omega)) ⟨chZ_nn j i, by have := (chZ_le hj hi).2; omega⟩ W
    rw [fits2_yes q, fit2_yes q] at h
    exact h)
  have HWI : Hid (∀ i, i ≤ j → In2 (d ^ (j - i) * chZ j i)) := Lib.hid (fun i hi => weight_in hd0 hd1 hj hi)
  generalize fit2 (reS d L j (j + 1)) = V at HB HT ⊢
  generalize fits2 (reS d L j (j + 1)) = r at HB HT ⊢
  obtain ⟨N, hN⟩ : ∃ z, z = j + 1 := ⟨_, rfl⟩
  rw [← hN] at HS ⊢
  have kl : IntKind.i64.wrap ((N : Int) - 1) = j := by rw [IntKind.wrap_i64]; omega
  have HN := Lib.hid hN
  have hN5 : N ≤ 5 := by omega
  clear hI hS hn hd0 hd1 hN
  go_enter Try.func60, Try.ntmps60
  go_wp2_with fail
  go_loopw [22] (fun t wr => ∃ (i : Nat) (s : Int), t = .int .i64 i ∧ i ≤ N ∧ Hid (In2 s) ∧ Hid (s = reS d L j i) ∧ Sm w wr (w.heap.size + 1) s) (fun t _ => N - (intOf t).toNat)
  case atStart =>
    refine ⟨0, 0, rfl, Nat.zero_le _, Lib.hid (⟨by decide, by decide⟩ : In2 0), Lib.hid rfl, ⟨?_, by simp [go_sem], by simp [go_sem], by simp [go_sem, hiZ], by simp [go_sem, loZ]⟩⟩
    repeat (first | exact Up.refl _ | refine Up.alloc ?_ _ _ | refine Up.setCell ?_ (by first | (simp; done) | (simp; omega) | omega) _ | refine Up.drewN ?_ _ | refine Up.drew ?_)
  case round =>
    obtain ⟨i, s, rfl, hin, H2, Hs, hM⟩ := hrel
    have z0 := fun o => hM.up.ownGe (Nat.le_refl w.heap.size) o
    have z1 := fun o => hM.up.ownGe (Nat.le_succ w.heap.size) o
    have lw : w.heap.size + 1 < wr.heap.size := World.block_lt_of_cell? _ _ hM.s0
    have HM := Lib.hid hM
    obtain ⟨_, r0, r1, s0, s1⟩ := hM
    by_cases hi : i < N
    case neg =>
      obtain rfl : i = N := by omega
      have f1 : decide ((i : Int) < i) = false := decide_eq_false (by omega)
      obtain ⟨rfl, rfl⟩ : s = V ∧ true = r := by
        have := HT.out (by rw [← HN.out, ← Hs.out]; exact H2.out)
        exact ⟨by rw [this.1, ← HN.out]; exact Hs.out, this.2.symm⟩
      clear HB HT HQ KW KB KO KM HWI
      go_wp2_with fail
      refine bodyPost_ret (v := .tuple #[.agg #[.int .u64 (hiZ s), .int .u64 (loZ s)], .bool true]) (by simp [results, Try.results60, go_sem, r0, r1]) rfl ⟨rfl, ?_⟩
      ((repeat (first | (with_reducible exact Up.refl _) | (with_reducible exact HM.out.up) | (with_reducible refine Up.alloc ?_ _ _) | (with_reducible refine Up.setCell ?_ ?_ _) | (with_reducible refine Up.drewN ?_ _) | (with_reducible refine Up.drew ?_))); all_goals (first | (simp; done) | (simp; omega) | omega))
    have hij : i ≤ j := by have := HN.out; omega
    obtain ⟨b, o, rfl, x0, x1⟩ := wide_at (HS.out.up HM.out.up) hi
    have hb : b < wr.heap.size := World.block_lt_of_cell? _ _ x0
    have K1 := Lib.hid (KW.out (j - i) (by omega))
    have K2 := Lib.hid (KB.out i hij)
    have K3 := Lib.hid (KO.out i hij)
    have K4 := Lib.hid (KM.out i hij)
    have ix := getD_in HI.out i
    have iW := HWI.out i hij
    have K5 := Lib.hid (fun W => wmul_v (d ^ (j - i) * chZ j i) (L.getD i 0) iW ix W)
    have iT := fit2_in2 (d ^ (j - i) * chZ j i * L.getD i 0)
    have K6 := Lib.hid (fun W => wadd_v s (fit2 (d ^ (j - i) * chZ j i * L.getD i 0)) H2.out iT W)
    have HE : Hid (fits2 (d ^ (j - i) * chZ j i * L.getD i 0) = true → s + fit2 (d ^ (j - i) * chZ j i * L.getD i 0) = reS d L j (i + 1)) := Lib.hid (fun h => by
      rw [fit2_yes (fits2_in h), Hs.out]; rfl)
    have B1 : Hid (fits2 (d ^ (j - i) * chZ j i * L.getD i 0) = false → V = 0 ∧ r = false) := Lib.hid (fun h => HB.out i hij (HQ.out i (fun g => by rw [fits2_yes g] at h; cases h)))
    have B2 : Hid (fits2 (d ^ (j - i) * chZ j i * L.getD i 0) = true → fits2 (s + fit2 (d ^ (j - i) * chZ j i * L.getD i 0)) = false → V = 0 ∧ r = false) := Lib.hid (fun h1 h => HB.out i hij (by rw [← HE.out h1]; exact fun g => by rw [fits2_yes g] at h; cases h))
    have B3 : Hid (fits2 (d ^ (j - i) * chZ j i * L.getD i 0) = true → fits2 (s + fit2 (d ^ (j - i) * chZ j i * L.getD i 0)) = true → In2 (fit2 (s + fit2 (d ^ (j - i) * chZ j i * L.getD i 0))) ∧ fit2 (s + fit2 (d ^ (j - i) * chZ j i * L.getD i 0)) = reS d L j (i + 1)) := Lib.hid (fun h1 h => ⟨fit2_in2 _, by rw [fit2_yes (fits2_in h)]; exact HE.out h1⟩)
    clear HB HT HQ KW KB KO KM HWI HE iW ix iT
    obtain ⟨R, hR⟩ : ∃ z, z = reS d L j (i + 1) := ⟨_, rfl⟩
    rw [← hR] at B3
    have HRr := Lib.hid hR
    generalize fits2 (s + fit2 (d ^ (j - i) * chZ j i * L.getD i 0)) = fS at *
    generalize fit2 (s + fit2 (d ^ (j - i) * chZ j i * L.getD i 0)) = S2 at *
    generalize fits2 (d ^ (j - i) * chZ j i * L.getD i 0) = fT at *
    generalize fit2 (d ^ (j - i) * chZ j i * L.getD i 0) = T at *
    generalize d ^ (j - i) * chZ j i = Wt at *
    generalize L.getD i 0 = x at *
    generalize d ^ (j - i) = P at *
    generalize chZ j i = C at *
    obtain ⟨D, hD⟩ : ∃ z, z = j - i := ⟨_, rfl⟩
    rw [← hD] at K1
    have kD : IntKind.i64.wrap ((j : Int) - i) = D := by rw [IntKind.wrap_i64]; omega
    have f1 : (i : Int) < N := by omega
    have f2 : (0 : Int) ≤ i := by omega
    have HW : Hid (Up w wr) := Lib.hid HM.out.up
    have Ea := fun c t o => ((Up.refl wr).alloc c t).cells.1 w.heap.size o (by omega)
    have Eb := fun c t o => ((Up.refl wr).alloc c t).cells.1 (w.heap.size + 1) o lw
    clear hR hD
    go_upto_region 7 with (go_at_call 47; (with_reducible refine (K1.out _).mono ?_); rintro e w1 ⟨rfl, hu⟩; obtain ⟨U1, E1⟩ := hold3 w w.heap.size (w.heap.size + 1) wr.heap.size hu; clear hu)
    refine (show ∀ ws : World, ws = _ → Code.wp _ _ _ _ ws from fun ws hws => ?_) _ rfl
    obtain ⟨Us, Es⟩ := hold4 w w.heap.size (w.heap.size + 1) wr.heap.size w1.heap.size (Up.of_eq hws)
    clear hws
    go_cut [12, 13] (fun s t wx => ∃ g : Nat, s = .pointer (some ⟨g, 0, none⟩) ∧ t = .bool true ∧ ws.heap.size ≤ g ∧ wx.cell? ⟨g, 0, none⟩ = some (.int .u64 (hiZ Wt)) ∧ wx.cell? ⟨g, 1, none⟩ = some (.int .u64 (loZ Wt)) ∧ Hid (Up ws wx))
    case first =>
      go_region_held3 (KB1 w1.heap.size ws ws) (first | (with_reducible exact KB1.start (Lib.hid (Up.refl ws))) | (with_reducible exact KB1.next (by assumption) (by assumption)) | (repeat (first | (with_reducible assumption) | (with_reducible exact Hid.out (by assumption)) | (with_reducible exact KB1.base (Lib.hid (Up.refl ws))) | (with_reducible exact KB1.start (Lib.hid (Up.refl ws))) | (with_reducible refine KB1.next ((Up.refl _).alloc _ _) ?_) | (with_reducible refine KB1.next (Up.refl _).drew ?_) | (with_reducible refine KB1.set ?_ (by first | omega | (simp; done) | (simp; omega)) (by first | omega | (simp; done) | (simp; omega)))))) (first
        | (go_at_call 66; (with_reducible refine (K2.out _).mono ?_); rintro e w' ⟨rfl, rfl⟩)
        | (go_at_call 57; (with_reducible refine (K3.out _).mono ?_); rintro e w2 ⟨rfl, hu2⟩; have HS2 := Lib.hid (KB1.next hu2 (by assumption)); have hc2 := hu2.cells.1; have hz2 := hu2.cells.2; have hs2 := hu2.size; (try simp at hs2); (try (have hg0_2 : ws.heap.size < w2.heap.size := by omega)); (try (have hg1_2 : w1.heap.size < w2.heap.size := by omega)))
        | (go_at_call 56; (with_reducible refine (K4.out _).mono ?_); rintro e w3 ⟨rfl, hu3⟩; have HS3 := Lib.hid (KB1.next hu3 (by assumption)); have hc3 := hu3.cells.1; have hz3 := hu3.cells.2; have hs3 := hu3.size; (try simp at hs3); (try (have hg0_3 : ws.heap.size < w3.heap.size := by omega)); (try (have hg1_3 : w1.heap.size < w3.heap.size := by omega)); (try (have hg2_3 : w2.heap.size < w3.heap.size := by omega))))
      all_goals
        go_wp2_with fail
        go_meet
        refine ⟨_, rfl, rfl, ?_, ?_, ?_, Lib.hid (KB1.to (by assumption))⟩
        · first | omega | (simp; done) | (simp; omega)
        all_goals (first | (simp [go_sem, *]; done) | (simp [go_sem]; done))
    obtain ⟨q, rfl, rfl, hq, q0, q1, HQ⟩ := hcut
    have hqc : q < wc.heap.size := World.block_lt_of_cell? _ _ q0
    obtain ⟨Uc, Ec⟩ := hold4 w w.heap.size (w.heap.size + 1) wr.heap.size w1.heap.size HQ.out
    clear HQ hq
    cases fT
    case false =>
      obtain ⟨rfl, rfl⟩ := B1.out rfl
      go_wp2_with (go_at_call 56; (with_reducible refine (K5.out _).mono ?_); rintro e w3 ⟨rfl, hu⟩; obtain ⟨U3, E3⟩ := hold5 w w.heap.size (w.heap.size + 1) wr.heap.size w1.heap.size q hu; clear hu; have zh := fun o => U3.out.ownGe (Nat.le_refl w.heap.size) o)
      refine bodyPost_ret (v := .tuple #[.agg #[.int .u64 0, .int .u64 0], .bool false]) (by simp [results, Try.results60, go_sem, E1, Es, Ec, E3, Ea, r0, r1]) rfl ⟨rfl, ?_⟩
      ((repeat (first | (with_reducible exact Up.refl _) | (with_reducible exact U3.out) | (with_reducible refine Up.alloc ?_ _ _) | (with_reducible refine Up.setCell ?_ ?_ _) | (with_reducible refine Up.drewN ?_ _) | (with_reducible refine Up.drew ?_))); all_goals (first | (simp; done) | (simp; omega) | omega))
    cases fS
    case false =>
      obtain ⟨rfl, rfl⟩ := B2.out rfl rfl
      go_wp2_with (first
        | (go_at_call 56; (with_reducible refine (K5.out _).mono ?_); rintro e w3 ⟨rfl, hu⟩; obtain ⟨U3, E3⟩ := hold5 w w.heap.size (w.heap.size + 1) wr.heap.size w1.heap.size q hu; clear hu; have zh := fun o => U3.out.ownGe (Nat.le_refl w.heap.size) o)
        | (go_at_call 55; (with_reducible refine (K6.out _).mono ?_); rintro e w4 ⟨rfl, hu⟩; obtain ⟨U4, E4⟩ := hold2 w w.heap.size (w.heap.size + 1) hu; clear hu; have zf := fun o => U4.out.ownGe (Nat.le_refl w.heap.size) o; have ze := fun o => U4.out.ownGe (Nat.le_succ w.heap.size) o))
      refine bodyPost_ret (v := .tuple #[.agg #[.int .u64 0, .int .u64 0], .bool false]) (by simp [results, Try.results60, go_sem, E1, Es, Ec, E3, E4, Ea, r0, r1]) rfl ⟨rfl, ?_⟩
      ((repeat (first | (with_reducible exact Up.refl _) | (with_reducible exact U4.out) | (with_reducible refine Up.alloc ?_ _ _) | (with_reducible refine Up.setCell ?_ ?_ _) | (with_reducible refine Up.drewN ?_ _) | (with_reducible refine Up.drew ?_))); all_goals (first | (simp; done) | (simp; omega) | omega))
    obtain ⟨iS, eS⟩ := B3.out rfl rfl
    have IS := Lib.hid iS
    have ES := Lib.hid eS
    clear iS eS B1 B2 B3
    go_wp2_with (first
      | (go_at_call 56; (with_reducible refine (K5.out _).mono ?_); rintro e w3 ⟨rfl, hu⟩; obtain ⟨U3, E3⟩ := hold5 w w.heap.size (w.heap.size + 1) wr.heap.size w1.heap.size q hu; clear hu; have zh := fun o => U3.out.ownGe (Nat.le_refl w.heap.size) o)
      | (go_at_call 55; (with_reducible refine (K6.out _).mono ?_); rintro e w4 ⟨rfl, hu⟩; obtain ⟨U4, E4⟩ := hold2 w w.heap.size (w.heap.size + 1) hu; clear hu; have zf := fun o => U4.out.ownGe (Nat.le_refl w.heap.size) o; have ze := fun o => U4.out.ownGe (Nat.le_succ w.heap.size) o))
    have hSm : Sm w w4 (w.heap.size + 1) s := ⟨U4.out, by simp [go_sem, E1, Es, Ec, E3, E4, Ea, r0], by simp [go_sem, E1, Es, Ec, E3, E4, Ea, r1], by simp [go_sem, E1, Es, Ec, E3, E4, Eb, s0], by simp [go_sem, E1, Es, Ec, E3, E4, Eb, s1]⟩
    go_roundw
    case rel => exact ⟨i + 1, S2, by go_num, by omega, IS, Lib.hid (ES.out.trans HRr.out), by simpa using hSm.set (u := S2) (by omega)⟩
    case measure => simp [intOf]; omega
end Go.Proofs.Ytinjainclhfahaa
