/- Package marks: validDistances and Valid, with one rule. -/
import Derived.Test.YtafkoddgefcpnaaRows
import Derived.Test.YtafkoddgefcpnaaZKValq178
namespace Go.Proofs.Ytafkoddgefcpnaa
open Go.RowKit
set_option linter.unusedVariables false

set_option maxHeartbeats 4000000 in
set_option maxRecDepth 100000 in
theorem validDistances_up (nr : Mrk → Mrk → Bool) (ok : Mrk → Prop) (b1 a1 : Nat) (n k : Nat) (A : Option Addr) (X : List Mrk) (hn : n ≤ 50000) (w : World) (hok : ∀ j, j < n → ok (X.getD j mk0)) (hnr : (∀ P M : Mrk, ok P → ok M → ∀ W, Up w W → Calls Try.prog 106 #[.agg #[.int .i64 P.sq, .int .i64 P.t, .int .i64 P.n, .int .i64 P.s, .int .i64 P.q, .int .i64 P.lo, .int .i64 P.hi], .agg #[.int .i64 M.sq, .int .i64 M.t, .int .i64 M.n, .int .i64 M.s, .int .i64 M.q, .int .i64 M.lo, .int .i64 M.hi], .pointer (some ⟨b1, 0, none⟩), .pointer (some ⟨a1, 0, none⟩)] W fun e w' => e = .returned (.bool (nr P M)) ∧ Up W w')) (hS : SG cM w A n X) :
    Calls Try.prog 108 #[.slice A n k, .func (.func 106) #[] #[.pointer (some ⟨b1, 0, none⟩), .pointer (some ⟨a1, 0, none⟩)]] w fun e w' => e = .returned (.bool (dfB nr X)) ∧ Up w w' := by
  have HL := Lib.hid hS.1
  have HS := Lib.hid hS
  have HK := Lib.hid hok
  have KC := Lib.hid hnr
  have HB : Hid (∀ j, j < n → 1 < j → nr (X.getD (j - 2) mk0) (X.getD j mk0) = true → dfB nr X = false) := Lib.hid (fun j hj h1 h => decide_eq_false (fun hp => by rw [hp j (by rw [HL.out]; exact hj) h1] at h; cases h))
  have HT : Hid ((∀ j, j < n → 1 < j → nr (X.getD (j - 2) mk0) (X.getD j mk0) = false) → dfB nr X = true) := Lib.hid (fun h => decide_eq_true (by rw [HL.out]; exact h))
  generalize dfB nr X = r at *
  clear hS hok hnr
  go_enter Try.func108, Try.ntmps108
  go_wp2_with fail
  go_loopw [5] (fun t wr => ∃ p : Nat, t = .int .i64 ((p : Int) + 2) ∧ (p + 2 ≤ n ∨ p = 0) ∧ Hid (∀ j, j < p + 2 → 1 < j → nr (X.getD (j - 2) mk0) (X.getD j mk0) = false) ∧ Hid (Up w wr)) (fun t _ => n + 2 - (intOf t).toNat)
  case atStart => exact ⟨0, by simp, Or.inr rfl, Lib.hid (fun j h1 h2 => absurd h1 (by omega)), Lib.hid (Up.refl w)⟩
  case round =>
    obtain ⟨p, rfl, hp, HG, HW⟩ := hrel
    by_cases hx : p + 2 < n
    · obtain ⟨b, o, rfl, _⟩ := mrk_at (HS.out.up HW.out) mk0 hx
      obtain ⟨x0, x1, x2, x3, x4, x5, x6⟩ := mrk_prev (HS.out.up HW.out) hx
      obtain ⟨d0, d1, d2, d3, d4, d5, d6⟩ := mrk_prev (HS.out.up HW.out) (show p < n by omega)
      have K7 := Lib.hid (KC.out (X.getD p mk0) (X.getD (p + 2) mk0) (HK.out _ (by omega)) (HK.out _ hx))
      have HX : Hid (nr (X.getD p mk0) (X.getD (p + 2) mk0) = true → r = false) := Lib.hid (fun h => HB.out (p + 2) hx (by omega) h)
      have HA : Hid (nr (X.getD p mk0) (X.getD (p + 2) mk0) = false → ∀ j, j < p + 1 + 2 → 1 < j → nr (X.getD (j - 2) mk0) (X.getD j mk0) = false) := Lib.hid (fun h j h1 h2 => by
        rcases Nat.lt_or_ge j (p + 2) with y | y
        · exact HG.out j y h2
        · obtain rfl : j = p + 2 := by omega
          exact h)
      generalize X.getD p mk0 = Q0 at *
      generalize X.getD (p + 2) mk0 = M at *
      obtain ⟨sq, t, nn, s, qq, lo, hi⟩ := M
      obtain ⟨sq1, t1, nn1, s1, qq1, lo1, hi1⟩ := Q0
      simp only at d0 d1 d2 d3 d4 d5 d6 x0 x1 x2 x3 x4 x5 x6 K7
      have f20 : (p : Int) + 2 < n := by omega
      have f21 : (p : Int) < n := by omega
      have f30 : (0 : Int) ≤ (p : Int) + 2 := by omega
      have f31 : (0 : Int) ≤ p := by omega
      have f34 : ((p : Int) + 2).toNat = p + 2 := by omega
      have f35 : (p : Int) + 2 - 2 = p := by omega
      have f36 : IntKind.i64.wrap (p : Int) = p := by rw [IntKind.wrap_i64]; omega
      have HSS : Hid (Up w wr ∧ wr.cell? ⟨b, o + p * 7, none⟩ = some (.int .i64 sq1) ∧ wr.cell? ⟨b, o + p * 7 + 1, none⟩ = some (.int .i64 t1) ∧ wr.cell? ⟨b, o + p * 7 + 2, none⟩ = some (.int .i64 nn1) ∧ wr.cell? ⟨b, o + p * 7 + 3, none⟩ = some (.int .i64 s1) ∧ wr.cell? ⟨b, o + p * 7 + 4, none⟩ = some (.int .i64 qq1) ∧ wr.cell? ⟨b, o + p * 7 + 5, none⟩ = some (.int .i64 lo1) ∧ wr.cell? ⟨b, o + p * 7 + 6, none⟩ = some (.int .i64 hi1) ∧ wr.cell? ⟨b, o + (p + 2) * 7, none⟩ = some (.int .i64 sq) ∧ wr.cell? ⟨b, o + (p + 2) * 7 + 1, none⟩ = some (.int .i64 t) ∧ wr.cell? ⟨b, o + (p + 2) * 7 + 2, none⟩ = some (.int .i64 nn) ∧ wr.cell? ⟨b, o + (p + 2) * 7 + 3, none⟩ = some (.int .i64 s) ∧ wr.cell? ⟨b, o + (p + 2) * 7 + 4, none⟩ = some (.int .i64 qq) ∧ wr.cell? ⟨b, o + (p + 2) * 7 + 5, none⟩ = some (.int .i64 lo) ∧ wr.cell? ⟨b, o + (p + 2) * 7 + 6, none⟩ = some (.int .i64 hi)) := Lib.hid ⟨HW.out, d0, d1, d2, d3, d4, d5, d6, x0, x1, x2, x3, x4, x5, x6⟩
      clear d0 d1 d2 d3 d4 d5 d6 x0 x1 x2 x3 x4 x5 x6 HG
      cases hk : nr ⟨sq1, t1, nn1, s1, qq1, lo1, hi1⟩ ⟨sq, t, nn, s, qq, lo, hi⟩ with
      | true =>
        obtain rfl : r = false := HX.out hk
        rw [hk] at K7
        clear hk HX HA HB HT
        go_wp2_with fail
        refine wp_region_held_drew (S := fun w' => Up w w' ∧ w'.cell? ⟨b, o + p * 7, none⟩ = some (.int .i64 sq1) ∧ w'.cell? ⟨b, o + p * 7 + 1, none⟩ = some (.int .i64 t1) ∧ w'.cell? ⟨b, o + p * 7 + 2, none⟩ = some (.int .i64 nn1) ∧ w'.cell? ⟨b, o + p * 7 + 3, none⟩ = some (.int .i64 s1) ∧ w'.cell? ⟨b, o + p * 7 + 4, none⟩ = some (.int .i64 qq1) ∧ w'.cell? ⟨b, o + p * 7 + 5, none⟩ = some (.int .i64 lo1) ∧ w'.cell? ⟨b, o + p * 7 + 6, none⟩ = some (.int .i64 hi1) ∧ w'.cell? ⟨b, o + (p + 2) * 7, none⟩ = some (.int .i64 sq) ∧ w'.cell? ⟨b, o + (p + 2) * 7 + 1, none⟩ = some (.int .i64 t) ∧ w'.cell? ⟨b, o + (p + 2) * 7 + 2, none⟩ = some (.int .i64 nn) ∧ w'.cell? ⟨b, o + (p + 2) * 7 + 3, none⟩ = some (.int .i64 s) ∧ w'.cell? ⟨b, o + (p + 2) * 7 + 4, none⟩ = some (.int .i64 qq) ∧ w'.cell? ⟨b, o + (p + 2) * 7 + 5, none⟩ = some (.int .i64 lo) ∧ w'.cell? ⟨b, o + (p + 2) * 7 + 6, none⟩ = some (.int .i64 hi)) (by kernel_rfl) ?hB88 (fun hHeld => ?_)
        case hB88 => (first | (with_reducible assumption) | (with_reducible exact keepK14 (Lib.hid (Up.refl _).drew) HSS.out) | (with_reducible exact HX2.out))
        refine wpAnyH_take (i := 0) (oi := ⟨_, _, _, _, _, _⟩) (v := ?v89) rfl (by kernel_rfl) (by kernel_rfl) (by kernel_rfl) (fun _ _ _ h => h) (Or.inl ⟨by rfl, ?hy89⟩) (by assumption) ?_
        case hy89 => (intro w hSw; (try dsimp only at hSw); go_simp; (try (with_reducible rfl)))
        (try simp only [Act.put, List.setIfInBounds_toArray, List.set_cons_zero, List.set_cons_succ])
        refine wpAnyH_take (i := 1) (oi := ⟨_, _, _, _, _, _⟩) (v := ?v90) rfl (by kernel_rfl) (by kernel_rfl) (by kernel_rfl) (fun _ _ _ h => h) (Or.inl ⟨by rfl, ?hy90⟩) (by assumption) ?_
        case hy90 => (intro w hSw; (try dsimp only at hSw); go_simp; (try (with_reducible rfl)))
        (try simp only [Act.put, List.setIfInBounds_toArray, List.set_cons_zero, List.set_cons_succ])
        refine wpAnyH_take (i := 2) (oi := ⟨_, _, _, _, _, _⟩) (v := ?v91) rfl (by kernel_rfl) (by kernel_rfl) (by kernel_rfl) (fun _ _ _ h => h) (Or.inl ⟨by rfl, ?hy91⟩) (by assumption) ?_
        case hy91 => (intro w hSw; (try dsimp only at hSw); go_simp; (try (with_reducible rfl)))
        (try simp only [Act.put, List.setIfInBounds_toArray, List.set_cons_zero, List.set_cons_succ])
        refine wpAnyH_take (i := 3) (oi := ⟨_, _, _, _, _, _⟩) (v := ?v92) rfl (by kernel_rfl) (by kernel_rfl) (by kernel_rfl) (fun _ _ _ h => h) (Or.inl ⟨by rfl, ?hy92⟩) (by assumption) ?_
        case hy92 => (intro w hSw; (try dsimp only at hSw); go_simp; (try (with_reducible rfl)))
        (try simp only [Act.put, List.setIfInBounds_toArray, List.set_cons_zero, List.set_cons_succ])
        refine wpAnyH_take (i := 4) (oi := ⟨_, _, _, _, _, _⟩) (v := ?v93) rfl (by kernel_rfl) (by kernel_rfl) (by kernel_rfl) (fun _ _ _ h => h) (Or.inl ⟨by rfl, ?hy93⟩) (by assumption) ?_
        case hy93 => (intro w hSw; (try dsimp only at hSw); go_simp; (try (with_reducible rfl)))
        (try simp only [Act.put, List.setIfInBounds_toArray, List.set_cons_zero, List.set_cons_succ])
        refine wpAnyH_take (i := 5) (oi := ⟨_, _, _, _, _, _⟩) (v := ?v94) rfl (by kernel_rfl) (by kernel_rfl) (by kernel_rfl) (fun _ _ _ h => h) (Or.inl ⟨by rfl, ?hy94⟩) (by assumption) ?_
        case hy94 => (intro w hSw; (try dsimp only at hSw); go_simp; (try (with_reducible rfl)))
        (try simp only [Act.put, List.setIfInBounds_toArray, List.set_cons_zero, List.set_cons_succ])
        refine wpAnyH_take (i := 6) (oi := ⟨_, _, _, _, _, _⟩) (v := ?v95) rfl (by kernel_rfl) (by kernel_rfl) (by kernel_rfl) (fun _ _ _ h => h) (Or.inl ⟨by rfl, ?hy95⟩) (by assumption) ?_
        case hy95 => (intro w hSw; (try dsimp only at hSw); go_simp; (try (with_reducible rfl)))
        (try simp only [Act.put, List.setIfInBounds_toArray, List.set_cons_zero, List.set_cons_succ])
        refine wpAnyH_take (i := 7) (oi := ⟨_, _, _, _, _, _⟩) (v := ?v96) rfl (by kernel_rfl) (by kernel_rfl) (by kernel_rfl) (fun _ _ _ h => h) (Or.inl ⟨by rfl, ?hy96⟩) (by assumption) ?_
        case hy96 => (intro w hSw; (try dsimp only at hSw); go_simp; (try (with_reducible rfl)))
        (try simp only [Act.put, List.setIfInBounds_toArray, List.set_cons_zero, List.set_cons_succ])
        refine wpAnyH_take (i := 8) (oi := ⟨_, _, _, _, _, _⟩) (v := ?v97) rfl (by kernel_rfl) (by kernel_rfl) (by kernel_rfl) (fun _ _ _ h => h) (Or.inl ⟨by rfl, ?hy97⟩) (by assumption) ?_
        case hy97 => (intro w hSw; (try dsimp only at hSw); go_simp; (try (with_reducible rfl)))
        (try simp only [Act.put, List.setIfInBounds_toArray, List.set_cons_zero, List.set_cons_succ])
        refine wpAnyH_take (i := 9) (oi := ⟨_, _, _, _, _, _⟩) (v := ?v98) rfl (by kernel_rfl) (by kernel_rfl) (by kernel_rfl) (fun _ _ _ h => h) (Or.inl ⟨by rfl, ?hy98⟩) (by assumption) ?_
        case hy98 => (intro w hSw; (try dsimp only at hSw); go_simp; (try (with_reducible rfl)))
        (try simp only [Act.put, List.setIfInBounds_toArray, List.set_cons_zero, List.set_cons_succ])
        refine wpAnyH_ready (rs := [10]) (by kernel_rfl) (by simp) ?_
        refine AllReadyH.cons (o := ⟨_, _, _, _, _, _⟩) rfl (fun K hK => ?_) AllReadyH.nil
        go_simp
        (go_at_call 106; (with_reducible refine (K7.out _ hHeld.1).mono ?_); rintro e w2 ⟨rfl, hu⟩; have HU2 := Lib.hid hu; have HX2 := Lib.hid (keepK14 HU2 hHeld); clear hu)
        (try go_wp2_with fail)
        refine hK.out _ _ ?hB99 (fun hHeld => ?_)
        case hB99 => (first | (with_reducible assumption) | (with_reducible exact keepK14 (Lib.hid (Up.refl _).drew) HSS.out) | (with_reducible exact HX2.out))
        clear hK K
        (try simp only [Act.put, List.setIfInBounds_toArray, List.set_cons_zero, List.set_cons_succ])
        refine wpAnyH_done (by kernel_rfl) ?_ _
        go_wp2_with fail
        go_ret
        exact ⟨rfl, HX2.out.1⟩
      | false =>
        have HA2 := Lib.hid (HA.out hk)
        rw [hk] at K7
        clear hk HX HA HB HT
        go_wp2_with fail
        refine wp_region_held_drew (S := fun w' => Up w w' ∧ w'.cell? ⟨b, o + p * 7, none⟩ = some (.int .i64 sq1) ∧ w'.cell? ⟨b, o + p * 7 + 1, none⟩ = some (.int .i64 t1) ∧ w'.cell? ⟨b, o + p * 7 + 2, none⟩ = some (.int .i64 nn1) ∧ w'.cell? ⟨b, o + p * 7 + 3, none⟩ = some (.int .i64 s1) ∧ w'.cell? ⟨b, o + p * 7 + 4, none⟩ = some (.int .i64 qq1) ∧ w'.cell? ⟨b, o + p * 7 + 5, none⟩ = some (.int .i64 lo1) ∧ w'.cell? ⟨b, o + p * 7 + 6, none⟩ = some (.int .i64 hi1) ∧ w'.cell? ⟨b, o + (p + 2) * 7, none⟩ = some (.int .i64 sq) ∧ w'.cell? ⟨b, o + (p + 2) * 7 + 1, none⟩ = some (.int .i64 t) ∧ w'.cell? ⟨b, o + (p + 2) * 7 + 2, none⟩ = some (.int .i64 nn) ∧ w'.cell? ⟨b, o + (p + 2) * 7 + 3, none⟩ = some (.int .i64 s) ∧ w'.cell? ⟨b, o + (p + 2) * 7 + 4, none⟩ = some (.int .i64 qq) ∧ w'.cell? ⟨b, o + (p + 2) * 7 + 5, none⟩ = some (.int .i64 lo) ∧ w'.cell? ⟨b, o + (p + 2) * 7 + 6, none⟩ = some (.int .i64 hi)) (by kernel_rfl) ?hB100 (fun hHeld => ?_)
        case hB100 => (first | (with_reducible assumption) | (with_reducible exact keepK14 (Lib.hid (Up.refl _).drew) HSS.out) | (with_reducible exact HX2.out))
        refine wpAnyH_take (i := 0) (oi := ⟨_, _, _, _, _, _⟩) (v := ?v101) rfl (by kernel_rfl) (by kernel_rfl) (by kernel_rfl) (fun _ _ _ h => h) (Or.inl ⟨by rfl, ?hy101⟩) (by assumption) ?_
        case hy101 => (intro w hSw; (try dsimp only at hSw); go_simp; (try (with_reducible rfl)))
        (try simp only [Act.put, List.setIfInBounds_toArray, List.set_cons_zero, List.set_cons_succ])
        refine wpAnyH_take (i := 1) (oi := ⟨_, _, _, _, _, _⟩) (v := ?v102) rfl (by kernel_rfl) (by kernel_rfl) (by kernel_rfl) (fun _ _ _ h => h) (Or.inl ⟨by rfl, ?hy102⟩) (by assumption) ?_
        case hy102 => (intro w hSw; (try dsimp only at hSw); go_simp; (try (with_reducible rfl)))
        (try simp only [Act.put, List.setIfInBounds_toArray, List.set_cons_zero, List.set_cons_succ])
        refine wpAnyH_take (i := 2) (oi := ⟨_, _, _, _, _, _⟩) (v := ?v103) rfl (by kernel_rfl) (by kernel_rfl) (by kernel_rfl) (fun _ _ _ h => h) (Or.inl ⟨by rfl, ?hy103⟩) (by assumption) ?_
        case hy103 => (intro w hSw; (try dsimp only at hSw); go_simp; (try (with_reducible rfl)))
        (try simp only [Act.put, List.setIfInBounds_toArray, List.set_cons_zero, List.set_cons_succ])
        refine wpAnyH_take (i := 3) (oi := ⟨_, _, _, _, _, _⟩) (v := ?v104) rfl (by kernel_rfl) (by kernel_rfl) (by kernel_rfl) (fun _ _ _ h => h) (Or.inl ⟨by rfl, ?hy104⟩) (by assumption) ?_
        case hy104 => (intro w hSw; (try dsimp only at hSw); go_simp; (try (with_reducible rfl)))
        (try simp only [Act.put, List.setIfInBounds_toArray, List.set_cons_zero, List.set_cons_succ])
        refine wpAnyH_take (i := 4) (oi := ⟨_, _, _, _, _, _⟩) (v := ?v105) rfl (by kernel_rfl) (by kernel_rfl) (by kernel_rfl) (fun _ _ _ h => h) (Or.inl ⟨by rfl, ?hy105⟩) (by assumption) ?_
        case hy105 => (intro w hSw; (try dsimp only at hSw); go_simp; (try (with_reducible rfl)))
        (try simp only [Act.put, List.setIfInBounds_toArray, List.set_cons_zero, List.set_cons_succ])
        refine wpAnyH_take (i := 5) (oi := ⟨_, _, _, _, _, _⟩) (v := ?v106) rfl (by kernel_rfl) (by kernel_rfl) (by kernel_rfl) (fun _ _ _ h => h) (Or.inl ⟨by rfl, ?hy106⟩) (by assumption) ?_
        case hy106 => (intro w hSw; (try dsimp only at hSw); go_simp; (try (with_reducible rfl)))
        (try simp only [Act.put, List.setIfInBounds_toArray, List.set_cons_zero, List.set_cons_succ])
        refine wpAnyH_take (i := 6) (oi := ⟨_, _, _, _, _, _⟩) (v := ?v107) rfl (by kernel_rfl) (by kernel_rfl) (by kernel_rfl) (fun _ _ _ h => h) (Or.inl ⟨by rfl, ?hy107⟩) (by assumption) ?_
        case hy107 => (intro w hSw; (try dsimp only at hSw); go_simp; (try (with_reducible rfl)))
        (try simp only [Act.put, List.setIfInBounds_toArray, List.set_cons_zero, List.set_cons_succ])
        refine wpAnyH_take (i := 7) (oi := ⟨_, _, _, _, _, _⟩) (v := ?v108) rfl (by kernel_rfl) (by kernel_rfl) (by kernel_rfl) (fun _ _ _ h => h) (Or.inl ⟨by rfl, ?hy108⟩) (by assumption) ?_
        case hy108 => (intro w hSw; (try dsimp only at hSw); go_simp; (try (with_reducible rfl)))
        (try simp only [Act.put, List.setIfInBounds_toArray, List.set_cons_zero, List.set_cons_succ])
        refine wpAnyH_take (i := 8) (oi := ⟨_, _, _, _, _, _⟩) (v := ?v109) rfl (by kernel_rfl) (by kernel_rfl) (by kernel_rfl) (fun _ _ _ h => h) (Or.inl ⟨by rfl, ?hy109⟩) (by assumption) ?_
        case hy109 => (intro w hSw; (try dsimp only at hSw); go_simp; (try (with_reducible rfl)))
        (try simp only [Act.put, List.setIfInBounds_toArray, List.set_cons_zero, List.set_cons_succ])
        refine wpAnyH_take (i := 9) (oi := ⟨_, _, _, _, _, _⟩) (v := ?v110) rfl (by kernel_rfl) (by kernel_rfl) (by kernel_rfl) (fun _ _ _ h => h) (Or.inl ⟨by rfl, ?hy110⟩) (by assumption) ?_
        case hy110 => (intro w hSw; (try dsimp only at hSw); go_simp; (try (with_reducible rfl)))
        (try simp only [Act.put, List.setIfInBounds_toArray, List.set_cons_zero, List.set_cons_succ])
        refine wpAnyH_ready (rs := [10]) (by kernel_rfl) (by simp) ?_
        refine AllReadyH.cons (o := ⟨_, _, _, _, _, _⟩) rfl (fun K hK => ?_) AllReadyH.nil
        go_simp
        (go_at_call 106; (with_reducible refine (K7.out _ hHeld.1).mono ?_); rintro e w2 ⟨rfl, hu⟩; have HU2 := Lib.hid hu; have HX2 := Lib.hid (keepK14 HU2 hHeld); clear hu)
        (try go_wp2_with fail)
        refine hK.out _ _ ?hB111 (fun hHeld => ?_)
        case hB111 => (first | (with_reducible assumption) | (with_reducible exact keepK14 (Lib.hid (Up.refl _).drew) HSS.out) | (with_reducible exact HX2.out))
        clear hK K
        (try simp only [Act.put, List.setIfInBounds_toArray, List.set_cons_zero, List.set_cons_succ])
        refine wpAnyH_done (by kernel_rfl) ?_ _
        have UX := Lib.hid hHeld.1
        (repeat clear ‹Up w _ ∧ _›)
        go_wp2_with fail
        go_roundw
        case rel => exact ⟨p + 1, by go_num, by omega, HA2, UX⟩
        case measure => simp [intOf]; omega
    · obtain rfl : r = true := HT.out (fun j h1 h2 => HG.out j (by omega) h2)
      have f20 : decide ((p : Int) + 2 < n) = false := decide_eq_false (by omega)
      clear HT HB HG
      go_wp2_with fail
      go_ret
      exact ⟨rfl, HW.out⟩

set_option maxHeartbeats 4000000 in
set_option maxRecDepth 100000 in
theorem mvalid_up (nr : Mrk → Mrk → Bool) (ok : Mrk → Prop) (b1 a1 : Nat) (g v q c now seq : Int) (n k : Nat) (A : Option Addr) (X : List Mrk) (hn : n ≤ 50000) (hok : mayM g v q c now = true → mrkB g v c now seq X = true → ∀ j, j < n → ok (X.getD j mk0)) (w : World) (hnr : (∀ P M : Mrk, ok P → ok M → ∀ W, Up w W → Calls Try.prog 106 #[.agg #[.int .i64 P.sq, .int .i64 P.t, .int .i64 P.n, .int .i64 P.s, .int .i64 P.q, .int .i64 P.lo, .int .i64 P.hi], .agg #[.int .i64 M.sq, .int .i64 M.t, .int .i64 M.n, .int .i64 M.s, .int .i64 M.q, .int .i64 M.lo, .int .i64 M.hi], .pointer (some ⟨b1, 0, none⟩), .pointer (some ⟨a1, 0, none⟩)] W fun e w' => e = .returned (.bool (nr P M)) ∧ Up W w')) (hS : SG cM w A n X) :
    Calls Try.prog 66 #[.agg #[.int .i64 g, .int .i64 v, .int .i64 q, .int .i64 c, .int .i64 now, .int .i64 seq, .slice A n k], .func (.func 106) #[] #[.pointer (some ⟨b1, 0, none⟩), .pointer (some ⟨a1, 0, none⟩)]] w fun e w' => e = .returned (.bool (mayM g v q c now && (mrkB g v c now seq X && dfB nr X))) ∧ Up w w' := by
  have KS := Lib.hid (validSizes13_any g q c)
  have KF := Lib.hid (first_any now v)
  have HS := Lib.hid hS
  have HR := Lib.hid hnr
  have HOK := Lib.hid hok
  clear hnr hok
  cases hz : (agB g && (decide (1 ≤ q ∧ q ≤ 64) && decide (1 ≤ c ∧ c ≤ 65536))) with
  | false =>
    rw [show (mayM g v q c now && (mrkB g v c now seq X && dfB nr X)) = false by rw [mayM_form, hz]; rfl]
    rw [hz] at KS
    clear hz hS HS HR HOK
    go_enter Try.func66, Try.ntmps66
    go_wp2_with (go_at_call 61; (with_reducible refine (KS.out _).mono ?_); rintro e w' ⟨rfl, rfl⟩)
    go_ret
    exact ⟨rfl, (Up.refl w).alloc _ _⟩
  | true =>
  rw [hz] at KS
  cases hb : (tickB now && winB v) with
  | false =>
    rw [show (mayM g v q c now && (mrkB g v c now seq X && dfB nr X)) = false by rw [mayM_form, hz, hb]; rfl]
    rw [firZ_no hb] at KF
    clear hz hb hS HS HR HOK
    go_enter Try.func66, Try.ntmps66
    go_wp2_with (first | (go_at_call 61; (with_reducible refine (KS.out _).mono ?_); rintro e w' ⟨rfl, rfl⟩) | (go_at_call 103; (with_reducible refine (KF.out _).mono ?_); rintro e w' ⟨rfl, rfl⟩))
    go_ret
    exact ⟨rfl, (Up.refl w).alloc _ _⟩
  | true =>
  have hm : mayM g v q c now = true := by rw [mayM_form, hz, hb]; rfl
  have h0 := firZ_low hb
  clear hz hb
  rw [hm, Bool.true_and]
  generalize firZ now v = x at *
  have t0 : decide (x < 0) = false := decide_eq_false (by omega)
  clear h0
  by_cases s1 : seq < 0
  · rw [show mrkB g v c now seq X = false by unfold mrkB sqB; rw [decide_eq_false (p := 0 ≤ seq ∧ seq ≤ 1099511627776) (by omega), Bool.false_and], Bool.false_and]
    have t1 : decide (seq < 0) = true := decide_eq_true s1
    clear s1 hm
    clear hS HS HR HOK
    go_enter Try.func66, Try.ntmps66
    go_wp2_with (first | (go_at_call 61; (with_reducible refine (KS.out _).mono ?_); rintro e w' ⟨rfl, rfl⟩) | (go_at_call 103; (with_reducible refine (KF.out _).mono ?_); rintro e w' ⟨rfl, rfl⟩))
    go_ret
    exact ⟨rfl, (Up.refl w).alloc _ _⟩
  have t1 : decide (seq < 0) = false := decide_eq_false s1
  by_cases s2 : 1099511627776 < seq
  · rw [show mrkB g v c now seq X = false by unfold mrkB sqB; rw [decide_eq_false (p := 0 ≤ seq ∧ seq ≤ 1099511627776) (by omega), Bool.false_and], Bool.false_and]
    have t2 : decide (1099511627776 < seq) = true := decide_eq_true s2
    clear s1 s2 hm
    clear hS HS HR HOK
    go_enter Try.func66, Try.ntmps66
    go_wp2_with (first | (go_at_call 61; (with_reducible refine (KS.out _).mono ?_); rintro e w' ⟨rfl, rfl⟩) | (go_at_call 103; (with_reducible refine (KF.out _).mono ?_); rintro e w' ⟨rfl, rfl⟩))
    go_ret
    exact ⟨rfl, (Up.refl w).alloc _ _⟩
  have t2 : decide (1099511627776 < seq) = false := decide_eq_false s2
  have hq : sqB seq = true := decide_eq_true (by omega)
  have KM := Lib.hid (fun W (h : SG cM W A n X) => validMarks_up g v q c now seq n k A X hm hq hn W h)
  cases hx : mrkB g v c now seq X with
  | false =>
    rw [Bool.false_and]
    rw [hx] at KM
    clear s1 s2 hm
    clear hS hq hx HR HOK
    go_enter Try.func66, Try.ntmps66
    go_wp2_with (first | (go_at_call 61; (with_reducible refine (KS.out _).mono ?_); rintro e w' ⟨rfl, rfl⟩) | (go_at_call 103; (with_reducible refine (KF.out _).mono ?_); rintro e w' ⟨rfl, rfl⟩) | (go_at_call 107; (with_reducible refine (KM.out _ (HS.out.up ((Up.refl w).alloc _ _))).mono ?_); rintro e w1 ⟨rfl, hu⟩; have HU1 := Lib.hid hu; have c0 := hu.keep w.heap.size 0 (.int .i64 g) (by simp [go_sem]); have c1 := hu.keep w.heap.size 1 (.int .i64 v) (by simp [go_sem]); have c2 := hu.keep w.heap.size 2 (.int .i64 q) (by simp [go_sem]); have c3 := hu.keep w.heap.size 3 (.int .i64 c) (by simp [go_sem]); have c4 := hu.keep w.heap.size 4 (.int .i64 now) (by simp [go_sem]); have c5 := hu.keep w.heap.size 5 (.int .i64 seq) (by simp [go_sem]); have c6 := hu.keep w.heap.size 6 (.slice A n k) (by simp [go_sem]); clear hu))
    go_ret
    exact ⟨rfl, ((Up.refl w).alloc _ _).trans HU1.out⟩
  | true =>
  rw [hx] at KM
  rw [Bool.true_and]
  have KD := Lib.hid (fun W (hu : Up w W) => validDistances_up nr ok b1 a1 n k A X hn W (HOK.out hm hx) (fun P M h1 h2 V hV => HR.out P M h1 h2 V (hu.trans hV)) (HS.out.up hu))
  generalize dfB nr X = r at *
  clear s1 s2 hm
  clear hS hq hx HR HOK
  go_enter Try.func66, Try.ntmps66
  go_wp2_with (first | (go_at_call 61; (with_reducible refine (KS.out _).mono ?_); rintro e w' ⟨rfl, rfl⟩) | (go_at_call 103; (with_reducible refine (KF.out _).mono ?_); rintro e w' ⟨rfl, rfl⟩) | (go_at_call 107; (with_reducible refine (KM.out _ (HS.out.up ((Up.refl w).alloc _ _))).mono ?_); rintro e w1 ⟨rfl, hu⟩; have HU1 := Lib.hid hu; have c0 := hu.keep w.heap.size 0 (.int .i64 g) (by simp [go_sem]); have c1 := hu.keep w.heap.size 1 (.int .i64 v) (by simp [go_sem]); have c2 := hu.keep w.heap.size 2 (.int .i64 q) (by simp [go_sem]); have c3 := hu.keep w.heap.size 3 (.int .i64 c) (by simp [go_sem]); have c4 := hu.keep w.heap.size 4 (.int .i64 now) (by simp [go_sem]); have c5 := hu.keep w.heap.size 5 (.int .i64 seq) (by simp [go_sem]); have c6 := hu.keep w.heap.size 6 (.slice A n k) (by simp [go_sem]); clear hu) | (go_at_call 108; (with_reducible refine (KD.out _ (((Up.refl w).alloc _ _).trans HU1.out)).mono ?_); rintro e w2 ⟨rfl, hu⟩; have HU2 := Lib.hid hu; clear hu))
  go_ret
  exact ⟨rfl, (((Up.refl w).alloc _ _).trans HU1.out).trans HU2.out⟩

end Go.Proofs.Ytafkoddgefcpnaa
