/- Package marks: pruned, with one rule. -/
import Derived.Test.YtafkoddgefcpnaaRows
import Derived.Test.YtafkoddgefcpnaaZKFnq249
import Derived.Test.YtafkoddgefcpnaaZKValq178
namespace Go.Proofs.Ytafkoddgefcpnaa
open Go.RowKit
set_option linter.unusedVariables false

set_option maxHeartbeats 4000000 in
set_option maxRecDepth 100000 in
theorem pruned_up (nr : Mrk → Mrk → Bool) (ok : Mrk → Prop) (b1 a1 : Nat) (n k : Nat) (A : Option Addr) (X : List Mrk) (hn : n ≤ 50001) (w : World) (hX : ∀ j, j < n → ok (X.getD j mk0)) (hanti : ∀ i p j, i < p → p ≤ j → j < n → nr (X.getD i mk0) (X.getD p mk0) = false → nr (X.getD i mk0) (X.getD j mk0) = false) (hnr : (∀ P M : Mrk, ok P → ok M → ∀ W, Up w W → Calls Try.prog 106 #[.agg #[.int .i64 P.sq, .int .i64 P.t, .int .i64 P.n, .int .i64 P.s, .int .i64 P.q, .int .i64 P.lo, .int .i64 P.hi], .agg #[.int .i64 M.sq, .int .i64 M.t, .int .i64 M.n, .int .i64 M.s, .int .i64 M.q, .int .i64 M.lo, .int .i64 M.hi], .pointer (some ⟨b1, 0, none⟩), .pointer (some ⟨a1, 0, none⟩)] W fun e w' => e = .returned (.bool (nr P M)) ∧ Up W w')) (hS : SG cM w A n X) :
    Calls Try.prog 113 #[.slice A n k, .func (.func 106) #[] #[.pointer (some ⟨b1, 0, none⟩), .pointer (some ⟨a1, 0, none⟩)]] w fun e w' => ∃ A' n' k', e = .returned (.slice A' n' k') ∧ n' ≤ n ∧ n' ≤ k' ∧ Nw w A' ∧ Up w w' ∧ SG cM w' A' n' (prL nr n X) := by
  have HL := Lib.hid hS.1
  have HS := Lib.hid hS
  have HX := Lib.hid hX
  have HN := Lib.hid hanti
  have KC := Lib.hid hnr
  obtain ⟨cs, hcs, hmk⟩ := makeM0_run n (by omega) w
  have HM0 := Lib.hid (OwM.made (w0 := w) (w := w) (Nat.le_refl _) cs n (by omega) hcs)
  have HZ0 : Hid (∀ Z, prL nr n X = Z → [] ++ prL nr (n - 0) (X.drop 0) = Z) := Lib.hid (fun Z h => h)
  obtain ⟨Z, hZ⟩ : ∃ Z, prL nr n X = Z := ⟨_, rfl⟩
  have HZ1 := Lib.hid (HZ0.out Z hZ)
  rw [hZ]
  clear hS hX hanti hnr hcs hZ HZ0
  go_enter Try.func113, Try.ntmps113
  go_wp2_with fail
  go_loopw [5, 6] (fun t5 t6 wr => ∃ (i m : Nat) (B : Option Addr) (kb : Nat) (M : List Mrk), t5 = .slice B m kb ∧ t6 = .int .i64 i ∧ i ≤ n ∧ m ≤ i ∧ Hid (OwM w wr (.slice B m kb) m M) ∧ Hid (M ++ prL nr (n - i) (X.drop i) = Z) ∧ Hid (Up w wr)) (fun _ t _ => n - (intOf t).toNat)
  case atStart => exact ⟨0, 0, _, _, [], rfl, rfl, Nat.zero_le _, Nat.le_refl _, HM0, HZ1, Lib.hid ((Up.refl w).alloc _ _)⟩
  case round =>
    clear hmk HM0
    obtain ⟨i, m, B, kb, M, rfl, rfl, hin, hmi, HO, HZ, HW⟩ := hrel
    by_cases hi' : i < n
    · have HSr := Lib.hid (HS.out.up HW.out)
      obtain ⟨b, o, rfl, d0, d1, d2, d3, d4, d5, d6⟩ := mrk_at HSr.out mk0 hi'
      have HXi := Lib.hid (HX.out i hi')
      have HP : Hid (∀ nx, i + 1 ≤ nx → (nx < n ∨ nx = i + 1) → (i + 1 < nx → nr (X.getD i mk0) (X.getD nx mk0) = true) → (nx + 1 < n → nr (X.getD i mk0) (X.getD (nx + 1) mk0) = false) → (M ++ [X.getD i mk0]) ++ prL nr (n - nx) (X.drop nx) = Z) := Lib.hid (fun nx h1 h2 h3 h4 => prune_stepG HL.out hi' (HN.out i) HZ.out h1 h2 h3 h4)
      generalize hMi : X.getD i mk0 = Mi at *
      obtain ⟨sq, t, nn, s, qq, lo, hi⟩ := Mi
      have hMi := Lib.hid hMi
      simp only at d0 d1 d2 d3 d4 d5 d6
      have f20 : (i : Int) < n := by omega
      have f30 : (0 : Int) ≤ i := by omega
      obtain ⟨A2, k2, w2, hr, hO2, hU2⟩ := append1M w wr B m kb M sq t nn s qq lo hi HO.out HW.out (by omega)
      have HO2 := Lib.hid hO2
      have HU2 := Lib.hid hU2
      clear hO2 hU2
      go_wp2_with (refine wpList_append_run (o := ⟨some 21, _, _, _, _, _⟩) rfl (.tmp 15) (.tmp 20) _ rfl _ _ rfl rfl _ _ hr ?_)
      clear hr HO HZ HSr d0 d1 d2 d3 d4 d5 d6
      have HS2 := Lib.hid (HS.out.up HU2.out)
      go_loopw [7] (fun t7 wq => ∃ nx : Nat, t7 = .int .i64 nx ∧ i + 1 ≤ nx ∧ (nx < n ∨ nx = i + 1) ∧ Hid (i + 1 < nx → nr ⟨sq, t, nn, s, qq, lo, hi⟩ (X.getD nx mk0) = true) ∧ Hid (Up w2 wq)) (fun t _ => n - (intOf t).toNat)
      case atStart => exact ⟨i + 1, by go_num, by omega, Or.inr (by omega), Lib.hid (fun h => absurd h (Nat.lt_irrefl _)), Lib.hid (Up.refl w2)⟩
      case round =>
        obtain ⟨nx, rfl, h1, h2, HC, HV⟩ := hrel
        have f31 : (0 : Int) ≤ nx := by omega
        by_cases hx : nx + 1 < n
        · obtain ⟨x0, x1, x2, x3, x4, x5, x6⟩ := mrk_prev (HS2.out.up HV.out) hx
          obtain ⟨d0, d1, d2, d3, d4, d5, d6⟩ := mrk_prev (HS2.out.up HV.out) hi'
          rw [hMi.out] at d0 d1 d2 d3 d4 d5 d6
          simp only at d0 d1 d2 d3 d4 d5 d6
          have HXn := Lib.hid (HX.out (nx + 1) hx)
          have HA : Hid (nr ⟨sq, t, nn, s, qq, lo, hi⟩ (X.getD (nx + 1) mk0) = true → i + 1 < nx + 1 → nr ⟨sq, t, nn, s, qq, lo, hi⟩ (X.getD (nx + 1) mk0) = true) := Lib.hid (fun h _ => h)
          have HPx := Lib.hid (HP.out nx h1 h2 HC.out)
          generalize hMn : X.getD (nx + 1) mk0 = Mn at *
          obtain ⟨sq1, t1, nn1, s1, qq1, lo1, hi1⟩ := Mn
          simp only at x0 x1 x2 x3 x4 x5 x6
          have hMn := Lib.hid hMn
          have K7 := Lib.hid (KC.out ⟨sq, t, nn, s, qq, lo, hi⟩ ⟨sq1, t1, nn1, s1, qq1, lo1, hi1⟩ HXi.out HXn.out)
          simp only at K7
          have HSS : Hid (Up w2 wr ∧ wr.cell? ⟨b, o + i * 7, none⟩ = some (.int .i64 sq) ∧ wr.cell? ⟨b, o + i * 7 + 1, none⟩ = some (.int .i64 t) ∧ wr.cell? ⟨b, o + i * 7 + 2, none⟩ = some (.int .i64 nn) ∧ wr.cell? ⟨b, o + i * 7 + 3, none⟩ = some (.int .i64 s) ∧ wr.cell? ⟨b, o + i * 7 + 4, none⟩ = some (.int .i64 qq) ∧ wr.cell? ⟨b, o + i * 7 + 5, none⟩ = some (.int .i64 lo) ∧ wr.cell? ⟨b, o + i * 7 + 6, none⟩ = some (.int .i64 hi) ∧ wr.cell? ⟨b, o + (nx + 1) * 7, none⟩ = some (.int .i64 sq1) ∧ wr.cell? ⟨b, o + (nx + 1) * 7 + 1, none⟩ = some (.int .i64 t1) ∧ wr.cell? ⟨b, o + (nx + 1) * 7 + 2, none⟩ = some (.int .i64 nn1) ∧ wr.cell? ⟨b, o + (nx + 1) * 7 + 3, none⟩ = some (.int .i64 s1) ∧ wr.cell? ⟨b, o + (nx + 1) * 7 + 4, none⟩ = some (.int .i64 qq1) ∧ wr.cell? ⟨b, o + (nx + 1) * 7 + 5, none⟩ = some (.int .i64 lo1) ∧ wr.cell? ⟨b, o + (nx + 1) * 7 + 6, none⟩ = some (.int .i64 hi1)) := Lib.hid ⟨HV.out, d0, d1, d2, d3, d4, d5, d6, x0, x1, x2, x3, x4, x5, x6⟩
          have f32 : (nx : Int) + 1 < n := by omega
          have f33 : (0 : Int) ≤ (nx : Int) + 1 := by omega
          have f34 : ((nx : Int) + 1).toNat = nx + 1 := by omega
          have f35 : IntKind.i64.wrap ((nx : Int) + 1) = (nx : Int) + 1 := by rw [IntKind.wrap_i64]; omega
          clear d0 d1 d2 d3 d4 d5 d6 x0 x1 x2 x3 x4 x5 x6 HXn
          cases hk : nr ⟨sq, t, nn, s, qq, lo, hi⟩ ⟨sq1, t1, nn1, s1, qq1, lo1, hi1⟩ with
          | false =>
            have HR := Lib.hid (HPx.out (fun _ => hk))
            rw [hk] at K7
            clear hk HPx HA HP HC
            go_wp2_with fail
            refine wp_region_held_drew (S := fun w' => Up w2 w' ∧ w'.cell? ⟨b, o + i * 7, none⟩ = some (.int .i64 sq) ∧ w'.cell? ⟨b, o + i * 7 + 1, none⟩ = some (.int .i64 t) ∧ w'.cell? ⟨b, o + i * 7 + 2, none⟩ = some (.int .i64 nn) ∧ w'.cell? ⟨b, o + i * 7 + 3, none⟩ = some (.int .i64 s) ∧ w'.cell? ⟨b, o + i * 7 + 4, none⟩ = some (.int .i64 qq) ∧ w'.cell? ⟨b, o + i * 7 + 5, none⟩ = some (.int .i64 lo) ∧ w'.cell? ⟨b, o + i * 7 + 6, none⟩ = some (.int .i64 hi) ∧ w'.cell? ⟨b, o + (nx + 1) * 7, none⟩ = some (.int .i64 sq1) ∧ w'.cell? ⟨b, o + (nx + 1) * 7 + 1, none⟩ = some (.int .i64 t1) ∧ w'.cell? ⟨b, o + (nx + 1) * 7 + 2, none⟩ = some (.int .i64 nn1) ∧ w'.cell? ⟨b, o + (nx + 1) * 7 + 3, none⟩ = some (.int .i64 s1) ∧ w'.cell? ⟨b, o + (nx + 1) * 7 + 4, none⟩ = some (.int .i64 qq1) ∧ w'.cell? ⟨b, o + (nx + 1) * 7 + 5, none⟩ = some (.int .i64 lo1) ∧ w'.cell? ⟨b, o + (nx + 1) * 7 + 6, none⟩ = some (.int .i64 hi1)) (by kernel_rfl) ?hB112 (fun hHeld => ?_)
            case hB112 => (first | (with_reducible assumption) | (with_reducible exact keepK14 (Lib.hid (Up.refl _).drew) HSS.out) | (with_reducible exact HX3.out))
            refine wpAnyH_take (i := 0) (oi := ⟨_, _, _, _, _, _⟩) (v := ?v113) rfl (by kernel_rfl) (by kernel_rfl) (by kernel_rfl) (fun _ _ _ h => h) (Or.inl ⟨by rfl, ?hy113⟩) (by assumption) ?_
            case hy113 => (intro w hSw; (try dsimp only at hSw); go_simp; (try (with_reducible rfl)))
            (try simp only [Act.put, List.setIfInBounds_toArray, List.set_cons_zero, List.set_cons_succ])
            refine wpAnyH_take (i := 1) (oi := ⟨_, _, _, _, _, _⟩) (v := ?v114) rfl (by kernel_rfl) (by kernel_rfl) (by kernel_rfl) (fun _ _ _ h => h) (Or.inl ⟨by rfl, ?hy114⟩) (by assumption) ?_
            case hy114 => (intro w hSw; (try dsimp only at hSw); go_simp; (try (with_reducible rfl)))
            (try simp only [Act.put, List.setIfInBounds_toArray, List.set_cons_zero, List.set_cons_succ])
            refine wpAnyH_take (i := 2) (oi := ⟨_, _, _, _, _, _⟩) (v := ?v115) rfl (by kernel_rfl) (by kernel_rfl) (by kernel_rfl) (fun _ _ _ h => h) (Or.inl ⟨by rfl, ?hy115⟩) (by assumption) ?_
            case hy115 => (intro w hSw; (try dsimp only at hSw); go_simp; (try (with_reducible rfl)))
            (try simp only [Act.put, List.setIfInBounds_toArray, List.set_cons_zero, List.set_cons_succ])
            refine wpAnyH_take (i := 3) (oi := ⟨_, _, _, _, _, _⟩) (v := ?v116) rfl (by kernel_rfl) (by kernel_rfl) (by kernel_rfl) (fun _ _ _ h => h) (Or.inl ⟨by rfl, ?hy116⟩) (by assumption) ?_
            case hy116 => (intro w hSw; (try dsimp only at hSw); go_simp; (try (with_reducible rfl)))
            (try simp only [Act.put, List.setIfInBounds_toArray, List.set_cons_zero, List.set_cons_succ])
            refine wpAnyH_take (i := 4) (oi := ⟨_, _, _, _, _, _⟩) (v := ?v117) rfl (by kernel_rfl) (by kernel_rfl) (by kernel_rfl) (fun _ _ _ h => h) (Or.inl ⟨by rfl, ?hy117⟩) (by assumption) ?_
            case hy117 => (intro w hSw; (try dsimp only at hSw); go_simp; (try (with_reducible rfl)))
            (try simp only [Act.put, List.setIfInBounds_toArray, List.set_cons_zero, List.set_cons_succ])
            refine wpAnyH_take (i := 5) (oi := ⟨_, _, _, _, _, _⟩) (v := ?v118) rfl (by kernel_rfl) (by kernel_rfl) (by kernel_rfl) (fun _ _ _ h => h) (Or.inl ⟨by rfl, ?hy118⟩) (by assumption) ?_
            case hy118 => (intro w hSw; (try dsimp only at hSw); go_simp; (try (with_reducible rfl)))
            (try simp only [Act.put, List.setIfInBounds_toArray, List.set_cons_zero, List.set_cons_succ])
            refine wpAnyH_take (i := 6) (oi := ⟨_, _, _, _, _, _⟩) (v := ?v119) rfl (by kernel_rfl) (by kernel_rfl) (by kernel_rfl) (fun _ _ _ h => h) (Or.inl ⟨by rfl, ?hy119⟩) (by assumption) ?_
            case hy119 => (intro w hSw; (try dsimp only at hSw); go_simp; (try (with_reducible rfl)))
            (try simp only [Act.put, List.setIfInBounds_toArray, List.set_cons_zero, List.set_cons_succ])
            refine wpAnyH_take (i := 7) (oi := ⟨_, _, _, _, _, _⟩) (v := ?v120) rfl (by kernel_rfl) (by kernel_rfl) (by kernel_rfl) (fun _ _ _ h => h) (Or.inl ⟨by rfl, ?hy120⟩) (by assumption) ?_
            case hy120 => (intro w hSw; (try dsimp only at hSw); go_simp; (try (with_reducible rfl)))
            (try simp only [Act.put, List.setIfInBounds_toArray, List.set_cons_zero, List.set_cons_succ])
            refine wpAnyH_take (i := 8) (oi := ⟨_, _, _, _, _, _⟩) (v := ?v121) rfl (by kernel_rfl) (by kernel_rfl) (by kernel_rfl) (fun _ _ _ h => h) (Or.inl ⟨by rfl, ?hy121⟩) (by assumption) ?_
            case hy121 => (intro w hSw; (try dsimp only at hSw); go_simp; (try (with_reducible rfl)))
            (try simp only [Act.put, List.setIfInBounds_toArray, List.set_cons_zero, List.set_cons_succ])
            refine wpAnyH_take (i := 9) (oi := ⟨_, _, _, _, _, _⟩) (v := ?v122) rfl (by kernel_rfl) (by kernel_rfl) (by kernel_rfl) (fun _ _ _ h => h) (Or.inl ⟨by rfl, ?hy122⟩) (by assumption) ?_
            case hy122 => (intro w hSw; (try dsimp only at hSw); go_simp; (try (with_reducible rfl)))
            (try simp only [Act.put, List.setIfInBounds_toArray, List.set_cons_zero, List.set_cons_succ])
            refine wpAnyH_take (i := 10) (oi := ⟨_, _, _, _, _, _⟩) (v := ?v123) rfl (by kernel_rfl) (by kernel_rfl) (by kernel_rfl) (fun _ _ _ h => h) (Or.inl ⟨by rfl, ?hy123⟩) (by assumption) ?_
            case hy123 => (intro w hSw; (try dsimp only at hSw); go_simp; (try (with_reducible rfl)))
            (try simp only [Act.put, List.setIfInBounds_toArray, List.set_cons_zero, List.set_cons_succ])
            refine wpAnyH_take (i := 11) (oi := ⟨_, _, _, _, _, _⟩) (v := ?v124) rfl (by kernel_rfl) (by kernel_rfl) (by kernel_rfl) (fun _ _ _ h => h) (Or.inl ⟨by rfl, ?hy124⟩) (by assumption) ?_
            case hy124 => (intro w hSw; (try dsimp only at hSw); go_simp; (try (with_reducible rfl)))
            (try simp only [Act.put, List.setIfInBounds_toArray, List.set_cons_zero, List.set_cons_succ])
            refine wpAnyH_take (i := 12) (oi := ⟨_, _, _, _, _, _⟩) (v := ?v125) rfl (by kernel_rfl) (by kernel_rfl) (by kernel_rfl) (fun _ _ _ h => h) (Or.inl ⟨by rfl, ?hy125⟩) (by assumption) ?_
            case hy125 => (intro w hSw; (try dsimp only at hSw); go_simp; (try (with_reducible rfl)))
            (try simp only [Act.put, List.setIfInBounds_toArray, List.set_cons_zero, List.set_cons_succ])
            refine wpAnyH_take (i := 13) (oi := ⟨_, _, _, _, _, _⟩) (v := ?v126) rfl (by kernel_rfl) (by kernel_rfl) (by kernel_rfl) (fun _ _ _ h => h) (Or.inl ⟨by rfl, ?hy126⟩) (by assumption) ?_
            case hy126 => (intro w hSw; (try dsimp only at hSw); go_simp; (try (with_reducible rfl)))
            (try simp only [Act.put, List.setIfInBounds_toArray, List.set_cons_zero, List.set_cons_succ])
            refine wpAnyH_take (i := 14) (oi := ⟨_, _, _, _, _, _⟩) (v := ?v127) rfl (by kernel_rfl) (by kernel_rfl) (by kernel_rfl) (fun _ _ _ h => h) (Or.inl ⟨by rfl, ?hy127⟩) (by assumption) ?_
            case hy127 => (intro w hSw; (try dsimp only at hSw); go_simp; (try (with_reducible rfl)))
            (try simp only [Act.put, List.setIfInBounds_toArray, List.set_cons_zero, List.set_cons_succ])
            refine wpAnyH_take (i := 15) (oi := ⟨_, _, _, _, _, _⟩) (v := ?v128) rfl (by kernel_rfl) (by kernel_rfl) (by kernel_rfl) (fun _ _ _ h => h) (Or.inl ⟨by rfl, ?hy128⟩) (by assumption) ?_
            case hy128 => (intro w hSw; (try dsimp only at hSw); go_simp; (try (with_reducible rfl)))
            (try simp only [Act.put, List.setIfInBounds_toArray, List.set_cons_zero, List.set_cons_succ])
            refine wpAnyH_ready (rs := [16]) (by kernel_rfl) (by simp) ?_
            refine AllReadyH.cons (o := ⟨_, _, _, _, _, _⟩) rfl (fun K hK => ?_) AllReadyH.nil
            go_simp
            (go_at_call 106; (with_reducible refine (K7.out _ (HU2.out.trans hHeld.1)).mono ?_); rintro e w3 ⟨rfl, hu⟩; have HU3 := Lib.hid hu; have HX3 := Lib.hid (keepK14 HU3 hHeld); clear hu)
            (try go_wp2_with fail)
            refine hK.out _ _ ?hB129 (fun hHeld => ?_)
            case hB129 => (first | (with_reducible assumption) | (with_reducible exact keepK14 (Lib.hid (Up.refl _).drew) HSS.out) | (with_reducible exact HX3.out))
            clear hK K
            (try simp only [Act.put, List.setIfInBounds_toArray, List.set_cons_zero, List.set_cons_succ])
            refine wpAnyH_take (i := 17) (oi := ⟨_, _, _, _, _, _⟩) (v := ?v130) rfl (by kernel_rfl) (by kernel_rfl) (by kernel_rfl) (fun _ _ _ h => h) (Or.inl ⟨by rfl, ?hy130⟩) (by assumption) ?_
            case hy130 => (intro w hSw; (try dsimp only at hSw); go_simp; (try (with_reducible rfl)))
            (try simp only [Act.put, List.setIfInBounds_toArray, List.set_cons_zero, List.set_cons_succ])
            refine wpAnyH_done (by kernel_rfl) ?_ _
            have UX := Lib.hid hHeld.1
            (repeat clear ‹Up w2 _ ∧ _›)
            go_wp2_with fail
            go_roundw
            case rel => exact ⟨nx, m + 1, A2, k2, _, rfl, by go_num, by omega, by omega, Lib.hid ⟨HO2.out.1, HO2.out.2.of_up UX.out⟩, HR, Lib.hid (HU2.out.trans UX.out)⟩
            case measure => simp [intOf]; omega
          | true =>
            have HC2 : Hid (i + 1 < nx + 1 → nr ⟨sq, t, nn, s, qq, lo, hi⟩ (X.getD (nx + 1) mk0) = true) := Lib.hid (fun _ => by rw [hMn.out]; exact hk)
            rw [hk] at K7
            clear hk HPx HA HP HC
            go_wp2_with fail
            refine wp_region_held_drew (S := fun w' => Up w2 w' ∧ w'.cell? ⟨b, o + i * 7, none⟩ = some (.int .i64 sq) ∧ w'.cell? ⟨b, o + i * 7 + 1, none⟩ = some (.int .i64 t) ∧ w'.cell? ⟨b, o + i * 7 + 2, none⟩ = some (.int .i64 nn) ∧ w'.cell? ⟨b, o + i * 7 + 3, none⟩ = some (.int .i64 s) ∧ w'.cell? ⟨b, o + i * 7 + 4, none⟩ = some (.int .i64 qq) ∧ w'.cell? ⟨b, o + i * 7 + 5, none⟩ = some (.int .i64 lo) ∧ w'.cell? ⟨b, o + i * 7 + 6, none⟩ = some (.int .i64 hi) ∧ w'.cell? ⟨b, o + (nx + 1) * 7, none⟩ = some (.int .i64 sq1) ∧ w'.cell? ⟨b, o + (nx + 1) * 7 + 1, none⟩ = some (.int .i64 t1) ∧ w'.cell? ⟨b, o + (nx + 1) * 7 + 2, none⟩ = some (.int .i64 nn1) ∧ w'.cell? ⟨b, o + (nx + 1) * 7 + 3, none⟩ = some (.int .i64 s1) ∧ w'.cell? ⟨b, o + (nx + 1) * 7 + 4, none⟩ = some (.int .i64 qq1) ∧ w'.cell? ⟨b, o + (nx + 1) * 7 + 5, none⟩ = some (.int .i64 lo1) ∧ w'.cell? ⟨b, o + (nx + 1) * 7 + 6, none⟩ = some (.int .i64 hi1)) (by kernel_rfl) ?hB131 (fun hHeld => ?_)
            case hB131 => (first | (with_reducible assumption) | (with_reducible exact keepK14 (Lib.hid (Up.refl _).drew) HSS.out) | (with_reducible exact HX3.out))
            refine wpAnyH_take (i := 0) (oi := ⟨_, _, _, _, _, _⟩) (v := ?v132) rfl (by kernel_rfl) (by kernel_rfl) (by kernel_rfl) (fun _ _ _ h => h) (Or.inl ⟨by rfl, ?hy132⟩) (by assumption) ?_
            case hy132 => (intro w hSw; (try dsimp only at hSw); go_simp; (try (with_reducible rfl)))
            (try simp only [Act.put, List.setIfInBounds_toArray, List.set_cons_zero, List.set_cons_succ])
            refine wpAnyH_take (i := 1) (oi := ⟨_, _, _, _, _, _⟩) (v := ?v133) rfl (by kernel_rfl) (by kernel_rfl) (by kernel_rfl) (fun _ _ _ h => h) (Or.inl ⟨by rfl, ?hy133⟩) (by assumption) ?_
            case hy133 => (intro w hSw; (try dsimp only at hSw); go_simp; (try (with_reducible rfl)))
            (try simp only [Act.put, List.setIfInBounds_toArray, List.set_cons_zero, List.set_cons_succ])
            refine wpAnyH_take (i := 2) (oi := ⟨_, _, _, _, _, _⟩) (v := ?v134) rfl (by kernel_rfl) (by kernel_rfl) (by kernel_rfl) (fun _ _ _ h => h) (Or.inl ⟨by rfl, ?hy134⟩) (by assumption) ?_
            case hy134 => (intro w hSw; (try dsimp only at hSw); go_simp; (try (with_reducible rfl)))
            (try simp only [Act.put, List.setIfInBounds_toArray, List.set_cons_zero, List.set_cons_succ])
            refine wpAnyH_take (i := 3) (oi := ⟨_, _, _, _, _, _⟩) (v := ?v135) rfl (by kernel_rfl) (by kernel_rfl) (by kernel_rfl) (fun _ _ _ h => h) (Or.inl ⟨by rfl, ?hy135⟩) (by assumption) ?_
            case hy135 => (intro w hSw; (try dsimp only at hSw); go_simp; (try (with_reducible rfl)))
            (try simp only [Act.put, List.setIfInBounds_toArray, List.set_cons_zero, List.set_cons_succ])
            refine wpAnyH_take (i := 4) (oi := ⟨_, _, _, _, _, _⟩) (v := ?v136) rfl (by kernel_rfl) (by kernel_rfl) (by kernel_rfl) (fun _ _ _ h => h) (Or.inl ⟨by rfl, ?hy136⟩) (by assumption) ?_
            case hy136 => (intro w hSw; (try dsimp only at hSw); go_simp; (try (with_reducible rfl)))
            (try simp only [Act.put, List.setIfInBounds_toArray, List.set_cons_zero, List.set_cons_succ])
            refine wpAnyH_take (i := 5) (oi := ⟨_, _, _, _, _, _⟩) (v := ?v137) rfl (by kernel_rfl) (by kernel_rfl) (by kernel_rfl) (fun _ _ _ h => h) (Or.inl ⟨by rfl, ?hy137⟩) (by assumption) ?_
            case hy137 => (intro w hSw; (try dsimp only at hSw); go_simp; (try (with_reducible rfl)))
            (try simp only [Act.put, List.setIfInBounds_toArray, List.set_cons_zero, List.set_cons_succ])
            refine wpAnyH_take (i := 6) (oi := ⟨_, _, _, _, _, _⟩) (v := ?v138) rfl (by kernel_rfl) (by kernel_rfl) (by kernel_rfl) (fun _ _ _ h => h) (Or.inl ⟨by rfl, ?hy138⟩) (by assumption) ?_
            case hy138 => (intro w hSw; (try dsimp only at hSw); go_simp; (try (with_reducible rfl)))
            (try simp only [Act.put, List.setIfInBounds_toArray, List.set_cons_zero, List.set_cons_succ])
            refine wpAnyH_take (i := 7) (oi := ⟨_, _, _, _, _, _⟩) (v := ?v139) rfl (by kernel_rfl) (by kernel_rfl) (by kernel_rfl) (fun _ _ _ h => h) (Or.inl ⟨by rfl, ?hy139⟩) (by assumption) ?_
            case hy139 => (intro w hSw; (try dsimp only at hSw); go_simp; (try (with_reducible rfl)))
            (try simp only [Act.put, List.setIfInBounds_toArray, List.set_cons_zero, List.set_cons_succ])
            refine wpAnyH_take (i := 8) (oi := ⟨_, _, _, _, _, _⟩) (v := ?v140) rfl (by kernel_rfl) (by kernel_rfl) (by kernel_rfl) (fun _ _ _ h => h) (Or.inl ⟨by rfl, ?hy140⟩) (by assumption) ?_
            case hy140 => (intro w hSw; (try dsimp only at hSw); go_simp; (try (with_reducible rfl)))
            (try simp only [Act.put, List.setIfInBounds_toArray, List.set_cons_zero, List.set_cons_succ])
            refine wpAnyH_take (i := 9) (oi := ⟨_, _, _, _, _, _⟩) (v := ?v141) rfl (by kernel_rfl) (by kernel_rfl) (by kernel_rfl) (fun _ _ _ h => h) (Or.inl ⟨by rfl, ?hy141⟩) (by assumption) ?_
            case hy141 => (intro w hSw; (try dsimp only at hSw); go_simp; (try (with_reducible rfl)))
            (try simp only [Act.put, List.setIfInBounds_toArray, List.set_cons_zero, List.set_cons_succ])
            refine wpAnyH_take (i := 10) (oi := ⟨_, _, _, _, _, _⟩) (v := ?v142) rfl (by kernel_rfl) (by kernel_rfl) (by kernel_rfl) (fun _ _ _ h => h) (Or.inl ⟨by rfl, ?hy142⟩) (by assumption) ?_
            case hy142 => (intro w hSw; (try dsimp only at hSw); go_simp; (try (with_reducible rfl)))
            (try simp only [Act.put, List.setIfInBounds_toArray, List.set_cons_zero, List.set_cons_succ])
            refine wpAnyH_take (i := 11) (oi := ⟨_, _, _, _, _, _⟩) (v := ?v143) rfl (by kernel_rfl) (by kernel_rfl) (by kernel_rfl) (fun _ _ _ h => h) (Or.inl ⟨by rfl, ?hy143⟩) (by assumption) ?_
            case hy143 => (intro w hSw; (try dsimp only at hSw); go_simp; (try (with_reducible rfl)))
            (try simp only [Act.put, List.setIfInBounds_toArray, List.set_cons_zero, List.set_cons_succ])
            refine wpAnyH_take (i := 12) (oi := ⟨_, _, _, _, _, _⟩) (v := ?v144) rfl (by kernel_rfl) (by kernel_rfl) (by kernel_rfl) (fun _ _ _ h => h) (Or.inl ⟨by rfl, ?hy144⟩) (by assumption) ?_
            case hy144 => (intro w hSw; (try dsimp only at hSw); go_simp; (try (with_reducible rfl)))
            (try simp only [Act.put, List.setIfInBounds_toArray, List.set_cons_zero, List.set_cons_succ])
            refine wpAnyH_take (i := 13) (oi := ⟨_, _, _, _, _, _⟩) (v := ?v145) rfl (by kernel_rfl) (by kernel_rfl) (by kernel_rfl) (fun _ _ _ h => h) (Or.inl ⟨by rfl, ?hy145⟩) (by assumption) ?_
            case hy145 => (intro w hSw; (try dsimp only at hSw); go_simp; (try (with_reducible rfl)))
            (try simp only [Act.put, List.setIfInBounds_toArray, List.set_cons_zero, List.set_cons_succ])
            refine wpAnyH_take (i := 14) (oi := ⟨_, _, _, _, _, _⟩) (v := ?v146) rfl (by kernel_rfl) (by kernel_rfl) (by kernel_rfl) (fun _ _ _ h => h) (Or.inl ⟨by rfl, ?hy146⟩) (by assumption) ?_
            case hy146 => (intro w hSw; (try dsimp only at hSw); go_simp; (try (with_reducible rfl)))
            (try simp only [Act.put, List.setIfInBounds_toArray, List.set_cons_zero, List.set_cons_succ])
            refine wpAnyH_take (i := 15) (oi := ⟨_, _, _, _, _, _⟩) (v := ?v147) rfl (by kernel_rfl) (by kernel_rfl) (by kernel_rfl) (fun _ _ _ h => h) (Or.inl ⟨by rfl, ?hy147⟩) (by assumption) ?_
            case hy147 => (intro w hSw; (try dsimp only at hSw); go_simp; (try (with_reducible rfl)))
            (try simp only [Act.put, List.setIfInBounds_toArray, List.set_cons_zero, List.set_cons_succ])
            refine wpAnyH_ready (rs := [16]) (by kernel_rfl) (by simp) ?_
            refine AllReadyH.cons (o := ⟨_, _, _, _, _, _⟩) rfl (fun K hK => ?_) AllReadyH.nil
            go_simp
            (go_at_call 106; (with_reducible refine (K7.out _ (HU2.out.trans hHeld.1)).mono ?_); rintro e w3 ⟨rfl, hu⟩; have HU3 := Lib.hid hu; have HX3 := Lib.hid (keepK14 HU3 hHeld); clear hu)
            (try go_wp2_with fail)
            refine hK.out _ _ ?hB148 (fun hHeld => ?_)
            case hB148 => (first | (with_reducible assumption) | (with_reducible exact keepK14 (Lib.hid (Up.refl _).drew) HSS.out) | (with_reducible exact HX3.out))
            clear hK K
            (try simp only [Act.put, List.setIfInBounds_toArray, List.set_cons_zero, List.set_cons_succ])
            refine wpAnyH_take (i := 17) (oi := ⟨_, _, _, _, _, _⟩) (v := ?v149) rfl (by kernel_rfl) (by kernel_rfl) (by kernel_rfl) (fun _ _ _ h => h) (Or.inl ⟨by rfl, ?hy149⟩) (by assumption) ?_
            case hy149 => (intro w hSw; (try dsimp only at hSw); go_simp; (try (with_reducible rfl)))
            (try simp only [Act.put, List.setIfInBounds_toArray, List.set_cons_zero, List.set_cons_succ])
            refine wpAnyH_done (by kernel_rfl) ?_ _
            have UX := Lib.hid hHeld.1
            (repeat clear ‹Up w2 _ ∧ _›)
            go_wp2_with fail
            go_roundw
            case rel => exact ⟨nx + 1, by go_num, by omega, Or.inl (by omega), HC2, UX⟩
            case measure => simp [intOf]; omega
        · have HR := Lib.hid (HP.out nx h1 h2 HC.out (fun h => absurd h hx))
          have t1 : decide ((nx : Int) + 1 < n) = false := decide_eq_false (by omega)
          have f35 : IntKind.i64.wrap ((nx : Int) + 1) = (nx : Int) + 1 := by rw [IntKind.wrap_i64]; omega
          have HSS : Hid (Up w2 wr ∧ True) := Lib.hid ⟨HV.out, trivial⟩
          clear HP HC
          go_wp2_with fail
          refine wp_region_held_drew (S := fun w' => Up w2 w' ∧ True) (by kernel_rfl) ?hB150 (fun hHeld => ?_)
          case hB150 => (first | (with_reducible assumption) | exact ⟨HSS.out.1.drew, trivial⟩)
          refine wpAnyH_take (i := 0) (oi := ⟨_, _, _, _, _, _⟩) (v := ?v151) rfl (by kernel_rfl) (by kernel_rfl) (by kernel_rfl) (fun _ _ _ h => h) (Or.inl ⟨by rfl, ?hy151⟩) (by assumption) ?_
          case hy151 => (intro w hSw; (try dsimp only at hSw); go_simp; (try (with_reducible rfl)))
          (try simp only [Act.put, List.setIfInBounds_toArray, List.set_cons_zero, List.set_cons_succ])
          refine wpAnyH_take (i := 1) (oi := ⟨_, _, _, _, _, _⟩) (v := ?v152) rfl (by kernel_rfl) (by kernel_rfl) (by kernel_rfl) (fun _ _ _ h => h) (Or.inl ⟨by rfl, ?hy152⟩) (by assumption) ?_
          case hy152 => (intro w hSw; (try dsimp only at hSw); go_simp; (try (with_reducible rfl)))
          (try simp only [Act.put, List.setIfInBounds_toArray, List.set_cons_zero, List.set_cons_succ])
          refine wpAnyH_take (i := 2) (oi := ⟨_, _, _, _, _, _⟩) (v := ?v153) rfl (by kernel_rfl) (by kernel_rfl) (by kernel_rfl) (fun _ _ _ h => h) (Or.inl ⟨by rfl, ?hy153⟩) (by assumption) ?_
          case hy153 => (intro w hSw; (try dsimp only at hSw); go_simp; (try (with_reducible rfl)))
          (try simp only [Act.put, List.setIfInBounds_toArray, List.set_cons_zero, List.set_cons_succ])
          refine wpAnyH_take (i := 3) (oi := ⟨_, _, _, _, _, _⟩) (v := ?v154) rfl (by kernel_rfl) (by kernel_rfl) (by kernel_rfl) (fun _ _ _ h => h) (Or.inl ⟨by rfl, ?hy154⟩) (by assumption) ?_
          case hy154 => (intro w hSw; (try dsimp only at hSw); go_simp; (try (with_reducible rfl)))
          (try simp only [Act.put, List.setIfInBounds_toArray, List.set_cons_zero, List.set_cons_succ])
          refine wpAnyH_take (i := 4) (oi := ⟨_, _, _, _, _, _⟩) (v := ?v155) rfl (by kernel_rfl) (by kernel_rfl) (by kernel_rfl) (fun _ _ _ h => h) (Or.inl ⟨by rfl, ?hy155⟩) (by assumption) ?_
          case hy155 => (intro w hSw; (try dsimp only at hSw); go_simp; (try (with_reducible rfl)))
          (try simp only [Act.put, List.setIfInBounds_toArray, List.set_cons_zero, List.set_cons_succ])
          refine wpAnyH_take (i := 5) (oi := ⟨_, _, _, _, _, _⟩) (v := ?v156) rfl (by kernel_rfl) (by kernel_rfl) (by kernel_rfl) (fun _ _ _ h => h) (Or.inl ⟨by rfl, ?hy156⟩) (by assumption) ?_
          case hy156 => (intro w hSw; (try dsimp only at hSw); go_simp; (try (with_reducible rfl)))
          (try simp only [Act.put, List.setIfInBounds_toArray, List.set_cons_zero, List.set_cons_succ])
          refine wpAnyH_take (i := 6) (oi := ⟨_, _, _, _, _, _⟩) (v := undef) rfl (by kernel_rfl) (by kernel_rfl) (by kernel_rfl) (fun _ _ _ h => h) (Or.inr ⟨by rfl, rfl⟩) (by assumption) ?_
          (try simp only [Act.put, List.setIfInBounds_toArray, List.set_cons_zero, List.set_cons_succ])
          refine wpAnyH_take (i := 7) (oi := ⟨_, _, _, _, _, _⟩) (v := undef) rfl (by kernel_rfl) (by kernel_rfl) (by kernel_rfl) (fun _ _ _ h => h) (Or.inr ⟨by rfl, rfl⟩) (by assumption) ?_
          (try simp only [Act.put, List.setIfInBounds_toArray, List.set_cons_zero, List.set_cons_succ])
          refine wpAnyH_take (i := 8) (oi := ⟨_, _, _, _, _, _⟩) (v := undef) rfl (by kernel_rfl) (by kernel_rfl) (by kernel_rfl) (fun _ _ _ h => h) (Or.inr ⟨by rfl, rfl⟩) (by assumption) ?_
          (try simp only [Act.put, List.setIfInBounds_toArray, List.set_cons_zero, List.set_cons_succ])
          refine wpAnyH_take (i := 9) (oi := ⟨_, _, _, _, _, _⟩) (v := undef) rfl (by kernel_rfl) (by kernel_rfl) (by kernel_rfl) (fun _ _ _ h => h) (Or.inr ⟨by rfl, rfl⟩) (by assumption) ?_
          (try simp only [Act.put, List.setIfInBounds_toArray, List.set_cons_zero, List.set_cons_succ])
          refine wpAnyH_take (i := 10) (oi := ⟨_, _, _, _, _, _⟩) (v := undef) rfl (by kernel_rfl) (by kernel_rfl) (by kernel_rfl) (fun _ _ _ h => h) (Or.inr ⟨by rfl, rfl⟩) (by assumption) ?_
          (try simp only [Act.put, List.setIfInBounds_toArray, List.set_cons_zero, List.set_cons_succ])
          refine wpAnyH_take (i := 11) (oi := ⟨_, _, _, _, _, _⟩) (v := undef) rfl (by kernel_rfl) (by kernel_rfl) (by kernel_rfl) (fun _ _ _ h => h) (Or.inr ⟨by rfl, rfl⟩) (by assumption) ?_
          (try simp only [Act.put, List.setIfInBounds_toArray, List.set_cons_zero, List.set_cons_succ])
          refine wpAnyH_take (i := 12) (oi := ⟨_, _, _, _, _, _⟩) (v := undef) rfl (by kernel_rfl) (by kernel_rfl) (by kernel_rfl) (fun _ _ _ h => h) (Or.inr ⟨by rfl, rfl⟩) (by assumption) ?_
          (try simp only [Act.put, List.setIfInBounds_toArray, List.set_cons_zero, List.set_cons_succ])
          refine wpAnyH_take (i := 13) (oi := ⟨_, _, _, _, _, _⟩) (v := undef) rfl (by kernel_rfl) (by kernel_rfl) (by kernel_rfl) (fun _ _ _ h => h) (Or.inr ⟨by rfl, rfl⟩) (by assumption) ?_
          (try simp only [Act.put, List.setIfInBounds_toArray, List.set_cons_zero, List.set_cons_succ])
          refine wpAnyH_take (i := 14) (oi := ⟨_, _, _, _, _, _⟩) (v := undef) rfl (by kernel_rfl) (by kernel_rfl) (by kernel_rfl) (fun _ _ _ h => h) (Or.inr ⟨by rfl, rfl⟩) (by assumption) ?_
          (try simp only [Act.put, List.setIfInBounds_toArray, List.set_cons_zero, List.set_cons_succ])
          refine wpAnyH_take (i := 15) (oi := ⟨_, _, _, _, _, _⟩) (v := undef) rfl (by kernel_rfl) (by kernel_rfl) (by kernel_rfl) (fun _ _ _ h => h) (Or.inr ⟨by rfl, rfl⟩) (by assumption) ?_
          (try simp only [Act.put, List.setIfInBounds_toArray, List.set_cons_zero, List.set_cons_succ])
          refine wpAnyH_take (i := 16) (oi := ⟨_, _, _, _, _, _⟩) (v := undef) rfl (by kernel_rfl) (by kernel_rfl) (by kernel_rfl) (fun _ _ _ h => h) (Or.inr ⟨by rfl, rfl⟩) (by assumption) ?_
          (try simp only [Act.put, List.setIfInBounds_toArray, List.set_cons_zero, List.set_cons_succ])
          refine wpAnyH_take (i := 17) (oi := ⟨_, _, _, _, _, _⟩) (v := ?v157) rfl (by kernel_rfl) (by kernel_rfl) (by kernel_rfl) (fun _ _ _ h => h) (Or.inl ⟨by rfl, ?hy157⟩) (by assumption) ?_
          case hy157 => (intro w hSw; (try dsimp only at hSw); go_simp; (try (with_reducible rfl)))
          (try simp only [Act.put, List.setIfInBounds_toArray, List.set_cons_zero, List.set_cons_succ])
          refine wpAnyH_done (by kernel_rfl) ?_ _
          have UX := Lib.hid hHeld.1
          (repeat clear ‹Up w2 _ ∧ _›)
          go_wp2_with fail
          go_roundw
          case rel => exact ⟨nx, m + 1, A2, k2, _, rfl, by go_num, by omega, by omega, Lib.hid ⟨HO2.out.1, HO2.out.2.of_up UX.out⟩, HR, Lib.hid (HU2.out.trans UX.out)⟩
          case measure => simp [intOf]; omega
    · obtain rfl : i = n := by omega
      go_wp2_with fail
      go_ret
      refine ⟨B, m, kb, rfl, hmi, (OG.sg HO.out).1, OG.nw HO.out, HW.out, ?_⟩
      have h := (OG.sg HO.out).2
      have e := HZ.out
      rw [Nat.sub_self, show X.drop i = [] from List.drop_eq_nil_of_le (by rw [HL.out]; exact Nat.le_refl _), prL_nil, List.append_nil] at e
      rw [← e]
      exact h
end Go.Proofs.Ytafkoddgefcpnaa
