/- Package marks: pruned, with one rule. -/
import Derived.Test.YtafkoddgefcpnaaRows
import Derived.Test.YtafkoddgefcpnaaZKBaseq174
import Derived.Test.YtafkoddgefcpnaaZKFnq249
import Derived.Test.YtafkoddgefcpnaaZKMcq189
import Derived.Test.YtafkoddgefcpnaaZKStq163
import Derived.Test.YtafkoddgefcpnaaZWMulq63
namespace Go.Proofs.Ytafkoddgefcpnaa
open Go.RowKit
set_option linter.unusedVariables false

set_option maxHeartbeats 4000000 in
set_option maxRecDepth 100000 in
theorem prunedS_up (nr : Mrk → Mrk → Bool) (ok : Mrk → Prop) (b1 : Nat) (n k : Nat) (A : Option Addr) (X : List Mrk) (hn : n ≤ 50001) (w : World) (hX : ∀ j, j < n → ok (X.getD j mk0)) (hanti : ∀ i p j, i < p → p ≤ j → j < n → nr (X.getD i mk0) (X.getD p mk0) = false → nr (X.getD i mk0) (X.getD j mk0) = false) (hnr : (∀ P M : Mrk, ok P → ok M → ∀ W, Up w W → Calls Try.prog 135 #[.agg #[.int .i64 P.sq, .int .i64 P.t, .int .i64 P.n, .int .i64 P.s, .int .i64 P.q, .int .i64 P.lo, .int .i64 P.hi], .agg #[.int .i64 M.sq, .int .i64 M.t, .int .i64 M.n, .int .i64 M.s, .int .i64 M.q, .int .i64 M.lo, .int .i64 M.hi], .pointer (some ⟨b1, 0, none⟩)] W fun e w' => e = .returned (.bool (nr P M)) ∧ Up W w')) (hS : SG cM w A n X) :
    Calls Try.prog 113 #[.slice A n k, .func (.func 135) #[] #[.pointer (some ⟨b1, 0, none⟩)]] w fun e w' => ∃ A' n' k', e = .returned (.slice A' n' k') ∧ n' ≤ n ∧ n' ≤ k' ∧ Nw w A' ∧ Up w w' ∧ SG cM w' A' n' (prL nr n X) := by
  have HL := Lib.hid hS.1
  have HS := Lib.hid hS
  have HX := Lib.hid hX
  have HN := Lib.hid hanti
  have KC := Lib.hid hnr
  obtain ⟨cs, hcs, hmk⟩ := makeM0_run n (by omega) w
  have HM0 := Lib.hid (OwM.made (w0 := w) (w := w) (Nat.le_refl _) cs n (by omega) hcs)
  have HZ0 : Hid (∀ Z, prL nr n X = Z → [] ++ prL nr (n - 0) (X.drop 0) = Z) := Lib.hid (fun Z h => h)
  obtain ⟨Z, hZ⟩ : ∃ Z, prL nr n X = Z := ⟨_, rfl⟩
  have HZ1 := Lib.hid (HZ0.out Z hZ)
  rw [hZ]
  clear hS hX hanti hnr hcs hZ HZ0
  go_enter Try.func113, Try.ntmps113
  go_wp2_with fail
  go_loopw [5, 6] (fun t5 t6 wr => ∃ (i m : Nat) (B : Option Addr) (kb : Nat) (M : List Mrk), t5 = .slice B m kb ∧ t6 = .int .i64 i ∧ i ≤ n ∧ m ≤ i ∧ Hid (OwM w wr (.slice B m kb) m M) ∧ Hid (M ++ prL nr (n - i) (X.drop i) = Z) ∧ Hid (Up w wr)) (fun _ t _ => n - (intOf t).toNat)
  case atStart => exact ⟨0, 0, _, _, [], rfl, rfl, Nat.zero_le _, Nat.le_refl _, HM0, HZ1, Lib.hid ((Up.refl w).alloc _ _)⟩
  case round =>
    clear hmk HM0
    obtain ⟨i, m, B, kb, M, rfl, rfl, hin, hmi, HO, HZ, HW⟩ := hrel
    by_cases hi' : i < n
    · have HSr := Lib.hid (HS.out.up HW.out)
      obtain ⟨b, o, rfl, d0, d1, d2, d3, d4, d5, d6⟩ := mrk_at HSr.out mk0 hi'
      have HXi := Lib.hid (HX.out i hi')
      have HP : Hid (∀ nx, i + 1 ≤ nx → (nx < n ∨ nx = i + 1) → (i + 1 < nx → nr (X.getD i mk0) (X.getD nx mk0) = true) → (nx + 1 < n → nr (X.getD i mk0) (X.getD (nx + 1) mk0) = false) → (M ++ [X.getD i mk0]) ++ prL nr (n - nx) (X.drop nx) = Z) := Lib.hid (fun nx h1 h2 h3 h4 => prune_stepG HL.out hi' (HN.out i) HZ.out h1 h2 h3 h4)
      generalize hMi : X.getD i mk0 = Mi at *
      obtain ⟨sq, t, nn, s, qq, lo, hi⟩ := Mi
      have hMi := Lib.hid hMi
      simp only at d0 d1 d2 d3 d4 d5 d6
      have f20 : (i : Int) < n := by omega
      have f30 : (0 : Int) ≤ i := by omega
      obtain ⟨A2, k2, w2, hr, hO2, hU2⟩ := append1M w wr B m kb M sq t nn s qq lo hi HO.out HW.out (by omega)
      have HO2 := Lib.hid hO2
      have HU2 := Lib.hid hU2
      clear hO2 hU2
      go_wp2_with (refine wpList_append_run (o := ⟨some 21, _, _, _, _, _⟩) rfl (.tmp 15) (.tmp 20) _ rfl _ _ rfl rfl _ _ hr ?_)
      clear hr HO HZ HSr d0 d1 d2 d3 d4 d5 d6
      have HS2 := Lib.hid (HS.out.up HU2.out)
      go_loopw [7] (fun t7 wq => ∃ nx : Nat, t7 = .int .i64 nx ∧ i + 1 ≤ nx ∧ (nx < n ∨ nx = i + 1) ∧ Hid (i + 1 < nx → nr ⟨sq, t, nn, s, qq, lo, hi⟩ (X.getD nx mk0) = true) ∧ Hid (Up w2 wq)) (fun t _ => n - (intOf t).toNat)
      case atStart => exact ⟨i + 1, by go_num, by omega, Or.inr (by omega), Lib.hid (fun h => absurd h (Nat.lt_irrefl _)), Lib.hid (Up.refl w2)⟩
      case round =>
        obtain ⟨nx, rfl, h1, h2, HC, HV⟩ := hrel
        have f31 : (0 : Int) ≤ nx := by omega
        by_cases hx : nx + 1 < n
        · obtain ⟨x0, x1, x2, x3, x4, x5, x6⟩ := mrk_prev (HS2.out.up HV.out) hx
          obtain ⟨d0, d1, d2, d3, d4, d5, d6⟩ := mrk_prev (HS2.out.up HV.out) hi'
          rw [hMi.out] at d0 d1 d2 d3 d4 d5 d6
          simp only at d0 d1 d2 d3 d4 d5 d6
          have HXn := Lib.hid (HX.out (nx + 1) hx)
          have HA : Hid (nr ⟨sq, t, nn, s, qq, lo, hi⟩ (X.getD (nx + 1) mk0) = true → i + 1 < nx + 1 → nr ⟨sq, t, nn, s, qq, lo, hi⟩ (X.getD (nx + 1) mk0) = true) := Lib.hid (fun h _ => h)
          have HPx := Lib.hid (HP.out nx h1 h2 HC.out)
          generalize hMn : X.getD (nx + 1) mk0 = Mn at *
          obtain ⟨sq1, t1, nn1, s1, qq1, lo1, hi1⟩ := Mn
          simp only at x0 x1 x2 x3 x4 x5 x6
          have hMn := Lib.hid hMn
          have K7 := Lib.hid (KC.out ⟨sq, t, nn, s, qq, lo, hi⟩ ⟨sq1, t1, nn1, s1, qq1, lo1, hi1⟩ HXi.out HXn.out)
          simp only at K7
          have HSS : Hid (Up w2 wr ∧ wr.cell? ⟨b, o + i * 7, none⟩ = some (.int .i64 sq) ∧ wr.cell? ⟨b, o + i * 7 + 1, none⟩ = some (.int .i64 t) ∧ wr.cell? ⟨b, o + i * 7 + 2, none⟩ = some (.int .i64 nn) ∧ wr.cell? ⟨b, o + i * 7 + 3, none⟩ = some (.int .i64 s) ∧ wr.cell? ⟨b, o + i * 7 + 4, none⟩ = some (.int .i64 qq) ∧ wr.cell? ⟨b, o + i * 7 + 5, none⟩ = some (.int .i64 lo) ∧ wr.cell? ⟨b, o + i * 7 + 6, none⟩ = some (.int .i64 hi) ∧ wr.cell? ⟨b, o + (nx + 1) * 7, none⟩ = some (.int .i64 sq1) ∧ wr.cell? ⟨b, o + (nx + 1) * 7 + 1, none⟩ = some (.int .i64 t1) ∧ wr.cell? ⟨b, o + (nx + 1) * 7 + 2, none⟩ = some (.int .i64 nn1) ∧ wr.cell? ⟨b, o + (nx + 1) * 7 + 3, none⟩ = some (.int .i64 s1) ∧ wr.cell? ⟨b, o + (nx + 1) * 7 + 4, none⟩ = some (.int .i64 qq1) ∧ wr.cell? ⟨b, o + (nx + 1) * 7 + 5, none⟩ = some (.int .i64 lo1) ∧ wr.cell? ⟨b, o + (nx + 1) * 7 + 6, none⟩ = some (.int .i64 hi1)) := Lib.hid ⟨HV.out, d0, d1, d2, d3, d4, d5, d6, x0, x1, x2, x3, x4, x5, x6⟩
          have f32 : (nx : Int) + 1 < n := by omega
          have f33 : (0 : Int) ≤ (nx : Int) + 1 := by omega
          have f34 : ((nx : Int) + 1).toNat = nx + 1 := by omega
          have f35 : IntKind.i64.wrap ((nx : Int) + 1) = (nx : Int) + 1 := by rw [IntKind.wrap_i64]; omega
          clear d0 d1 d2 d3 d4 d5 d6 x0 x1 x2 x3 x4 x5 x6 HXn
          cases hk : nr ⟨sq, t, nn, s, qq, lo, hi⟩ ⟨sq1, t1, nn1, s1, qq1, lo1, hi1⟩ with
          | false =>
            have HR := Lib.hid (HPx.out (fun _ => hk))
            rw [hk] at K7
            clear hk HPx HA HP HC
            go_wp2_with fail
            refine wp_region_held_drew (S := fun w' => Up w2 w' ∧ w'.cell? ⟨b, o + i * 7, none⟩ = some (.int .i64 sq) ∧ w'.cell? ⟨b, o + i * 7 + 1, none⟩ = some (.int .i64 t) ∧ w'.cell? ⟨b, o + i * 7 + 2, none⟩ = some (.int .i64 nn) ∧ w'.cell? ⟨b, o + i * 7 + 3, none⟩ = some (.int .i64 s) ∧ w'.cell? ⟨b, o + i * 7 + 4, none⟩ = some (.int .i64 qq) ∧ w'.cell? ⟨b, o + i * 7 + 5, none⟩ = some (.int .i64 lo) ∧ w'.cell? ⟨b, o + i * 7 + 6, none⟩ = some (.int .i64 hi) ∧ w'.cell? ⟨b, o + (nx + 1) * 7, none⟩ = some (.int .i64 sq1) ∧ w'.cell? ⟨b, o + (nx + 1) * 7 + 1, none⟩ = some (.int .i64 t1) ∧ w'.cell? ⟨b, o + (nx + 1) * 7 + 2, none⟩ = some (.int .i64 nn1) ∧ w'.cell? ⟨b, o + (nx + 1) * 7 + 3, none⟩ = some (.int .i64 s1) ∧ w'.cell? ⟨b, o + (nx + 1) * 7 + 4, none⟩ = some (.int .i64 qq1) ∧ w'.cell? ⟨b, o + (nx + 1) * 7 + 5, none⟩ = some (.int .i64 lo1) ∧ w'.cell? ⟨b, o + (nx + 1) * 7 + 6, none⟩ = some (.int .i64 hi1)) (by kernel_rfl) ?hB263 (fun hHeld => ?_)
            case hB263 => (first | (with_reducible assumption) | (with_reducible exact keepK14 (Lib.hid (Up.refl _).drew) HSS.out) | (with_reducible exact HX3.out))
            refine wpAnyH_take (i := 0) (oi := ⟨_, _, _, _, _, _⟩) (v := ?v264) rfl (by kernel_rfl) (by kernel_rfl) (by kernel_rfl) (fun _ _ _ h => h) (Or.inl ⟨by rfl, ?hy264⟩) (by assumption) ?_
            case hy264 => (intro w hSw; (try dsimp only at hSw); go_simp; (try (with_reducible rfl)))
            (try simp only [Act.put, List.setIfInBounds_toArray, List.set_cons_zero, List.set_cons_succ])
            refine wpAnyH_take (i := 1) (oi := ⟨_, _, _, _, _, _⟩) (v := ?v265) rfl (by kernel_rfl) (by kernel_rfl) (by kernel_rfl) (fun _ _ _ h => h) (Or.inl ⟨by rfl, ?hy265⟩) (by assumption) ?_
            case hy265 => (intro w hSw; (try dsimp only at hSw); go_simp; (try (with_reducible rfl)))
            (try simp only [Act.put, List.setIfInBounds_toArray, List.set_cons_zero, List.set_cons_succ])
            refine wpAnyH_take (i := 2) (oi := ⟨_, _, _, _, _, _⟩) (v := ?v266) rfl (by kernel_rfl) (by kernel_rfl) (by kernel_rfl) (fun _ _ _ h => h) (Or.inl ⟨by rfl, ?hy266⟩) (by assumption) ?_
            case hy266 => (intro w hSw; (try dsimp only at hSw); go_simp; (try (with_reducible rfl)))
            (try simp only [Act.put, List.setIfInBounds_toArray, List.set_cons_zero, List.set_cons_succ])
            refine wpAnyH_take (i := 3) (oi := ⟨_, _, _, _, _, _⟩) (v := ?v267) rfl (by kernel_rfl) (by kernel_rfl) (by kernel_rfl) (fun _ _ _ h => h) (Or.inl ⟨by rfl, ?hy267⟩) (by assumption) ?_
            case hy267 => (intro w hSw; (try dsimp only at hSw); go_simp; (try (with_reducible rfl)))
            (try simp only [Act.put, List.setIfInBounds_toArray, List.set_cons_zero, List.set_cons_succ])
            refine wpAnyH_take (i := 4) (oi := ⟨_, _, _, _, _, _⟩) (v := ?v268) rfl (by kernel_rfl) (by kernel_rfl) (by kernel_rfl) (fun _ _ _ h => h) (Or.inl ⟨by rfl, ?hy268⟩) (by assumption) ?_
            case hy268 => (intro w hSw; (try dsimp only at hSw); go_simp; (try (with_reducible rfl)))
            (try simp only [Act.put, List.setIfInBounds_toArray, List.set_cons_zero, List.set_cons_succ])
            refine wpAnyH_take (i := 5) (oi := ⟨_, _, _, _, _, _⟩) (v := ?v269) rfl (by kernel_rfl) (by kernel_rfl) (by kernel_rfl) (fun _ _ _ h => h) (Or.inl ⟨by rfl, ?hy269⟩) (by assumption) ?_
            case hy269 => (intro w hSw; (try dsimp only at hSw); go_simp; (try (with_reducible rfl)))
            (try simp only [Act.put, List.setIfInBounds_toArray, List.set_cons_zero, List.set_cons_succ])
            refine wpAnyH_take (i := 6) (oi := ⟨_, _, _, _, _, _⟩) (v := ?v270) rfl (by kernel_rfl) (by kernel_rfl) (by kernel_rfl) (fun _ _ _ h => h) (Or.inl ⟨by rfl, ?hy270⟩) (by assumption) ?_
            case hy270 => (intro w hSw; (try dsimp only at hSw); go_simp; (try (with_reducible rfl)))
            (try simp only [Act.put, List.setIfInBounds_toArray, List.set_cons_zero, List.set_cons_succ])
            refine wpAnyH_take (i := 7) (oi := ⟨_, _, _, _, _, _⟩) (v := ?v271) rfl (by kernel_rfl) (by kernel_rfl) (by kernel_rfl) (fun _ _ _ h => h) (Or.inl ⟨by rfl, ?hy271⟩) (by assumption) ?_
            case hy271 => (intro w hSw; (try dsimp only at hSw); go_simp; (try (with_reducible rfl)))
            (try simp only [Act.put, List.setIfInBounds_toArray, List.set_cons_zero, List.set_cons_succ])
            refine wpAnyH_take (i := 8) (oi := ⟨_, _, _, _, _, _⟩) (v := ?v272) rfl (by kernel_rfl) (by kernel_rfl) (by kernel_rfl) (fun _ _ _ h => h) (Or.inl ⟨by rfl, ?hy272⟩) (by assumption) ?_
            case hy272 => (intro w hSw; (try dsimp only at hSw); go_simp; (try (with_reducible rfl)))
            (try simp only [Act.put, List.setIfInBounds_toArray, List.set_cons_zero, List.set_cons_succ])
            refine wpAnyH_take (i := 9) (oi := ⟨_, _, _, _, _, _⟩) (v := ?v273) rfl (by kernel_rfl) (by kernel_rfl) (by kernel_rfl) (fun _ _ _ h => h) (Or.inl ⟨by rfl, ?hy273⟩) (by assumption) ?_
            case hy273 => (intro w hSw; (try dsimp only at hSw); go_simp; (try (with_reducible rfl)))
            (try simp only [Act.put, List.setIfInBounds_toArray, List.set_cons_zero, List.set_cons_succ])
            refine wpAnyH_take (i := 10) (oi := ⟨_, _, _, _, _, _⟩) (v := ?v274) rfl (by kernel_rfl) (by kernel_rfl) (by kernel_rfl) (fun _ _ _ h => h) (Or.inl ⟨by rfl, ?hy274⟩) (by assumption) ?_
            case hy274 => (intro w hSw; (try dsimp only at hSw); go_simp; (try (with_reducible rfl)))
            (try simp only [Act.put, List.setIfInBounds_toArray, List.set_cons_zero, List.set_cons_succ])
            refine wpAnyH_take (i := 11) (oi := ⟨_, _, _, _, _, _⟩) (v := ?v275) rfl (by kernel_rfl) (by kernel_rfl) (by kernel_rfl) (fun _ _ _ h => h) (Or.inl ⟨by rfl, ?hy275⟩) (by assumption) ?_
            case hy275 => (intro w hSw; (try dsimp only at hSw); go_simp; (try (with_reducible rfl)))
            (try simp only [Act.put, List.setIfInBounds_toArray, List.set_cons_zero, List.set_cons_succ])
            refine wpAnyH_take (i := 12) (oi := ⟨_, _, _, _, _, _⟩) (v := ?v276) rfl (by kernel_rfl) (by kernel_rfl) (by kernel_rfl) (fun _ _ _ h => h) (Or.inl ⟨by rfl, ?hy276⟩) (by assumption) ?_
            case hy276 => (intro w hSw; (try dsimp only at hSw); go_simp; (try (with_reducible rfl)))
            (try simp only [Act.put, List.setIfInBounds_toArray, List.set_cons_zero, List.set_cons_succ])
            refine wpAnyH_take (i := 13) (oi := ⟨_, _, _, _, _, _⟩) (v := ?v277) rfl (by kernel_rfl) (by kernel_rfl) (by kernel_rfl) (fun _ _ _ h => h) (Or.inl ⟨by rfl, ?hy277⟩) (by assumption) ?_
            case hy277 => (intro w hSw; (try dsimp only at hSw); go_simp; (try (with_reducible rfl)))
            (try simp only [Act.put, List.setIfInBounds_toArray, List.set_cons_zero, List.set_cons_succ])
            refine wpAnyH_take (i := 14) (oi := ⟨_, _, _, _, _, _⟩) (v := ?v278) rfl (by kernel_rfl) (by kernel_rfl) (by kernel_rfl) (fun _ _ _ h => h) (Or.inl ⟨by rfl, ?hy278⟩) (by assumption) ?_
            case hy278 => (intro w hSw; (try dsimp only at hSw); go_simp; (try (with_reducible rfl)))
            (try simp only [Act.put, List.setIfInBounds_toArray, List.set_cons_zero, List.set_cons_succ])
            refine wpAnyH_take (i := 15) (oi := ⟨_, _, _, _, _, _⟩) (v := ?v279) rfl (by kernel_rfl) (by kernel_rfl) (by kernel_rfl) (fun _ _ _ h => h) (Or.inl ⟨by rfl, ?hy279⟩) (by assumption) ?_
            case hy279 => (intro w hSw; (try dsimp only at hSw); go_simp; (try (with_reducible rfl)))
            (try simp only [Act.put, List.setIfInBounds_toArray, List.set_cons_zero, List.set_cons_succ])
            refine wpAnyH_ready (rs := [16]) (by kernel_rfl) (by simp) ?_
            refine AllReadyH.cons (o := ⟨_, _, _, _, _, _⟩) rfl (fun K hK => ?_) AllReadyH.nil
            go_simp
            (go_at_call 135; (with_reducible refine (K7.out _ (HU2.out.trans hHeld.1)).mono ?_); rintro e w3 ⟨rfl, hu⟩; have HU3 := Lib.hid hu; have HX3 := Lib.hid (keepK14 HU3 hHeld); clear hu)
            (try go_wp2_with fail)
            refine hK.out _ _ ?hB280 (fun hHeld => ?_)
            case hB280 => (first | (with_reducible assumption) | (with_reducible exact keepK14 (Lib.hid (Up.refl _).drew) HSS.out) | (with_reducible exact HX3.out))
            clear hK K
            (try simp only [Act.put, List.setIfInBounds_toArray, List.set_cons_zero, List.set_cons_succ])
            refine wpAnyH_take (i := 17) (oi := ⟨_, _, _, _, _, _⟩) (v := ?v281) rfl (by kernel_rfl) (by kernel_rfl) (by kernel_rfl) (fun _ _ _ h => h) (Or.inl ⟨by rfl, ?hy281⟩) (by assumption) ?_
            case hy281 => (intro w hSw; (try dsimp only at hSw); go_simp; (try (with_reducible rfl)))
            (try simp only [Act.put, List.setIfInBounds_toArray, List.set_cons_zero, List.set_cons_succ])
            refine wpAnyH_done (by kernel_rfl) ?_ _
            have UX := Lib.hid hHeld.1
            (repeat clear ‹Up w2 _ ∧ _›)
            go_wp2_with fail
            go_roundw
            case rel => exact ⟨nx, m + 1, A2, k2, _, rfl, by go_num, by omega, by omega, Lib.hid ⟨HO2.out.1, HO2.out.2.of_up UX.out⟩, HR, Lib.hid (HU2.out.trans UX.out)⟩
            case measure => simp [intOf]; omega
          | true =>
            have HC2 : Hid (i + 1 < nx + 1 → nr ⟨sq, t, nn, s, qq, lo, hi⟩ (X.getD (nx + 1) mk0) = true) := Lib.hid (fun _ => by rw [hMn.out]; exact hk)
            rw [hk] at K7
            clear hk HPx HA HP HC
            go_wp2_with fail
            refine wp_region_held_drew (S := fun w' => Up w2 w' ∧ w'.cell? ⟨b, o + i * 7, none⟩ = some (.int .i64 sq) ∧ w'.cell? ⟨b, o + i * 7 + 1, none⟩ = some (.int .i64 t) ∧ w'.cell? ⟨b, o + i * 7 + 2, none⟩ = some (.int .i64 nn) ∧ w'.cell? ⟨b, o + i * 7 + 3, none⟩ = some (.int .i64 s) ∧ w'.cell? ⟨b, o + i * 7 + 4, none⟩ = some (.int .i64 qq) ∧ w'.cell? ⟨b, o + i * 7 + 5, none⟩ = some (.int .i64 lo) ∧ w'.cell? ⟨b, o + i * 7 + 6, none⟩ = some (.int .i64 hi) ∧ w'.cell? ⟨b, o + (nx + 1) * 7, none⟩ = some (.int .i64 sq1) ∧ w'.cell? ⟨b, o + (nx + 1) * 7 + 1, none⟩ = some (.int .i64 t1) ∧ w'.cell? ⟨b, o + (nx + 1) * 7 + 2, none⟩ = some (.int .i64 nn1) ∧ w'.cell? ⟨b, o + (nx + 1) * 7 + 3, none⟩ = some (.int .i64 s1) ∧ w'.cell? ⟨b, o + (nx + 1) * 7 + 4, none⟩ = some (.int .i64 qq1) ∧ w'.cell? ⟨b, o + (nx + 1) * 7 + 5, none⟩ = some (.int .i64 lo1) ∧ w'.cell? ⟨b, o + (nx + 1) * 7 + 6, none⟩ = some (.int .i64 hi1)) (by kernel_rfl) ?hB282 (fun hHeld => ?_)
            case hB282 => (first | (with_reducible assumption) | (with_reducible exact keepK14 (Lib.hid (Up.refl _).drew) HSS.out) | (with_reducible exact HX3.out))
            refine wpAnyH_take (i := 0) (oi := ⟨_, _, _, _, _, _⟩) (v := ?v283) rfl (by kernel_rfl) (by kernel_rfl) (by kernel_rfl) (fun _ _ _ h => h) (Or.inl ⟨by rfl, ?hy283⟩) (by assumption) ?_
            case hy283 => (intro w hSw; (try dsimp only at hSw); go_simp; (try (with_reducible rfl)))
            (try simp only [Act.put, List.setIfInBounds_toArray, List.set_cons_zero, List.set_cons_succ])
            refine wpAnyH_take (i := 1) (oi := ⟨_, _, _, _, _, _⟩) (v := ?v284) rfl (by kernel_rfl) (by kernel_rfl) (by kernel_rfl) (fun _ _ _ h => h) (Or.inl ⟨by rfl, ?hy284⟩) (by assumption) ?_
            case hy284 => (intro w hSw; (try dsimp only at hSw); go_simp; (try (with_reducible rfl)))
            (try simp only [Act.put, List.setIfInBounds_toArray, List.set_cons_zero, List.set_cons_succ])
            refine wpAnyH_take (i := 2) (oi := ⟨_, _, _, _, _, _⟩) (v := ?v285) rfl (by kernel_rfl) (by kernel_rfl) (by kernel_rfl) (fun _ _ _ h => h) (Or.inl ⟨by rfl, ?hy285⟩) (by assumption) ?_
            case hy285 => (intro w hSw; (try dsimp only at hSw); go_simp; (try (with_reducible rfl)))
            (try simp only [Act.put, List.setIfInBounds_toArray, List.set_cons_zero, List.set_cons_succ])
            refine wpAnyH_take (i := 3) (oi := ⟨_, _, _, _, _, _⟩) (v := ?v286) rfl (by kernel_rfl) (by kernel_rfl) (by kernel_rfl) (fun _ _ _ h => h) (Or.inl ⟨by rfl, ?hy286⟩) (by assumption) ?_
            case hy286 => (intro w hSw; (try dsimp only at hSw); go_simp; (try (with_reducible rfl)))
            (try simp only [Act.put, List.setIfInBounds_toArray, List.set_cons_zero, List.set_cons_succ])
            refine wpAnyH_take (i := 4) (oi := ⟨_, _, _, _, _, _⟩) (v := ?v287) rfl (by kernel_rfl) (by kernel_rfl) (by kernel_rfl) (fun _ _ _ h => h) (Or.inl ⟨by rfl, ?hy287⟩) (by assumption) ?_
            case hy287 => (intro w hSw; (try dsimp only at hSw); go_simp; (try (with_reducible rfl)))
            (try simp only [Act.put, List.setIfInBounds_toArray, List.set_cons_zero, List.set_cons_succ])
            refine wpAnyH_take (i := 5) (oi := ⟨_, _, _, _, _, _⟩) (v := ?v288) rfl (by kernel_rfl) (by kernel_rfl) (by kernel_rfl) (fun _ _ _ h => h) (Or.inl ⟨by rfl, ?hy288⟩) (by assumption) ?_
            case hy288 => (intro w hSw; (try dsimp only at hSw); go_simp; (try (with_reducible rfl)))
            (try simp only [Act.put, List.setIfInBounds_toArray, List.set_cons_zero, List.set_cons_succ])
            refine wpAnyH_take (i := 6) (oi := ⟨_, _, _, _, _, _⟩) (v := ?v289) rfl (by kernel_rfl) (by kernel_rfl) (by kernel_rfl) (fun _ _ _ h => h) (Or.inl ⟨by rfl, ?hy289⟩) (by assumption) ?_
            case hy289 => (intro w hSw; (try dsimp only at hSw); go_simp; (try (with_reducible rfl)))
            (try simp only [Act.put, List.setIfInBounds_toArray, List.set_cons_zero, List.set_cons_succ])
            refine wpAnyH_take (i := 7) (oi := ⟨_, _, _, _, _, _⟩) (v := ?v290) rfl (by kernel_rfl) (by kernel_rfl) (by kernel_rfl) (fun _ _ _ h => h) (Or.inl ⟨by rfl, ?hy290⟩) (by assumption) ?_
            case hy290 => (intro w hSw; (try dsimp only at hSw); go_simp; (try (with_reducible rfl)))
            (try simp only [Act.put, List.setIfInBounds_toArray, List.set_cons_zero, List.set_cons_succ])
            refine wpAnyH_take (i := 8) (oi := ⟨_, _, _, _, _, _⟩) (v := ?v291) rfl (by kernel_rfl) (by kernel_rfl) (by kernel_rfl) (fun _ _ _ h => h) (Or.inl ⟨by rfl, ?hy291⟩) (by assumption) ?_
            case hy291 => (intro w hSw; (try dsimp only at hSw); go_simp; (try (with_reducible rfl)))
            (try simp only [Act.put, List.setIfInBounds_toArray, List.set_cons_zero, List.set_cons_succ])
            refine wpAnyH_take (i := 9) (oi := ⟨_, _, _, _, _, _⟩) (v := ?v292) rfl (by kernel_rfl) (by kernel_rfl) (by kernel_rfl) (fun _ _ _ h => h) (Or.inl ⟨by rfl, ?hy292⟩) (by assumption) ?_
            case hy292 => (intro w hSw; (try dsimp only at hSw); go_simp; (try (with_reducible rfl)))
            (try simp only [Act.put, List.setIfInBounds_toArray, List.set_cons_zero, List.set_cons_succ])
            refine wpAnyH_take (i := 10) (oi := ⟨_, _, _, _, _, _⟩) (v := ?v293) rfl (by kernel_rfl) (by kernel_rfl) (by kernel_rfl) (fun _ _ _ h => h) (Or.inl ⟨by rfl, ?hy293⟩) (by assumption) ?_
            case hy293 => (intro w hSw; (try dsimp only at hSw); go_simp; (try (with_reducible rfl)))
            (try simp only [Act.put, List.setIfInBounds_toArray, List.set_cons_zero, List.set_cons_succ])
            refine wpAnyH_take (i := 11) (oi := ⟨_, _, _, _, _, _⟩) (v := ?v294) rfl (by kernel_rfl) (by kernel_rfl) (by kernel_rfl) (fun _ _ _ h => h) (Or.inl ⟨by rfl, ?hy294⟩) (by assumption) ?_
            case hy294 => (intro w hSw; (try dsimp only at hSw); go_simp; (try (with_reducible rfl)))
            (try simp only [Act.put, List.setIfInBounds_toArray, List.set_cons_zero, List.set_cons_succ])
            refine wpAnyH_take (i := 12) (oi := ⟨_, _, _, _, _, _⟩) (v := ?v295) rfl (by kernel_rfl) (by kernel_rfl) (by kernel_rfl) (fun _ _ _ h => h) (Or.inl ⟨by rfl, ?hy295⟩) (by assumption) ?_
            case hy295 => (intro w hSw; (try dsimp only at hSw); go_simp; (try (with_reducible rfl)))
            (try simp only [Act.put, List.setIfInBounds_toArray, List.set_cons_zero, List.set_cons_succ])
            refine wpAnyH_take (i := 13) (oi := ⟨_, _, _, _, _, _⟩) (v := ?v296) rfl (by kernel_rfl) (by kernel_rfl) (by kernel_rfl) (fun _ _ _ h => h) (Or.inl ⟨by rfl, ?hy296⟩) (by assumption) ?_
            case hy296 => (intro w hSw; (try dsimp only at hSw); go_simp; (try (with_reducible rfl)))
            (try simp only [Act.put, List.setIfInBounds_toArray, List.set_cons_zero, List.set_cons_succ])
            refine wpAnyH_take (i := 14) (oi := ⟨_, _, _, _, _, _⟩) (v := ?v297) rfl (by kernel_rfl) (by kernel_rfl) (by kernel_rfl) (fun _ _ _ h => h) (Or.inl ⟨by rfl, ?hy297⟩) (by assumption) ?_
            case hy297 => (intro w hSw; (try dsimp only at hSw); go_simp; (try (with_reducible rfl)))
            (try simp only [Act.put, List.setIfInBounds_toArray, List.set_cons_zero, List.set_cons_succ])
            refine wpAnyH_take (i := 15) (oi := ⟨_, _, _, _, _, _⟩) (v := ?v298) rfl (by kernel_rfl) (by kernel_rfl) (by kernel_rfl) (fun _ _ _ h => h) (Or.inl ⟨by rfl, ?hy298⟩) (by assumption) ?_
            case hy298 => (intro w hSw; (try dsimp only at hSw); go_simp; (try (with_reducible rfl)))
            (try simp only [Act.put, List.setIfInBounds_toArray, List.set_cons_zero, List.set_cons_succ])
            refine wpAnyH_ready (rs := [16]) (by kernel_rfl) (by simp) ?_
            refine AllReadyH.cons (o := ⟨_, _, _, _, _, _⟩) rfl (fun K hK => ?_) AllReadyH.nil
            go_simp
            (go_at_call 135; (with_reducible refine (K7.out _ (HU2.out.trans hHeld.1)).mono ?_); rintro e w3 ⟨rfl, hu⟩; have HU3 := Lib.hid hu; have HX3 := Lib.hid (keepK14 HU3 hHeld); clear hu)
            (try go_wp2_with fail)
            refine hK.out _ _ ?hB299 (fun hHeld => ?_)
            case hB299 => (first | (with_reducible assumption) | (with_reducible exact keepK14 (Lib.hid (Up.refl _).drew) HSS.out) | (with_reducible exact HX3.out))
            clear hK K
            (try simp only [Act.put, List.setIfInBounds_toArray, List.set_cons_zero, List.set_cons_succ])
            refine wpAnyH_take (i := 17) (oi := ⟨_, _, _, _, _, _⟩) (v := ?v300) rfl (by kernel_rfl) (by kernel_rfl) (by kernel_rfl) (fun _ _ _ h => h) (Or.inl ⟨by rfl, ?hy300⟩) (by assumption) ?_
            case hy300 => (intro w hSw; (try dsimp only at hSw); go_simp; (try (with_reducible rfl)))
            (try simp only [Act.put, List.setIfInBounds_toArray, List.set_cons_zero, List.set_cons_succ])
            refine wpAnyH_done (by kernel_rfl) ?_ _
            have UX := Lib.hid hHeld.1
            (repeat clear ‹Up w2 _ ∧ _›)
            go_wp2_with fail
            go_roundw
            case rel => exact ⟨nx + 1, by go_num, by omega, Or.inl (by omega), HC2, UX⟩
            case measure => simp [intOf]; omega
        · have HR := Lib.hid (HP.out nx h1 h2 HC.out (fun h => absurd h hx))
          have t1 : decide ((nx : Int) + 1 < n) = false := decide_eq_false (by omega)
          have f35 : IntKind.i64.wrap ((nx : Int) + 1) = (nx : Int) + 1 := by rw [IntKind.wrap_i64]; omega
          have HSS : Hid (Up w2 wr ∧ True) := Lib.hid ⟨HV.out, trivial⟩
          clear HP HC
          go_wp2_with fail
          refine wp_region_held_drew (S := fun w' => Up w2 w' ∧ True) (by kernel_rfl) ?hB301 (fun hHeld => ?_)
          case hB301 => (first | (with_reducible assumption) | exact ⟨HSS.out.1.drew, trivial⟩)
          refine wpAnyH_take (i := 0) (oi := ⟨_, _, _, _, _, _⟩) (v := ?v302) rfl (by kernel_rfl) (by kernel_rfl) (by kernel_rfl) (fun _ _ _ h => h) (Or.inl ⟨by rfl, ?hy302⟩) (by assumption) ?_
          case hy302 => (intro w hSw; (try dsimp only at hSw); go_simp; (try (with_reducible rfl)))
          (try simp only [Act.put, List.setIfInBounds_toArray, List.set_cons_zero, List.set_cons_succ])
          refine wpAnyH_take (i := 1) (oi := ⟨_, _, _, _, _, _⟩) (v := ?v303) rfl (by kernel_rfl) (by kernel_rfl) (by kernel_rfl) (fun _ _ _ h => h) (Or.inl ⟨by rfl, ?hy303⟩) (by assumption) ?_
          case hy303 => (intro w hSw; (try dsimp only at hSw); go_simp; (try (with_reducible rfl)))
          (try simp only [Act.put, List.setIfInBounds_toArray, List.set_cons_zero, List.set_cons_succ])
          refine wpAnyH_take (i := 2) (oi := ⟨_, _, _, _, _, _⟩) (v := ?v304) rfl (by kernel_rfl) (by kernel_rfl) (by kernel_rfl) (fun _ _ _ h => h) (Or.inl ⟨by rfl, ?hy304⟩) (by assumption) ?_
          case hy304 => (intro w hSw; (try dsimp only at hSw); go_simp; (try (with_reducible rfl)))
          (try simp only [Act.put, List.setIfInBounds_toArray, List.set_cons_zero, List.set_cons_succ])
          refine wpAnyH_take (i := 3) (oi := ⟨_, _, _, _, _, _⟩) (v := ?v305) rfl (by kernel_rfl) (by kernel_rfl) (by kernel_rfl) (fun _ _ _ h => h) (Or.inl ⟨by rfl, ?hy305⟩) (by assumption) ?_
          case hy305 => (intro w hSw; (try dsimp only at hSw); go_simp; (try (with_reducible rfl)))
          (try simp only [Act.put, List.setIfInBounds_toArray, List.set_cons_zero, List.set_cons_succ])
          refine wpAnyH_take (i := 4) (oi := ⟨_, _, _, _, _, _⟩) (v := ?v306) rfl (by kernel_rfl) (by kernel_rfl) (by kernel_rfl) (fun _ _ _ h => h) (Or.inl ⟨by rfl, ?hy306⟩) (by assumption) ?_
          case hy306 => (intro w hSw; (try dsimp only at hSw); go_simp; (try (with_reducible rfl)))
          (try simp only [Act.put, List.setIfInBounds_toArray, List.set_cons_zero, List.set_cons_succ])
          refine wpAnyH_take (i := 5) (oi := ⟨_, _, _, _, _, _⟩) (v := ?v307) rfl (by kernel_rfl) (by kernel_rfl) (by kernel_rfl) (fun _ _ _ h => h) (Or.inl ⟨by rfl, ?hy307⟩) (by assumption) ?_
          case hy307 => (intro w hSw; (try dsimp only at hSw); go_simp; (try (with_reducible rfl)))
          (try simp only [Act.put, List.setIfInBounds_toArray, List.set_cons_zero, List.set_cons_succ])
          refine wpAnyH_take (i := 6) (oi := ⟨_, _, _, _, _, _⟩) (v := undef) rfl (by kernel_rfl) (by kernel_rfl) (by kernel_rfl) (fun _ _ _ h => h) (Or.inr ⟨by rfl, rfl⟩) (by assumption) ?_
          (try simp only [Act.put, List.setIfInBounds_toArray, List.set_cons_zero, List.set_cons_succ])
          refine wpAnyH_take (i := 7) (oi := ⟨_, _, _, _, _, _⟩) (v := undef) rfl (by kernel_rfl) (by kernel_rfl) (by kernel_rfl) (fun _ _ _ h => h) (Or.inr ⟨by rfl, rfl⟩) (by assumption) ?_
          (try simp only [Act.put, List.setIfInBounds_toArray, List.set_cons_zero, List.set_cons_succ])
          refine wpAnyH_take (i := 8) (oi := ⟨_, _, _, _, _, _⟩) (v := undef) rfl (by kernel_rfl) (by kernel_rfl) (by kernel_rfl) (fun _ _ _ h => h) (Or.inr ⟨by rfl, rfl⟩) (by assumption) ?_
          (try simp only [Act.put, List.setIfInBounds_toArray, List.set_cons_zero, List.set_cons_succ])
          refine wpAnyH_take (i := 9) (oi := ⟨_, _, _, _, _, _⟩) (v := undef) rfl (by kernel_rfl) (by kernel_rfl) (by kernel_rfl) (fun _ _ _ h => h) (Or.inr ⟨by rfl, rfl⟩) (by assumption) ?_
          (try simp only [Act.put, List.setIfInBounds_toArray, List.set_cons_zero, List.set_cons_succ])
          refine wpAnyH_take (i := 10) (oi := ⟨_, _, _, _, _, _⟩) (v := undef) rfl (by kernel_rfl) (by kernel_rfl) (by kernel_rfl) (fun _ _ _ h => h) (Or.inr ⟨by rfl, rfl⟩) (by assumption) ?_
          (try simp only [Act.put, List.setIfInBounds_toArray, List.set_cons_zero, List.set_cons_succ])
          refine wpAnyH_take (i := 11) (oi := ⟨_, _, _, _, _, _⟩) (v := undef) rfl (by kernel_rfl) (by kernel_rfl) (by kernel_rfl) (fun _ _ _ h => h) (Or.inr ⟨by rfl, rfl⟩) (by assumption) ?_
          (try simp only [Act.put, List.setIfInBounds_toArray, List.set_cons_zero, List.set_cons_succ])
          refine wpAnyH_take (i := 12) (oi := ⟨_, _, _, _, _, _⟩) (v := undef) rfl (by kernel_rfl) (by kernel_rfl) (by kernel_rfl) (fun _ _ _ h => h) (Or.inr ⟨by rfl, rfl⟩) (by assumption) ?_
          (try simp only [Act.put, List.setIfInBounds_toArray, List.set_cons_zero, List.set_cons_succ])
          refine wpAnyH_take (i := 13) (oi := ⟨_, _, _, _, _, _⟩) (v := undef) rfl (by kernel_rfl) (by kernel_rfl) (by kernel_rfl) (fun _ _ _ h => h) (Or.inr ⟨by rfl, rfl⟩) (by assumption) ?_
          (try simp only [Act.put, List.setIfInBounds_toArray, List.set_cons_zero, List.set_cons_succ])
          refine wpAnyH_take (i := 14) (oi := ⟨_, _, _, _, _, _⟩) (v := undef) rfl (by kernel_rfl) (by kernel_rfl) (by kernel_rfl) (fun _ _ _ h => h) (Or.inr ⟨by rfl, rfl⟩) (by assumption) ?_
          (try simp only [Act.put, List.setIfInBounds_toArray, List.set_cons_zero, List.set_cons_succ])
          refine wpAnyH_take (i := 15) (oi := ⟨_, _, _, _, _, _⟩) (v := undef) rfl (by kernel_rfl) (by kernel_rfl) (by kernel_rfl) (fun _ _ _ h => h) (Or.inr ⟨by rfl, rfl⟩) (by assumption) ?_
          (try simp only [Act.put, List.setIfInBounds_toArray, List.set_cons_zero, List.set_cons_succ])
          refine wpAnyH_take (i := 16) (oi := ⟨_, _, _, _, _, _⟩) (v := undef) rfl (by kernel_rfl) (by kernel_rfl) (by kernel_rfl) (fun _ _ _ h => h) (Or.inr ⟨by rfl, rfl⟩) (by assumption) ?_
          (try simp only [Act.put, List.setIfInBounds_toArray, List.set_cons_zero, List.set_cons_succ])
          refine wpAnyH_take (i := 17) (oi := ⟨_, _, _, _, _, _⟩) (v := ?v308) rfl (by kernel_rfl) (by kernel_rfl) (by kernel_rfl) (fun _ _ _ h => h) (Or.inl ⟨by rfl, ?hy308⟩) (by assumption) ?_
          case hy308 => (intro w hSw; (try dsimp only at hSw); go_simp; (try (with_reducible rfl)))
          (try simp only [Act.put, List.setIfInBounds_toArray, List.set_cons_zero, List.set_cons_succ])
          refine wpAnyH_done (by kernel_rfl) ?_ _
          have UX := Lib.hid hHeld.1
          (repeat clear ‹Up w2 _ ∧ _›)
          go_wp2_with fail
          go_roundw
          case rel => exact ⟨nx, m + 1, A2, k2, _, rfl, by go_num, by omega, by omega, Lib.hid ⟨HO2.out.1, HO2.out.2.of_up UX.out⟩, HR, Lib.hid (HU2.out.trans UX.out)⟩
          case measure => simp [intOf]; omega
    · obtain rfl : i = n := by omega
      go_wp2_with fail
      go_ret
      refine ⟨B, m, kb, rfl, hmi, (OG.sg HO.out).1, OG.nw HO.out, HW.out, ?_⟩
      have h := (OG.sg HO.out).2
      have e := HZ.out
      rw [Nat.sub_self, show X.drop i = [] from List.drop_eq_nil_of_le (by rw [HL.out]; exact Nat.le_refl _), prL_nil, List.append_nil] at e
      rw [← e]
      exact h
end Go.Proofs.Ytafkoddgefcpnaa
