/- choose and Rebase of the reference of layer 15. -/
import Derived.Test.YtinjainclhfahaaRows
import Derived.Test.YtinjainclhfahaaZPAddq111
import Derived.Test.YtinjainclhfahaaZPRValq114
import Derived.Test.YtinjainclhfahaaZPRebq110
import Derived.Test.YtinjainclhfahaaZPStq85
namespace Go.Proofs.Ytinjainclhfahaa
open Go.RowKit
set_option linter.unusedVariables false

set_option maxHeartbeats 4000000 in
set_option maxRecDepth 100000 in
theorem rchoose_any : ∀ (n k : Nat), n ≤ 4 → k ≤ n → ∀ w : World,
    Calls Try.prog 51 #[.int .i64 n, .int .i64 k] w fun e w' => e = .returned (.int .u64 (chZ n k)) ∧ w = w' := by
  intro n
  induction n with
  | zero =>
    intro k hn hk w
    obtain rfl : k = 0 := by omega
    go_enter Try.func51, Try.ntmps51
    go_wp2_with fail
    go_ret
    exact ⟨rfl, rfl⟩
  | succ n ih =>
    intro k hn hk w
    by_cases h0 : k = 0
    · subst h0
      generalize n + 1 = N at *
      go_enter Try.func51, Try.ntmps51
      go_wp2_with fail
      go_ret
      exact ⟨by cases N <;> rfl, rfl⟩
    obtain ⟨k1, rfl⟩ : ∃ z, k = z + 1 := ⟨k - 1, by omega⟩
    have t1 : (((k1 + 1 : Nat) : Int) == 0) = false := by simp; omega
    by_cases h1 : k1 = n
    · subst h1
      have H := Lib.hid (chZ_self (k1 + 1)).1
      generalize k1 + 1 = N at *
      go_enter Try.func51, Try.ntmps51
      go_wp2_with fail
      go_ret
      exact ⟨by rw [H.out]; rfl, rfl⟩
    have t2 : (((k1 + 1 : Nat) : Int) == ((n + 1 : Nat) : Int)) = false := by simp; omega
    have K1 := Lib.hid (fun W => ih k1 (by omega) (by omega) W)
    have K2 := Lib.hid (fun W => ih (k1 + 1) (by omega) (by omega) W)
    have e1 : IntKind.i64.wrap (((n + 1 : Nat) : Int) - 1) = n := by rw [IntKind.wrap_i64]; omega
    have e2 : IntKind.i64.wrap (((k1 + 1 : Nat) : Int) - 1) = k1 := by rw [IntKind.wrap_i64]; omega
    have a1 := chZ_le (show n ≤ 4 by omega) (show k1 ≤ n by omega)
    have a2 := chZ_le (show n ≤ 4 by omega) (show k1 + 1 ≤ n by omega)
    have e3 : IntKind.u64.wrap (chZ n k1 + chZ n (k1 + 1)) = chZ n k1 + chZ n (k1 + 1) := by rw [IntKind.wrap_u64]; omega
    have H : Hid (chZ (n + 1) (k1 + 1) = chZ n k1 + chZ n (k1 + 1)) := Lib.hid rfl
    generalize chZ n k1 = x1 at *
    generalize chZ n (k1 + 1) = x2 at *
    generalize chZ (n + 1) (k1 + 1) = x3 at *
    generalize n + 1 = N at *
    generalize k1 + 1 = K at *
    clear ih hn hk h0 h1 a1 a2
    go_enter Try.func51, Try.ntmps51
    go_wp2_with (first
      | (go_at_call 51; (with_reducible refine (K1.out _).mono ?_); rintro e w' ⟨rfl, rfl⟩)
      | (go_at_call 51; (with_reducible refine (K2.out _).mono ?_); rintro e w' ⟨rfl, rfl⟩))
    go_ret
    exact ⟨by rw [H.out]; rfl, rfl⟩
set_option maxHeartbeats 4000000 in
set_option maxRecDepth 100000 in
theorem rrebase15_up (p l c t : Int) (n k : Nat) (A : Option Addr) (X : List Int) (hn : n ≤ 50000) (hk : n ≤ k) (hI : ∀ x ∈ X, In2 x) (w : World) (hS : SG cW w A n X) :
    Calls Try.prog 23 #[.agg #[.int .i64 p, .int .i64 l, .int .i64 c, .slice A n k], .int .i64 t] w fun e w' => Rs (rebQ p l c X t) w e w' := by
  have HS := Lib.hid hS
  have KV := Lib.hid (fun W (hu : Up w W) => rvalidate15_up p l c n k A X hn hI W (hS.up hu))
  unfold stQE at KV
  unfold rebQ
  by_cases hv : stP p l c X = true
  case neg =>
    rw [if_neg hv] at KV ⊢
    clear hv hS hI
    go_enter Try.func23, Try.ntmps23
    go_wp2_with (go_at_call 21; (with_reducible refine (KV.out _ (((Up.refl w).alloc _ _).alloc _ _)).mono ?_); rintro e w1 ⟨rfl, hu⟩; obtain ⟨U1, E1⟩ := call2 w hu; clear hu)
    refine bodyPost_ret (v := .tuple #[.agg #[.int .i64 0, .int .i64 0, .int .i64 0, .slice none 0 0], .int .i64 2]) (by simp [results, Try.results23, go_sem, E1]) rfl (Rs.no rfl ?_)
    ((repeat (first | (with_reducible exact Up.refl _) | (with_reducible exact U1.out) | (with_reducible refine Up.alloc ?_ _ _) | (with_reducible refine Up.setCell ?_ ?_ _) | (with_reducible refine Up.drewN ?_ _) | (with_reducible refine Up.drew ?_))); all_goals (first | (simp; done) | (simp; omega) | omega))
  rw [if_pos hv] at KV ⊢
  obtain ⟨h1, h2, h3⟩ := stP_is hS.1 hv
  by_cases h : t < 0 ∨ l < t
  case pos =>
    rw [if_pos h]
    rcases (show t < 0 ∨ (0 ≤ t ∧ l < t) by omega) with g | ⟨g0, g⟩
    all_goals
      clear hv hS hI h h1 h2 h3
      go_enter Try.func23, Try.ntmps23
      go_wp2_with (go_at_call 21; (with_reducible refine (KV.out _ (((Up.refl w).alloc _ _).alloc _ _)).mono ?_); rintro e w1 ⟨rfl, hu⟩; obtain ⟨U1, E1⟩ := call2 w hu; clear hu)
      refine bodyPost_ret (v := .tuple #[.agg #[.int .i64 0, .int .i64 0, .int .i64 0, .slice none 0 0], .int .i64 1]) (by simp [results, Try.results23, go_sem, E1]) rfl (Rs.no rfl ?_)
      ((repeat (first | (with_reducible exact Up.refl _) | (with_reducible exact U1.out) | (with_reducible refine Up.alloc ?_ _ _) | (with_reducible refine Up.setCell ?_ ?_ _) | (with_reducible refine Up.drewN ?_ _) | (with_reducible refine Up.drew ?_))); all_goals (first | (simp; done) | (simp; omega) | omega))
  rw [if_neg h]
  have f1 : decide (t < 0) = false := decide_eq_false (by omega)
  have f2 : decide (l < t) = false := decide_eq_false (by omega)
  obtain ⟨d, hd⟩ : ∃ z, z = l - t := ⟨_, rfl⟩
  rw [← hd]
  have k1 : IntKind.i64.wrap (l - t) = d := by rw [hd]; exact IntWalk.i64_in _ (by omega)
  have k2 : IntKind.u64.wrap d = d := by rw [IntKind.wrap_u64]; omega
  have hd0 : 0 ≤ d := by omega
  have hd1 : d ≤ 16777217 := by omega
  have hn5 : n ≤ 5 := by omega
  have hnn : ∀ x ∈ X, 0 ≤ x := fun x hx => (hI x hx).1
  have hZ : reP d X = byL n (fun j => reS d X j (j + 1)) := by unfold reP; rw [hS.1]
  have HZ := Lib.hid hZ
  have HB : Hid (∀ j i, j < n → i ≤ j → ¬ In2 (reS d X j (i + 1)) → (if fitL (reP d X) = true then (p, t, c, reP d X, 0) else noQ 6 : Q5) = noQ 6) := Lib.hid (fun j i hj hi h => by rw [if_neg]; rw [hZ, fitL_no (f := fun j => reS d X j (j + 1)) hj (reS_far hd0 hnn j (show i + 1 ≤ j + 1 by omega) h)]; decide)
  have HT : Hid ((∀ j, j < n → In2 (reS d X j (j + 1))) → (if fitL (reP d X) = true then (p, t, c, reP d X, 0) else noQ 6 : Q5) = (p, t, c, reP d X, 0)) := Lib.hid (fun h => by rw [if_pos]; rw [hZ]; exact fitL_by.2 h)
  have HQ : Hid (∀ j i, ¬ In2 (d ^ (j - i) * chZ j i * X.getD i 0) → ¬ In2 (reS d X j (i + 1))) := Lib.hid (fun j i h g => h (reS_in hd0 hnn j i g).2)
  generalize (if fitL (reP d X) = true then (p, t, c, reP d X, 0) else noQ 6 : Q5) = QQ at *
  generalize reP d X = Z at *
  have KW := Lib.hid (fun D (hD : D ≤ 4) W => rwpow_v d D hd0 hd1 hD W)
  have KB := Lib.hid (fun j i (hj : j ≤ 4) (hi : i ≤ j) W => rchoose_any j i hj hi W)
  have KO := Lib.hid (fun j i (hj : j ≤ 4) (hi : i ≤ j) W => rwof_v (chZ j i) ⟨by have := (chZ_le hj hi).1; omega, by have := (chZ_le hj hi).2; omega⟩ W)
  have KM : Hid (∀ j i, j ≤ 4 → i ≤ j → ∀ W, Calls Try.prog 44 #[.agg #[.int .u64 (hiZ (d ^ (j - i))), .int .u64 (loZ (d ^ (j - i)))], .agg #[.int .u64 (hiZ (chZ j i)), .int .u64 (loZ (chZ j i))]] W fun e w' => e = .returned (.tuple #[.agg #[.int .u64 (hiZ (d ^ (j - i) * chZ j i)), .int .u64 (loZ (d ^ (j - i) * chZ j i))], .bool true]) ∧ Up W w') := Lib.hid (fun j i hj hi W => by
    have q := weight_in hd0 hd1 hj hi
    have h := rwmul_v (d ^ (j - i)) (chZ j i) (age_in hd0 hd1 (show j - i ≤ 4 by omega)) ⟨chZ_nn j i, by have := (chZ_le hj hi).2; omega⟩ W
    rw [fits2_yes q, fit2_yes q] at h
    exact h)
  have HWI : Hid (∀ j i, j ≤ 4 → i ≤ j → In2 (d ^ (j - i) * chZ j i)) := Lib.hid (fun j i hj hi => weight_in hd0 hd1 hj hi)
  have HI := Lib.hid hI
  clear hv hS hI h h1 h2 h3 hd hd0 hd1 hnn hZ
  go_enter Try.func23, Try.ntmps23
  go_wp2_with (go_at_call 21; (with_reducible refine (KV.out _ (((Up.refl w).alloc _ _).alloc _ _)).mono ?_); rintro e w1 ⟨rfl, hu⟩; obtain ⟨U1, E1⟩ := call2 w hu; clear hu)
  go_loopw [7, 35] (fun s u wr => ∃ (j : Nat) (A1 : Option Addr) (k1 : Nat), s = .slice A1 j k1 ∧ u = .int .i64 j ∧ j ≤ n ∧ Hid (∀ i, i < j → In2 (reS d X i (i + 1))) ∧ Hid (OwW w1 wr (.slice A1 j k1) j (byL j (fun i => reS d X i (i + 1)))) ∧ Hid (Up w1 wr)) (fun _ u _ => n - (intOf u).toNat)
  case atStart => exact ⟨0, none, 0, rfl, rfl, Nat.zero_le _, Lib.hid (fun i hi => absurd hi (Nat.not_lt_zero _)), Lib.hid (OG.nil _ _ _), Lib.hid (Up.refl _)⟩
  case round =>
    obtain ⟨j, A1, k1, rfl, rfl, hjn, HG, HO, HW⟩ := hrel
    obtain ⟨wo, hwo⟩ : ∃ z, z = wr := ⟨_, rfl⟩
    subst hwo
    obtain ⟨Ur, Er⟩ := call2 w HW.out
    have zr := fun o => Ur.out.ownGe (Nat.le_succ w.heap.size) o
    by_cases hj : j < n
    case neg =>
      obtain rfl : j = n := by omega
      have f3 : decide ((j : Int) < j) = false := decide_eq_false (by omega)
      obtain rfl := HT.out HG.out
      have HR : Hid (SG cW wo A1 j Z) := Lib.hid (by rw [HZ.out]; exact HO.out.sg.2)
      have HN : Hid (∀ b o, A1 = some ⟨b, o, none⟩ → w.heap.size + 1 < b) := Lib.hid (fun b o e => by have := HO.out.nw b o e; omega)
      have HK := Lib.hid HO.out.sg.1
      clear KW KO KM KB KV HB HQ HT HG HWI
      go_wp2_with fail
      refine bodyPost_ret (v := .tuple #[.agg #[.int .i64 p, .int .i64 t, .int .i64 c, .slice A1 j k1], .int .i64 0]) (by simp [results, Try.results23, go_sem, E1, Er]) rfl (Rs.yes rfl ?_ ?_ ?_)
      · exact ⟨HK.out, fun b o e => by have := HN.out b o e; omega⟩
      · (repeat (first | (with_reducible exact HR.out) | (with_reducible refine SG.off ?_ (fun b o e => by have := HN.out b o e; omega) _)))
      · ((repeat (first | (with_reducible exact Up.refl _) | (with_reducible exact Ur.out) | (with_reducible refine Up.alloc ?_ _ _) | (with_reducible refine Up.setCell ?_ ?_ _) | (with_reducible refine Up.drewN ?_ _) | (with_reducible refine Up.drew ?_))); all_goals (first | (simp; done) | (simp; omega) | omega))
    have g2 : (j : Int) < n := by omega
    have g3 : (0 : Int) ≤ j := by omega
    have hj4 : j ≤ 4 := by omega
    go_wp2_with fail
    go_loopw [10] (fun u wi => ∃ (i : Nat) (s : Int), u = .int .i64 i ∧ i ≤ j + 1 ∧ Hid (In2 s) ∧ Hid (s = reS d X j i) ∧ wi.cell? ⟨wo.heap.size, 0, none⟩ = some (.int .u64 (hiZ s)) ∧ wi.cell? ⟨wo.heap.size, 1, none⟩ = some (.int .u64 (loZ s)) ∧ Hid (Up wo wi)) (fun u _ => j + 1 - (intOf u).toNat)
    case atStart => exact ⟨0, 0, rfl, Nat.zero_le _, Lib.hid (⟨by decide, by decide⟩ : In2 0), Lib.hid rfl, by simp [go_sem, hiZ], by simp [go_sem, loZ], Lib.hid ((Up.refl wo).alloc _ _)⟩
    case round =>
      obtain ⟨i, s, rfl, hin, H2, Hs, s0, s1, HWi⟩ := hrel
      have hsz : wo.heap.size < wr.heap.size := World.block_lt_of_cell? _ _ s0
      obtain ⟨Ui, Ei⟩ := hold2 wo w.heap.size (w.heap.size + 1) HWi.out
      have zi := fun o => (Ur.out.trans HWi.out).ownGe (Nat.le_succ w.heap.size) o
      by_cases hi : i ≤ j
      case neg =>
        obtain rfl : i = j + 1 := by omega
        have f3 : decide (((j + 1 : Nat) : Int) ≤ (j : Int)) = false := decide_eq_false (by omega)
        have HG2 : Hid (∀ i, i < j + 1 → In2 (reS d X i (i + 1))) := Lib.hid (fun i hi => by
          rcases Nat.lt_or_ge i j with y | y
          · exact HG.out i y
          · obtain rfl : i = j := by omega
            rw [← Hs.out]; exact H2.out)
        obtain ⟨A2, k2, w3, hr, hO2, hU2⟩ := append1W w1 wr A1 j k1 _ s (HO.out.of_up HWi.out) (HW.out.trans HWi.out) (by omega)
        have HO2 := Lib.hid hO2
        have HU3 := Lib.hid hU2
        clear hO2 hU2 KW KO KM KB KV HB HQ HT HG HWI HO
        have f4 : decide (j + 1 ≤ j) = false := decide_eq_false (by omega)
        generalize hN : j + 1 = N at f3 f4 hr HG2 HO2 Hs
        have HN := Lib.hid hN
        clear hN
        go_wp2_with (refine wpList_append_run (o := ⟨some 89, _, _, _, _, _⟩) rfl (.tmp 86) (.tmp 88) _ rfl _ _ rfl rfl _ _ hr ?_)
        go_roundw
        case rel => exact ⟨N, A2, k2, rfl, by have := HN.out; congr 1; omega, by have := HN.out; omega, HG2, Lib.hid (by rw [← HN.out, byL_push]; rw [← HN.out] at Hs; rw [← Hs.out]; rw [← HN.out] at HO2; exact HO2.out), HU3⟩
        case measure => have := HN.out; simp [intOf]; omega
      obtain ⟨b, o, rfl, x0, x1⟩ := wide_at HS.out (show i < n by omega)
      have hb : b < w.heap.size := World.block_lt_of_cell? _ _ x0
      have K1 := Lib.hid (KW.out (j - i) (by omega))
      have K2 := Lib.hid (KB.out j i hj4 hi)
      have K3 := Lib.hid (KO.out j i hj4 hi)
      have K4 := Lib.hid (KM.out j i hj4 hi)
      have ix := getD_in HI.out i
      have iW := HWI.out j i hj4 hi
      have K5 := Lib.hid (fun W => rwmul_v (d ^ (j - i) * chZ j i) (X.getD i 0) iW ix W)
      have iT := fit2_in2 (d ^ (j - i) * chZ j i * X.getD i 0)
      have K6 := Lib.hid (fun W => rwadd_v s (fit2 (d ^ (j - i) * chZ j i * X.getD i 0)) H2.out iT W)
      have HE : Hid (fits2 (d ^ (j - i) * chZ j i * X.getD i 0) = true → s + fit2 (d ^ (j - i) * chZ j i * X.getD i 0) = reS d X j (i + 1)) := Lib.hid (fun h => by
        rw [fit2_yes (fits2_in h), Hs.out]; rfl)
      have B1 : Hid (fits2 (d ^ (j - i) * chZ j i * X.getD i 0) = false → QQ = noQ 6) := Lib.hid (fun h => HB.out j i hj hi (HQ.out j i (fun g => by rw [fits2_yes g] at h; cases h)))
      have B2 : Hid (fits2 (d ^ (j - i) * chZ j i * X.getD i 0) = true → fits2 (s + fit2 (d ^ (j - i) * chZ j i * X.getD i 0)) = false → QQ = noQ 6) := Lib.hid (fun h1 h => HB.out j i hj hi (by rw [← HE.out h1]; exact fun g => by rw [fits2_yes g] at h; cases h))
      have B3 : Hid (fits2 (d ^ (j - i) * chZ j i * X.getD i 0) = true → fits2 (s + fit2 (d ^ (j - i) * chZ j i * X.getD i 0)) = true → In2 (fit2 (s + fit2 (d ^ (j - i) * chZ j i * X.getD i 0))) ∧ fit2 (s + fit2 (d ^ (j - i) * chZ j i * X.getD i 0)) = reS d X j (i + 1)) := Lib.hid (fun h1 h => ⟨fit2_in2 _, by rw [fit2_yes (fits2_in h)]; exact HE.out h1⟩)
      clear HB HT HQ KW KB KO KM HWI HE iW ix iT KV HG HO
      obtain ⟨R, hR⟩ : ∃ z, z = reS d X j (i + 1) := ⟨_, rfl⟩
      rw [← hR] at B3
      have HRr := Lib.hid hR
      generalize fits2 (s + fit2 (d ^ (j - i) * chZ j i * X.getD i 0)) = fS at *
      generalize fit2 (s + fit2 (d ^ (j - i) * chZ j i * X.getD i 0)) = S2 at *
      generalize fits2 (d ^ (j - i) * chZ j i * X.getD i 0) = fT at *
      generalize fit2 (d ^ (j - i) * chZ j i * X.getD i 0) = T at *
      generalize d ^ (j - i) * chZ j i = Wt at *
      generalize X.getD i 0 = x at *
      generalize d ^ (j - i) = P at *
      generalize chZ j i = C at *
      obtain ⟨D, hD⟩ : ∃ z, z = j - i := ⟨_, rfl⟩
      rw [← hD] at K1
      have kD : IntKind.i64.wrap ((j : Int) - i) = D := by rw [IntKind.wrap_i64]; omega
      have f3 : (i : Int) ≤ j := by omega
      have f4 : (i : Int) < n := by omega
      have f5 : (0 : Int) ≤ i := by omega
      have hin2 : i < n := by omega
      clear hR hD
      go_upto_region 15 with (go_at_call 43; (with_reducible refine (K1.out _).mono ?_); rintro e w2 ⟨rfl, hu⟩; obtain ⟨U2, E2⟩ := hold3 wo w.heap.size (w.heap.size + 1) wo.heap.size hu; clear hu)
      refine (show ∀ ws : World, ws = _ → Code.wp _ _ _ _ ws from fun ws hws => ?_) _ rfl
      obtain ⟨Us, Es⟩ := hold4 wo w.heap.size (w.heap.size + 1) wo.heap.size w2.heap.size (Up.of_eq hws)
      clear hws
      go_cut [13, 14] (fun s t wx => ∃ g : Nat, s = .pointer (some ⟨g, 0, none⟩) ∧ t = .bool true ∧ ws.heap.size ≤ g ∧ wx.cell? ⟨g, 0, none⟩ = some (.int .u64 (hiZ Wt)) ∧ wx.cell? ⟨g, 1, none⟩ = some (.int .u64 (loZ Wt)) ∧ Hid (Up ws wx))
      case first =>
        go_region_held3 (KB1 w2.heap.size ws ws) (first | (with_reducible exact KB1.start (Lib.hid (Up.refl ws))) | (with_reducible exact KB1.next (by assumption) (by assumption)) | (repeat (first | (with_reducible assumption) | (with_reducible exact Hid.out (by assumption)) | (with_reducible exact KB1.base (Lib.hid (Up.refl ws))) | (with_reducible exact KB1.start (Lib.hid (Up.refl ws))) | (with_reducible refine KB1.next ((Up.refl _).alloc _ _) ?_) | (with_reducible refine KB1.next (Up.refl _).drew ?_) | (with_reducible refine KB1.set ?_ (by first | omega | (simp; done) | (simp; omega)) (by first | omega | (simp; done) | (simp; omega)))))) (first
          | (go_at_call 51; (with_reducible refine (K2.out _).mono ?_); rintro e w' ⟨rfl, rfl⟩)
          | (go_at_call 45; (with_reducible refine (K3.out _).mono ?_); rintro e w2 ⟨rfl, hu2⟩; have HS2 := Lib.hid (KB1.next hu2 (by assumption)); have hc2 := hu2.cells.1; have hz2 := hu2.cells.2; have hs2 := hu2.size; (try simp at hs2); (try (have hg0_2 : ws.heap.size < w2.heap.size := by omega)); (try (have hg1_2 : w1.heap.size < w2.heap.size := by omega)))
          | (go_at_call 44; (with_reducible refine (K4.out _).mono ?_); rintro e w3 ⟨rfl, hu3⟩; have HS3 := Lib.hid (KB1.next hu3 (by assumption)); have hc3 := hu3.cells.1; have hz3 := hu3.cells.2; have hs3 := hu3.size; (try simp at hs3); (try (have hg0_3 : ws.heap.size < w3.heap.size := by omega)); (try (have hg1_3 : w1.heap.size < w3.heap.size := by omega)); (try (have hg2_3 : w2.heap.size < w3.heap.size := by omega))))
        all_goals
          go_wp2_with fail
          go_meet
          refine ⟨_, rfl, rfl, ?_, ?_, ?_, Lib.hid (KB1.to (by assumption))⟩
          · first | omega | (simp; done) | (simp; omega)
          all_goals (first | (simp [go_sem, *]; done) | (simp [go_sem]; done))
      obtain ⟨q, rfl, rfl, hq, q0, q1, HQ⟩ := hcut
      have hqc : q < wc.heap.size := World.block_lt_of_cell? _ _ q0
      obtain ⟨Uc, Ec⟩ := hold3 wo w.heap.size (w.heap.size + 1) wo.heap.size HQ.out
      have Eb := fun o => (Ur.out.trans Uc.out).cells.1 b o hb
      have hbc : b < wc.heap.size := by have := (Ur.out.trans Uc.out).size; omega
      obtain ⟨wd, hwd⟩ : ∃ z, z = wc := ⟨_, rfl⟩
      subst hwd
      clear HQ hq
      go_upto_region 16 with fail
      go_cut [15, 16] (fun s t wx => ∃ g : Nat, s = .pointer (some ⟨g, 0, none⟩) ∧ t = .bool fT ∧ wd.heap.size ≤ g ∧ wx.cell? ⟨g, 0, none⟩ = some (.int .u64 (hiZ T)) ∧ wx.cell? ⟨g, 1, none⟩ = some (.int .u64 (loZ T)) ∧ Hid (Up wd wx))
      case first =>
        go_region_held3 (KB3 w.heap.size q b wd wd) (first | (with_reducible exact KB3.start (Lib.hid (Up.refl wd))) | (with_reducible exact KB3.next (by assumption) (by assumption)) | (repeat (first | (with_reducible assumption) | (with_reducible exact Hid.out (by assumption)) | (with_reducible exact KB3.base (Lib.hid (Up.refl wd))) | (with_reducible exact KB3.start (Lib.hid (Up.refl wd))) | (with_reducible refine KB3.next ((Up.refl _).alloc _ _) ?_) | (with_reducible refine KB3.next (Up.refl _).drew ?_) | (with_reducible refine KB3.set ?_ (by first | omega | (simp; done) | (simp; omega)) (by first | omega | (simp; done) | (simp; omega)) (by first | omega | (simp; done) | (simp; omega)) (by first | omega | (simp; done) | (simp; omega)))))) (first
          | (go_at_call 44; (with_reducible refine (K5.out _).mono ?_); rintro e w1 ⟨rfl, hu1⟩; have HS1 := Lib.hid (KB3.next hu1 (by assumption)); have hc1 := hu1.cells.1; have hz1 := hu1.cells.2; have hs1 := hu1.size; (try simp at hs1); (try (have hg0_1 : wd.heap.size < w1.heap.size := by omega))))
        all_goals
          go_wp2_with fail
          go_meet
          refine ⟨_, rfl, rfl, ?_, ?_, ?_, Lib.hid (KB3.to (by assumption))⟩
          · first | omega | (simp; done) | (simp; omega)
          all_goals (first | (simp [go_sem, *]; done) | (simp [go_sem]; done))
      obtain ⟨q2, rfl, rfl, hq2, q20, q21, HQ2⟩ := hcut
      have hqc2 : q2 < wc.heap.size := World.block_lt_of_cell? _ _ q20
      obtain ⟨Ud, Ed⟩ := hold3 wo w.heap.size (w.heap.size + 1) wo.heap.size HQ2.out
      have zd := fun o => (Ur.out.trans Ud.out).ownGe (Nat.le_succ w.heap.size) o
      have r0 : wc.cell? ⟨w.heap.size + 1, 0, none⟩ = some (.int .i64 0) := by simp [go_sem, Ed, Ec, Es, E2, Ei, Er, E1]
      have r1 : wc.cell? ⟨w.heap.size + 1, 1, none⟩ = some (.int .i64 0) := by simp [go_sem, Ed, Ec, Es, E2, Ei, Er, E1]
      have r2 : wc.cell? ⟨w.heap.size + 1, 2, none⟩ = some (.int .i64 0) := by simp [go_sem, Ed, Ec, Es, E2, Ei, Er, E1]
      have r3 : wc.cell? ⟨w.heap.size + 1, 3, none⟩ = some (.slice none 0 0) := by simp [go_sem, Ed, Ec, Es, E2, Ei, Er, E1]
      have t0 : wc.cell? ⟨wo.heap.size, 0, none⟩ = some (.int .u64 (hiZ s)) := by simp [go_sem, Ed, Ec, Es, E2, s0]
      have t1 : wc.cell? ⟨wo.heap.size, 1, none⟩ = some (.int .u64 (loZ s)) := by simp [go_sem, Ed, Ec, Es, E2, s1]
      have l1 : w.heap.size + 1 < wc.heap.size := World.block_lt_of_cell? _ _ r0
      have l2 : wo.heap.size < wc.heap.size := World.block_lt_of_cell? _ _ t0
      have l3 : w.heap.size + 1 < wo.heap.size := by omega
      clear HQ2 hq2 zr zi x0 x1 Eb E1 Er Ei E2 Es Ec Ed s0 s1 K1 K2 K3 K4 K5 q0 q1
      cases fT
      case false =>
        obtain rfl := B1.out rfl
        go_wp2_with fail
        refine bodyPost_ret (v := .tuple #[.agg #[.int .i64 0, .int .i64 0, .int .i64 0, .slice none 0 0], .int .i64 6]) (by simp [results, Try.results23, go_sem, r0, r1, r2, r3]) rfl (Rs.no rfl ?_)
        exact (Ur.out.trans Ud.out).set4 (by omega)
      cases fS
      case false =>
        obtain rfl := B2.out rfl rfl
        go_wp2_with (go_at_call 52; (with_reducible refine (K6.out _).mono ?_); rintro e w4 ⟨rfl, hu⟩; obtain ⟨U4, E4⟩ := hold2 wo (w.heap.size + 1) wo.heap.size hu; have zf := fun o => (Ur.out.trans U4.out).ownGe (Nat.le_succ w.heap.size) o; have ze := fun o => U4.out.ownGe (Nat.le_refl wo.heap.size) o; clear hu)
        refine bodyPost_ret (v := .tuple #[.agg #[.int .i64 0, .int .i64 0, .int .i64 0, .slice none 0 0], .int .i64 6]) (by simp [results, Try.results23, go_sem, E4, r0, r1, r2, r3]) rfl (Rs.no rfl ?_)
        have HV := Lib.hid (Ur.out.trans U4.out)
        ((repeat (first | (with_reducible exact Up.refl _) | (with_reducible exact HV.out) | (with_reducible refine Up.alloc ?_ _ _) | (with_reducible refine Up.setCell ?_ ?_ _) | (with_reducible refine Up.drewN ?_ _) | (with_reducible refine Up.drew ?_))); all_goals (first | (simp; done) | (simp; omega) | omega))
      obtain ⟨iS, eS⟩ := B3.out rfl rfl
      have IS := Lib.hid iS
      have ES := Lib.hid eS
      clear iS eS B1 B2 B3
      go_wp2_with (go_at_call 52; (with_reducible refine (K6.out _).mono ?_); rintro e w4 ⟨rfl, hu⟩; obtain ⟨U4, E4⟩ := hold2 wo (w.heap.size + 1) wo.heap.size hu; have zf := fun o => (Ur.out.trans U4.out).ownGe (Nat.le_succ w.heap.size) o; have ze := fun o => U4.out.ownGe (Nat.le_refl wo.heap.size) o; clear hu)
      go_roundw
      case rel => exact ⟨i + 1, S2, by go_num, by omega, IS, Lib.hid (ES.out.trans HRr.out), by simp [go_sem, E4, t0], by simp [go_sem, E4, t1], Lib.hid ((U4.out.setCell (Nat.le_refl _) _).setCell (Nat.le_refl _) _)⟩
      case measure => simp [intOf]; omega
end Go.Proofs.Ytinjainclhfahaa
