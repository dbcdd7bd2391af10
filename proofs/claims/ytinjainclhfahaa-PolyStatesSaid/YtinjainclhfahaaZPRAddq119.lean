/- Add of the reference of layer 15. -/
import Derived.Test.YtinjainclhfahaaRows
import Derived.Test.YtinjainclhfahaaZFBaseq51
import Derived.Test.YtinjainclhfahaaZGCallq94
import Derived.Test.YtinjainclhfahaaZPAddq111
import Derived.Test.YtinjainclhfahaaZPRValq114
import Derived.Test.YtinjainclhfahaaZPRowq106
namespace Go.Proofs.Ytinjainclhfahaa
open Go.RowKit
set_option linter.unusedVariables false

set_option maxHeartbeats 4000000 in
set_option maxRecDepth 100000 in
theorem radd15_up (p l c v : Int) (n k : Nat) (A : Option Addr) (X : List Int) (hn : n ≤ 50000) (hk : n ≤ k) (hI : ∀ x ∈ X, In2 x) (w : World) (hS : SG cW w A n X) :
    Calls Try.prog 17 #[.agg #[.int .i64 p, .int .i64 l, .int .i64 c, .slice A n k], .int .i64 v] w fun e w' => Rs (addQ p l c X v) w e w' := by
  have HS := Lib.hid hS
  have KV := Lib.hid (fun W (hu : Up w W) => rvalidate15_up p l c n k A X hn hI W (hS.up hu))
  unfold stQE at KV
  have KL := Lib.hid (rvalue_any v)
  unfold addQ
  by_cases hv : stP p l c X = true
  case neg =>
    rw [if_neg hv] at KV ⊢
    clear hv hS hI
    go_enter Try.func17, Try.ntmps17
    go_wp2_with (go_at_call 21; (with_reducible refine (KV.out _ (((Up.refl w).alloc _ _).alloc _ _)).mono ?_); rintro e w1 ⟨rfl, hu⟩; obtain ⟨U1, E1⟩ := call2 w hu; clear hu)
    refine bodyPost_ret (v := .tuple #[.agg #[.int .i64 0, .int .i64 0, .int .i64 0, .slice none 0 0], .int .i64 2]) (by simp [results, Try.results17, go_sem, E1]) rfl (Rs.no rfl ?_)
    ((repeat (first | (with_reducible exact Up.refl _) | (with_reducible exact U1.out) | (with_reducible refine Up.alloc ?_ _ _) | (with_reducible refine Up.setCell ?_ ?_ _) | (with_reducible refine Up.drewN ?_ _) | (with_reducible refine Up.drew ?_))); all_goals (first | (simp; done) | (simp; omega) | omega))
  rw [if_pos hv] at KV ⊢
  obtain ⟨h1, h2, h3⟩ := stP_is hS.1 hv
  by_cases h : v < 0 ∨ 4096 < v
  case pos =>
    rw [if_pos h]
    by_cases g : v < 0
    case pos =>
      have f1 : decide (v < 0) = true := decide_eq_true g
      clear hv hS hI h h1 h2 h3
      go_enter Try.func17, Try.ntmps17
      go_wp2_with (go_at_call 21; (with_reducible refine (KV.out _ (((Up.refl w).alloc _ _).alloc _ _)).mono ?_); rintro e w1 ⟨rfl, hu⟩; obtain ⟨U1, E1⟩ := call2 w hu; clear hu)
      refine bodyPost_ret (v := .tuple #[.agg #[.int .i64 0, .int .i64 0, .int .i64 0, .slice none 0 0], .int .i64 4]) (by simp [results, Try.results17, go_sem, E1]) rfl (Rs.no rfl ?_)
      ((repeat (first | (with_reducible exact Up.refl _) | (with_reducible exact U1.out) | (with_reducible refine Up.alloc ?_ _ _) | (with_reducible refine Up.setCell ?_ ?_ _) | (with_reducible refine Up.drewN ?_ _) | (with_reducible refine Up.drew ?_))); all_goals (first | (simp; done) | (simp; omega) | omega))
    have f1 : decide (v < 0) = false := decide_eq_false g
    rw [show valueB v = false from decide_eq_false (by omega)] at KL
    clear hv hS hI h h1 h2 h3
    go_enter Try.func17, Try.ntmps17
    go_wp2_with (first
      | (go_at_call 21; (with_reducible refine (KV.out _ (((Up.refl w).alloc _ _).alloc _ _)).mono ?_); rintro e w1 ⟨rfl, hu⟩; obtain ⟨U1, E1⟩ := call2 w hu; clear hu)
      | (go_at_call 42; (with_reducible refine (KL.out _).mono ?_); rintro e w' ⟨rfl, rfl⟩))
    refine bodyPost_ret (v := .tuple #[.agg #[.int .i64 0, .int .i64 0, .int .i64 0, .slice none 0 0], .int .i64 4]) (by simp [results, Try.results17, go_sem, E1]) rfl (Rs.no rfl ?_)
    ((repeat (first | (with_reducible exact Up.refl _) | (with_reducible exact U1.out) | (with_reducible refine Up.alloc ?_ _ _) | (with_reducible refine Up.setCell ?_ ?_ _) | (with_reducible refine Up.drewN ?_ _) | (with_reducible refine Up.drew ?_))); all_goals (first | (simp; done) | (simp; omega) | omega))
  rw [if_neg h, adP_is hS.1]
  obtain ⟨m, rfl⟩ : ∃ m : Nat, p = m := ⟨p.toNat, by omega⟩
  obtain rfl : n = m + 1 := by omega
  have f1 : decide (v < 0) = false := decide_eq_false (by omega)
  rw [show valueB v = true from decide_eq_true (by omega)] at KL
  have k0 : IntKind.u64.wrap v = v := by rw [IntKind.wrap_u64]; omega
  have k1 : IntKind.i64.wrap (c - l) = c - l := IntWalk.i64_in _ (by omega)
  obtain ⟨g, hg⟩ : ∃ z, z = c - l + 1 := ⟨_, rfl⟩
  rw [← hg]
  have k2 : IntKind.i64.wrap (c - l + 1) = g := by rw [hg]; exact IntWalk.i64_in _ (by omega)
  have k3 : IntKind.u64.wrap g = g := by rw [IntKind.wrap_u64]; omega
  have KW := Lib.hid (fun i (hi : i < m + 1) W => rwpow_v g i (by omega) (by omega) (by omega) W)
  have KO := Lib.hid (fun W => rwof_v v ⟨by omega, by omega⟩ W)
  have KM : Hid (∀ i, i < m + 1 → ∀ W, Calls Try.prog 44 #[.agg #[.int .u64 (hiZ v), .int .u64 (loZ v)], .agg #[.int .u64 (hiZ (g ^ i)), .int .u64 (loZ (g ^ i))]] W fun e w' => e = .returned (.tuple #[.agg #[.int .u64 (hiZ (v * g ^ i)), .int .u64 (loZ (v * g ^ i))], .bool true]) ∧ Up W w') := Lib.hid (fun i hi W => by
    have iq := (term_in (a := g) (v := v) (j := i) (by omega) (by omega) (by omega) (by omega) (by omega)).1
    have h := rwmul_v v (g ^ i) ⟨by omega, by omega⟩ (age_in (by omega) (by omega) (by omega)) W
    rw [fits2_yes iq, fit2_yes iq] at h
    exact h)
  have KP := Lib.hid (fun B j W (hu : Up w W) hB => rplus15_up (m + 1) k j A B X (byL (m + 1) (fun j => v * g ^ j)) (by omega) hI (fun x hx => by obtain ⟨j, hj, rfl⟩ := byL_mem hx; exact (term_in (by omega) (by omega) (by omega) (by omega) (by omega)).1) W (hS.up hu) hB)
  unfold PlR at KP
  generalize plP X (byL (m + 1) (fun j => v * g ^ j)) = Z at *
  have hn5 : m + 1 ≤ 5 := by omega
  clear hv hS hI h h1 h2 h3 hg
  generalize m + 1 = n at *
  generalize (m : Int) = p at *
  have Q0 : Hid (fitL Z = false → (if fitL Z = true then (p, l, c, Z, 0) else noQ 6 : Q5) = noQ 6) := Lib.hid (fun h => by rw [h]; rfl)
  have Q1 : Hid (fitL Z = true → (if fitL Z = true then (p, l, c, Z, 0) else noQ 6 : Q5) = (p, l, c, Z, 0)) := Lib.hid (fun h => by rw [h]; rfl)
  generalize (if fitL Z = true then (p, l, c, Z, 0) else noQ 6 : Q5) = QQ at *
  generalize fitL Z = r at *
  go_enter Try.func17, Try.ntmps17
  go_wp2_with (first
    | (go_at_call 21; (with_reducible refine (KV.out _ (((Up.refl w).alloc _ _).alloc _ _)).mono ?_); rintro e w1 ⟨rfl, hu⟩; obtain ⟨U1, E1⟩ := call2 w hu; clear hu)
    | (go_at_call 42; (with_reducible refine (KL.out _).mono ?_); rintro e w' ⟨rfl, rfl⟩))
  go_loopw [7, 32] (fun s t wr => ∃ (i : Nat) (A1 : Option Addr) (k1 : Nat), s = .slice A1 i k1 ∧ t = .int .i64 i ∧ i ≤ n ∧ Hid (OwW w1 wr (.slice A1 i k1) i (byL i (fun j => v * g ^ j))) ∧ Hid (Up w1 wr)) (fun _ t _ => n - (intOf t).toNat)
  case atStart => exact ⟨0, none, 0, rfl, rfl, Nat.zero_le _, Lib.hid (OG.nil _ _ _), Lib.hid (Up.refl _)⟩
  case round =>
    obtain ⟨i, A1, k1, rfl, rfl, hin, HO, HW⟩ := hrel
    obtain ⟨Ur, Er⟩ := call2 w HW.out
    by_cases hi : i < n
    case neg =>
      obtain rfl : i = n := by omega
      have f2 : decide ((i : Int) < i) = false := decide_eq_false (by omega)
      clear KW KO KM KL KV
      have HSo : SG cW wr A1 i (byL i (fun j => v * g ^ j)) := HO.out.sg.2
      have hlr : w.heap.size + 1 < wr.heap.size := by omega
      cases r
      case false =>
        obtain rfl := Q0.out rfl
        go_wp2_with (go_at_call 46; (with_reducible refine (KP.out _ _ _ Ur.out HSo).mono ?_); rintro e w5 ⟨A2, n2, k2, rfl, hR2, hu⟩; obtain ⟨U5, E5⟩ := call2 w hu; clear hu hR2)
        refine bodyPost_ret (v := .tuple #[.agg #[.int .i64 0, .int .i64 0, .int .i64 0, .slice none 0 0], .int .i64 6]) (by simp [results, Try.results17, go_sem, E1, Er, E5]) rfl (Rs.no rfl ?_)
        ((repeat (first | (with_reducible exact Up.refl _) | (with_reducible exact U5.out) | (with_reducible refine Up.alloc ?_ _ _) | (with_reducible refine Up.setCell ?_ ?_ _) | (with_reducible refine Up.drewN ?_ _) | (with_reducible refine Up.drew ?_))); all_goals (first | (simp; done) | (simp; omega) | omega))
      obtain rfl := Q1.out rfl
      go_wp2_with (go_at_call 46; (with_reducible refine (KP.out _ _ _ Ur.out HSo).mono ?_); rintro e w5 ⟨A2, n2, k2, rfl, hR2, hu⟩; obtain ⟨U5, E5⟩ := call2 w hu; clear hu; have HR2 := Lib.hid hR2; clear hR2)
      obtain ⟨rfl, hN2, hR3⟩ := HR2.out (by trivial)
      have HR := Lib.hid hR3
      have HN : Hid (∀ b o, A2 = some ⟨b, o, none⟩ → w.heap.size + 1 < b) := Lib.hid (fun b o e => by have := hN2.2 b o e; omega)
      have HK := Lib.hid hN2.1
      clear hN2 hR3
      refine bodyPost_ret (v := .tuple #[.agg #[.int .i64 p, .int .i64 l, .int .i64 c, .slice A2 n2 k2], .int .i64 0]) (by simp [results, Try.results17, go_sem, E1, Er, E5]) rfl (Rs.yes rfl ?_ ?_ ?_)
      · exact ⟨HK.out, fun b o e => by have := HN.out b o e; omega⟩
      · (repeat (first | (with_reducible exact HR.out) | (with_reducible refine SG.off ?_ (fun b o e => by have := HN.out b o e; omega) _)))
      · ((repeat (first | (with_reducible exact Up.refl _) | (with_reducible exact U5.out) | (with_reducible refine Up.alloc ?_ _ _) | (with_reducible refine Up.setCell ?_ ?_ _) | (with_reducible refine Up.drewN ?_ _) | (with_reducible refine Up.drew ?_))); all_goals (first | (simp; done) | (simp; omega) | omega))
    have K1 := Lib.hid (KW.out i hi)
    have K2 := Lib.hid (KM.out i hi)
    obtain ⟨V, hV⟩ : ∃ z, z = v * g ^ i := ⟨_, rfl⟩
    obtain ⟨P, hP⟩ : ∃ z, z = g ^ i := ⟨_, rfl⟩
    rw [← hV] at K2
    rw [← hP] at K1 K2
    have HV := Lib.hid hV
    have g2 : (i : Int) < n := by omega
    have g3 : (0 : Int) ≤ i := by omega
    clear hV hP KW KM KV KL KP
    go_upto_region 11 with (go_at_call 43; (with_reducible refine (K1.out _).mono ?_); rintro e w2 ⟨rfl, hu⟩; have HU2 : Hid (Up wr w2) := Lib.hid hu; clear hu K1)
    refine (show ∀ ws : World, ws = _ → Code.wp _ _ _ _ ws from fun ws hws => ?_) _ rfl
    obtain ⟨Us, Es⟩ := hold1 wr w2.heap.size (Up.of_eq hws)
    clear hws
    go_cut [11, 12] (fun s t wx => ∃ g : Nat, s = .pointer (some ⟨g, 0, none⟩) ∧ t = .bool true ∧ ws.heap.size ≤ g ∧ wx.cell? ⟨g, 0, none⟩ = some (.int .u64 (hiZ V)) ∧ wx.cell? ⟨g, 1, none⟩ = some (.int .u64 (loZ V)) ∧ Hid (Up ws wx))
    case first =>
      go_region_held3 (KB1 w2.heap.size ws ws) (first | (with_reducible exact KB1.start (Lib.hid (Up.refl ws))) | (with_reducible exact KB1.next (by assumption) (by assumption)) | (repeat (first | (with_reducible assumption) | (with_reducible exact Hid.out (by assumption)) | (with_reducible exact KB1.base (Lib.hid (Up.refl ws))) | (with_reducible exact KB1.start (Lib.hid (Up.refl ws))) | (with_reducible refine KB1.next ((Up.refl _).alloc _ _) ?_) | (with_reducible refine KB1.next (Up.refl _).drew ?_) | (with_reducible refine KB1.set ?_ (by first | omega | (simp; done) | (simp; omega)) (by first | omega | (simp; done) | (simp; omega)))))) (first
        | (go_at_call 45; (with_reducible refine (KO.out _).mono ?_); rintro e w1 ⟨rfl, hu1⟩; have HS1 := Lib.hid (KB1.next hu1 (by assumption)); have hc1 := hu1.cells.1; have hz1 := hu1.cells.2; have hs1 := hu1.size; (try simp at hs1); (try (have hg0_1 : ws.heap.size < w1.heap.size := by omega)))
        | (go_at_call 44; (with_reducible refine (K2.out _).mono ?_); rintro e w2 ⟨rfl, hu2⟩; have HS2 := Lib.hid (KB1.next hu2 (by assumption)); have hc2 := hu2.cells.1; have hz2 := hu2.cells.2; have hs2 := hu2.size; (try simp at hs2); (try (have hg0_2 : ws.heap.size < w2.heap.size := by omega)); (try (have hg1_2 : w1.heap.size < w2.heap.size := by omega))))
      all_goals
        go_wp2_with fail
        go_meet
        refine ⟨_, rfl, rfl, ?_, ?_, ?_, Lib.hid (KB1.to (by assumption))⟩
        · first | omega | (simp; done) | (simp; omega)
        all_goals (first | (simp [go_sem, *]; done) | (simp [go_sem]; done))
    obtain ⟨q, rfl, rfl, hq, q0, q1, HQ⟩ := hcut
    have hqc : q < wc.heap.size := World.block_lt_of_cell? _ _ q0
    have HC := Lib.hid (Us.out.trans HQ.out)
    clear HQ Us Es
    obtain ⟨A2, k2, w3, hr, hO2, hU2⟩ := append1W w1 wc A1 i k1 _ V (HO.out.of_up HC.out) (HW.out.trans HC.out) (by omega)
    have HO2 := Lib.hid hO2
    have HU3 := Lib.hid hU2
    clear hO2 hU2
    go_wp2_with (refine wpList_append_run (o := ⟨some 58, _, _, _, _, _⟩) rfl (.tmp 55) (.tmp 57) _ rfl _ _ rfl rfl _ _ hr ?_)
    go_roundw
    case rel => exact ⟨i + 1, A2, k2, rfl, by go_num, by omega, Lib.hid (by rw [byL_push, ← HV.out]; exact HO2.out), HU3⟩
    case measure => simp [intOf]; omega
end Go.Proofs.Ytinjainclhfahaa
