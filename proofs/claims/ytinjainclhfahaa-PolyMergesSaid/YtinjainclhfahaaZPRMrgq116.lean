/- Merge of the reference of layer 15. -/
import Derived.Test.YtinjainclhfahaaRows
import Derived.Test.YtinjainclhfahaaZPMrgq113
import Derived.Test.YtinjainclhfahaaZPRRebq115
import Derived.Test.YtinjainclhfahaaZPRowq106
namespace Go.Proofs.Ytinjainclhfahaa
open Go.RowKit
set_option linter.unusedVariables false

theorem rebQ_yes {p l c t : Int} {X : List Int} (hv : stP p l c X = true) (h0 : 0 ≤ t) (h1 : t ≤ l) (hf : fitL (reP (l - t) X) = true) : rebQ p l c X t = (p, t, c, reP (l - t) X, 0) := by
  unfold rebQ; rw [if_pos hv, if_neg (by omega), if_pos hf]
theorem rebQ_no {p l c t : Int} {X : List Int} (hv : stP p l c X = true) (h0 : 0 ≤ t) (h1 : t ≤ l) (hf : fitL (reP (l - t) X) = false) : rebQ p l c X t = noQ 6 := by
  unfold rebQ; rw [if_pos hv, if_neg (by omega), if_neg (by rw [hf]; decide)]
set_option maxHeartbeats 4000000 in
set_option maxRecDepth 100000 in
theorem rmerge15_up (p l c : Int) (n k : Nat) (A : Option Addr) (X : List Int) (p' l' c' : Int) (m j : Nat) (B : Option Addr) (Y : List Int) (hn : n ≤ 50000) (hm : m ≤ 50000) (hk : n ≤ k) (hj : m ≤ j) (hI : ∀ x ∈ X, In2 x) (hJ : ∀ x ∈ Y, In2 x) (w : World) (hS : SG cW w A n X) (hT : SG cW w B m Y) :
    Calls Try.prog 25 #[.agg #[.int .i64 p, .int .i64 l, .int .i64 c, .slice A n k], .agg #[.int .i64 p', .int .i64 l', .int .i64 c', .slice B m j]] w fun e w' => Rs (mrgQ p l c X p' l' c' Y) w e w' := by
  have HS := Lib.hid hS
  have HT := Lib.hid hT
  have KV1 := Lib.hid (fun W (hu : Up w W) => rvalidate15_up p l c n k A X hn hI W (hS.up hu))
  have KV2 := Lib.hid (fun W (hu : Up w W) => rvalidate15_up p' l' c' m j B Y hm hJ W (hT.up hu))
  unfold stQE at KV1 KV2
  unfold mrgQ
  by_cases hv : stP p l c X = true
  case neg =>
    rw [if_neg hv] at KV1 ⊢
    clear hv hS hI hT hJ KV2
    go_enter Try.func25, Try.ntmps25
    go_wp2_with (go_at_call 21; (with_reducible refine (KV1.out _ ((((Up.refl w).alloc _ _).alloc _ _).alloc _ _)).mono ?_); rintro e w1 ⟨rfl, hu1⟩; obtain ⟨U1, E1⟩ := call3 w hu1; clear hu1)
    refine bodyPost_ret (v := .tuple #[.agg #[.int .i64 0, .int .i64 0, .int .i64 0, .slice none 0 0], .int .i64 2]) (by simp [results, Try.results25, go_sem, E1]) rfl (Rs.no rfl ?_)
    ((repeat (first | (with_reducible exact Up.refl _) | (with_reducible exact U1.out) | (with_reducible refine Up.alloc ?_ _ _) | (with_reducible refine Up.setCell ?_ ?_ _) | (with_reducible refine Up.drewN ?_ _) | (with_reducible refine Up.drew ?_))); all_goals (first | (simp; done) | (simp; omega) | omega))
  rw [if_pos hv] at KV1 ⊢
  by_cases hv2 : stP p' l' c' Y = true
  case neg =>
    rw [if_neg hv2] at KV2 ⊢
    clear hv hv2 hS hI hT hJ
    go_enter Try.func25, Try.ntmps25
    go_wp2_with (first
      | (go_at_call 21; (with_reducible refine (KV1.out _ ((((Up.refl w).alloc _ _).alloc _ _).alloc _ _)).mono ?_); rintro e w1 ⟨rfl, hu1⟩; obtain ⟨U1, E1⟩ := call3 w hu1; clear hu1)
      | (go_at_call 21; (with_reducible refine (KV2.out _ U1.out).mono ?_); rintro e w2 ⟨rfl, hu2⟩; obtain ⟨U2, E2⟩ := call3 w hu2; clear hu2))
    refine bodyPost_ret (v := .tuple #[.agg #[.int .i64 0, .int .i64 0, .int .i64 0, .slice none 0 0], .int .i64 2]) (by simp [results, Try.results25, go_sem, E1, E2]) rfl (Rs.no rfl ?_)
    ((repeat (first | (with_reducible exact Up.refl _) | (with_reducible exact U2.out) | (with_reducible refine Up.alloc ?_ _ _) | (with_reducible refine Up.setCell ?_ ?_ _) | (with_reducible refine Up.drewN ?_ _) | (with_reducible refine Up.drew ?_))); all_goals (first | (simp; done) | (simp; omega) | omega))
  rw [if_pos hv2] at KV2 ⊢
  by_cases he : p = p' ∧ c = c'
  case neg =>
    rw [if_neg he]
    by_cases hp : p = p'
    case neg =>
      have t1 : (p != p') = true := by simp [hp]
      clear hv hv2 hS hI hT hJ he hp
      go_enter Try.func25, Try.ntmps25
      go_wp2_with (first
        | (go_at_call 21; (with_reducible refine (KV1.out _ ((((Up.refl w).alloc _ _).alloc _ _).alloc _ _)).mono ?_); rintro e w1 ⟨rfl, hu1⟩; obtain ⟨U1, E1⟩ := call3 w hu1; clear hu1)
        | (go_at_call 21; (with_reducible refine (KV2.out _ U1.out).mono ?_); rintro e w2 ⟨rfl, hu2⟩; obtain ⟨U2, E2⟩ := call3 w hu2; clear hu2))
      refine bodyPost_ret (v := .tuple #[.agg #[.int .i64 0, .int .i64 0, .int .i64 0, .slice none 0 0], .int .i64 1]) (by simp [results, Try.results25, go_sem, E1, E2]) rfl (Rs.no rfl ?_)
      ((repeat (first | (with_reducible exact Up.refl _) | (with_reducible exact U2.out) | (with_reducible refine Up.alloc ?_ _ _) | (with_reducible refine Up.setCell ?_ ?_ _) | (with_reducible refine Up.drewN ?_ _) | (with_reducible refine Up.drew ?_))); all_goals (first | (simp; done) | (simp; omega) | omega))
    have t1 : (p != p') = false := by simp [hp]
    have t2 : (c != c') = true := by simp; exact fun h => he ⟨hp, h⟩
    clear hv hv2 hS hI hT hJ he hp
    go_enter Try.func25, Try.ntmps25
    go_wp2_with (first
      | (go_at_call 21; (with_reducible refine (KV1.out _ ((((Up.refl w).alloc _ _).alloc _ _).alloc _ _)).mono ?_); rintro e w1 ⟨rfl, hu1⟩; obtain ⟨U1, E1⟩ := call3 w hu1; clear hu1)
      | (go_at_call 21; (with_reducible refine (KV2.out _ U1.out).mono ?_); rintro e w2 ⟨rfl, hu2⟩; obtain ⟨U2, E2⟩ := call3 w hu2; clear hu2))
    refine bodyPost_ret (v := .tuple #[.agg #[.int .i64 0, .int .i64 0, .int .i64 0, .slice none 0 0], .int .i64 1]) (by simp [results, Try.results25, go_sem, E1, E2]) rfl (Rs.no rfl ?_)
    ((repeat (first | (with_reducible exact Up.refl _) | (with_reducible exact U2.out) | (with_reducible refine Up.alloc ?_ _ _) | (with_reducible refine Up.setCell ?_ ?_ _) | (with_reducible refine Up.drewN ?_ _) | (with_reducible refine Up.drew ?_))); all_goals (first | (simp; done) | (simp; omega) | omega))
  rw [if_pos he]
  obtain ⟨rfl, rfl⟩ := he
  obtain ⟨h1, h2, h3⟩ := stP_is hS.1 hv
  obtain ⟨_, h4, h5⟩ := stP_is hT.1 hv2
  obtain rfl : n = m := by omega
  have t1 : (p != p) = false := by simp
  have t2 : (c != c) = false := by simp
  obtain ⟨t, ht⟩ : ∃ z, z = min l l' := ⟨_, rfl⟩
  rw [← ht]
  have hmin : ∀ (ts : Array TypeId) (ty : TypeId) (W : World), (Builtin.min_ ts ty #[.int .i64 l, .int .i64 l']).run Try.prog W = .ok (.int .i64 t) W := fun ts ty W => by
    rw [run_min_int2, ht]
    congr 2
    by_cases g : l' < l
    · rw [if_pos g]; omega
    · rw [if_neg g]; omega
  have ht0 : 0 ≤ t := by omega
  have ht1 : t ≤ l := by omega
  have ht2 : t ≤ l' := by omega
  have hlen : (reP (l' - t) Y).length = (reP (l - t) X).length := by unfold reP; rw [byL_len, byL_len, hS.1, hT.1]
  have hl5 : (reP (l - t) X).length ≤ 5000 := by unfold reP; rw [byL_len, hS.1]; omega
  have K1 := Lib.hid (fun W (hu : Up w W) => rrebase15_up p l c t n k A X hn hk hI W (hS.up hu))
  have K2 := Lib.hid (fun W (hu : Up w W) => rrebase15_up p l' c t n j B Y hm hj hJ W (hT.up hu))
  have KP := Lib.hid (fun C D x y W hC hD (i1 : fitL (reP (l - t) X) = true) (i2 : fitL (reP (l' - t) Y) = true) => rplus15_up (reP (l - t) X).length x y C D (reP (l - t) X) (reP (l' - t) Y) hl5 (fitL_iff.1 i1) (fitL_iff.1 i2) W hC hD)
  have Q1n := Lib.hid (fun h => rebQ_no hv ht0 ht1 h)
  have Q1y := Lib.hid (fun h => rebQ_yes hv ht0 ht1 h)
  have Q2n := Lib.hid (fun h => rebQ_no hv2 ht0 ht2 h)
  have Q2y := Lib.hid (fun h => rebQ_yes hv2 ht0 ht2 h)
  unfold PlR at KP
  generalize plP (reP (l - t) X) (reP (l' - t) Y) = Z at *
  generalize reP (l - t) X = X1 at *
  generalize reP (l' - t) Y = Y1 at *
  clear hv hv2 hS hI hT hJ h1 h2 h3 h4 h5 ht ht0 ht1 ht2 hl5
  have HL := Lib.hid hlen
  clear hlen
  cases hr1 : fitL X1
  case false =>
    rw [show (false && fitL Y1 && fitL Z) = false from rfl, if_neg (by decide)]
    have L1 := Lib.hid (fun W hu => (K1.out W hu).mono (fun e w' (h : Rs _ W e w') => by rw [Q1n.out hr1] at h; exact h.of_no))
    cases hr2 : fitL Y1
    case false =>
      have L2 := Lib.hid (fun W hu => (K2.out W hu).mono (fun e w' (h : Rs _ W e w') => by rw [Q2n.out hr2] at h; exact h.of_no))
      clear hr1 hr2 KP K1 K2 Q1n Q1y Q2n Q2y
      go_enter Try.func25, Try.ntmps25
      go_wp2_with (first
      | (go_at_call 21; (with_reducible refine (KV1.out _ ((((Up.refl w).alloc _ _).alloc _ _).alloc _ _)).mono ?_); rintro e w1 ⟨rfl, hu1⟩; obtain ⟨U1, E1⟩ := call3 w hu1; clear hu1)
      | (go_at_call 21; (with_reducible refine (KV2.out _ U1.out).mono ?_); rintro e w2 ⟨rfl, hu2⟩; obtain ⟨U2, E2⟩ := call3 w hu2; clear hu2)
      | (go_at_call 23; (with_reducible refine (L1.out _ U2.out).mono ?_); rintro e w3 ⟨A1, k1, rfl, hu⟩; obtain ⟨U3, E3⟩ := call3 w hu; clear hu)
      | (go_at_call 23; (with_reducible refine (L2.out _ (U3.out.alloc _ _)).mono ?_); rintro e w4 ⟨A2, k2, rfl, hu⟩; obtain ⟨U4, E4⟩ := hold4 w w.heap.size (w.heap.size + 1) (w.heap.size + 2) w3.heap.size hu; have z4 := fun o => U4.out.ownGe (show w.heap.size ≤ w.heap.size + 2 by omega) o; have y4 := fun o => U4.out.ownGe (show w.heap.size ≤ w3.heap.size by omega) o; clear hu))
      refine bodyPost_ret (v := .tuple #[.agg #[.int .i64 0, .int .i64 0, .int .i64 0, .slice none 0 0], .int .i64 6]) (by simp [results, Try.results25, go_sem, E1, E2, E3, E4]) rfl (Rs.no rfl ?_)
      ((repeat (first | (with_reducible exact Up.refl _) | (with_reducible exact U4.out) | (with_reducible refine Up.alloc ?_ _ _) | (with_reducible refine Up.setCell ?_ ?_ _) | (with_reducible refine Up.drewN ?_ _) | (with_reducible refine Up.drew ?_))); all_goals (first | (simp; done) | (simp; omega) | omega))
    have L2 := Lib.hid (fun W hu => (K2.out W hu).mono (fun e w' (h : Rs _ W e w') => by rw [Q2y.out hr2] at h; exact h.of))
    clear hr1 hr2 KP K1 K2 Q1n Q1y Q2n Q2y
    go_enter Try.func25, Try.ntmps25
    go_wp2_with (first
      | (go_at_call 21; (with_reducible refine (KV1.out _ ((((Up.refl w).alloc _ _).alloc _ _).alloc _ _)).mono ?_); rintro e w1 ⟨rfl, hu1⟩; obtain ⟨U1, E1⟩ := call3 w hu1; clear hu1)
      | (go_at_call 21; (with_reducible refine (KV2.out _ U1.out).mono ?_); rintro e w2 ⟨rfl, hu2⟩; obtain ⟨U2, E2⟩ := call3 w hu2; clear hu2)
      | (go_at_call 23; (with_reducible refine (L1.out _ U2.out).mono ?_); rintro e w3 ⟨A1, k1, rfl, hu⟩; obtain ⟨U3, E3⟩ := call3 w hu; clear hu)
      | (go_at_call 23; (with_reducible refine (L2.out _ (U3.out.alloc _ _)).mono ?_); rintro e w4 ⟨A2, k2, rfl, hN2, hR2, hu⟩; obtain ⟨U4, E4⟩ := hold4 w w.heap.size (w.heap.size + 1) (w.heap.size + 2) w3.heap.size hu; clear hN2 hR2; have z4 := fun o => U4.out.ownGe (show w.heap.size ≤ w.heap.size + 2 by omega) o; have y4 := fun o => U4.out.ownGe (show w.heap.size ≤ w3.heap.size by omega) o; clear hu))
    refine bodyPost_ret (v := .tuple #[.agg #[.int .i64 0, .int .i64 0, .int .i64 0, .slice none 0 0], .int .i64 6]) (by simp [results, Try.results25, go_sem, E1, E2, E3, E4]) rfl (Rs.no rfl ?_)
    ((repeat (first | (with_reducible exact Up.refl _) | (with_reducible exact U4.out) | (with_reducible refine Up.alloc ?_ _ _) | (with_reducible refine Up.setCell ?_ ?_ _) | (with_reducible refine Up.drewN ?_ _) | (with_reducible refine Up.drew ?_))); all_goals (first | (simp; done) | (simp; omega) | omega))
  have L1 := Lib.hid (fun W hu => (K1.out W hu).mono (fun e w' (h : Rs _ W e w') => by rw [Q1y.out hr1] at h; exact h.of))
  cases hr2 : fitL Y1
  case false =>
    rw [show (true && false && fitL Z) = false from rfl, if_neg (by decide)]
    have L2 := Lib.hid (fun W hu => (K2.out W hu).mono (fun e w' (h : Rs _ W e w') => by rw [Q2n.out hr2] at h; exact h.of_no))
    clear hr1 hr2 KP K1 K2 Q1n Q1y Q2n Q2y
    go_enter Try.func25, Try.ntmps25
    go_wp2_with (first
      | (go_at_call 21; (with_reducible refine (KV1.out _ ((((Up.refl w).alloc _ _).alloc _ _).alloc _ _)).mono ?_); rintro e w1 ⟨rfl, hu1⟩; obtain ⟨U1, E1⟩ := call3 w hu1; clear hu1)
      | (go_at_call 21; (with_reducible refine (KV2.out _ U1.out).mono ?_); rintro e w2 ⟨rfl, hu2⟩; obtain ⟨U2, E2⟩ := call3 w hu2; clear hu2)
      | (go_at_call 23; (with_reducible refine (L1.out _ U2.out).mono ?_); rintro e w3 ⟨A1, k1, rfl, hN1, hR1, hu⟩; obtain ⟨U3, E3⟩ := call3 w hu; have HB0 := Lib.hid hR1; clear hR1 hN1; clear hu)
      | (go_at_call 23; (with_reducible refine (L2.out _ (U3.out.alloc _ _)).mono ?_); rintro e w4 ⟨A2, k2, rfl, hu⟩; obtain ⟨U4, E4⟩ := hold4 w w.heap.size (w.heap.size + 1) (w.heap.size + 2) w3.heap.size hu; have z4 := fun o => U4.out.ownGe (show w.heap.size ≤ w.heap.size + 2 by omega) o; have y4 := fun o => U4.out.ownGe (show w.heap.size ≤ w3.heap.size by omega) o; clear hu))
    refine bodyPost_ret (v := .tuple #[.agg #[.int .i64 0, .int .i64 0, .int .i64 0, .slice none 0 0], .int .i64 6]) (by simp [results, Try.results25, go_sem, E1, E2, E3, E4]) rfl (Rs.no rfl ?_)
    ((repeat (first | (with_reducible exact Up.refl _) | (with_reducible exact U4.out) | (with_reducible refine Up.alloc ?_ _ _) | (with_reducible refine Up.setCell ?_ ?_ _) | (with_reducible refine Up.drewN ?_ _) | (with_reducible refine Up.drew ?_))); all_goals (first | (simp; done) | (simp; omega) | omega))
  have L2 : Hid (∀ W, Up w W → Calls Try.prog 23 #[.agg #[.int .i64 p, .int .i64 l', .int .i64 c, .slice B n j], .int .i64 t] W fun e w' => ∃ (A : Option Addr) (k : Nat), e = .returned (.tuple #[.agg #[.int .i64 p, .int .i64 t, .int .i64 c, .slice A X1.length k], .int .i64 0]) ∧ NwK W A X1.length k ∧ SG cW w' A X1.length Y1 ∧ Up W w') := Lib.hid (fun W hu => (K2.out W hu).mono (fun e w' (h : Rs _ W e w') => by rw [Q2y.out hr2] at h; obtain ⟨A, k, a1, a2, a3, a4⟩ := h.of; rw [HL.out] at a1 a2 a3; exact ⟨A, k, a1, a2, a3, a4⟩))
  rw [show (true && true && fitL Z) = fitL Z from rfl]
  have HP := Lib.hid (fun C D x y W hC hD => KP.out C D x y W hC hD hr1 hr2)
  clear hr1 hr2 KP K1 K2 Q1n Q1y Q2n Q2y
  cases hr3 : fitL Z
  · rw [hr3] at HP
    rw [if_neg (by decide)]
    go_enter Try.func25, Try.ntmps25
    go_wp2_with (first
      | (go_at_call 21; (with_reducible refine (KV1.out _ ((((Up.refl w).alloc _ _).alloc _ _).alloc _ _)).mono ?_); rintro e w1 ⟨rfl, hu1⟩; obtain ⟨U1, E1⟩ := call3 w hu1; clear hu1)
      | (go_at_call 21; (with_reducible refine (KV2.out _ U1.out).mono ?_); rintro e w2 ⟨rfl, hu2⟩; obtain ⟨U2, E2⟩ := call3 w hu2; clear hu2)
      | (go_at_call 23; (with_reducible refine (L1.out _ U2.out).mono ?_); rintro e w3 ⟨A1, k1, rfl, hN1, hR1, hu⟩; obtain ⟨U3, E3⟩ := call3 w hu; have HB0 := Lib.hid hR1; clear hR1 hN1; clear hu)
      | (go_at_call 23; (with_reducible refine (L2.out _ (U3.out.alloc _ _)).mono ?_); rintro e w4 ⟨A2, k2, rfl, hN2, hR2, hu⟩; obtain ⟨U4, E4⟩ := hold4 w w.heap.size (w.heap.size + 1) (w.heap.size + 2) w3.heap.size hu; have HB1 := Lib.hid (HB0.out.up (((Up.refl w3).alloc _ _).trans hu)); have HB2 := Lib.hid hR2; clear hN2 hR2; have z4 := fun o => U4.out.ownGe (show w.heap.size ≤ w.heap.size + 2 by omega) o; have y4 := fun o => U4.out.ownGe (show w.heap.size ≤ w3.heap.size by omega) o; clear hu)
      | (go_at_call 46; (with_reducible refine (HP.out _ _ _ _ _ (HB1.out.up ((Up.refl _).alloc _ _)) (HB2.out.up ((Up.refl _).alloc _ _))).mono ?_); rintro e w5 ⟨A3, n3, k3, rfl, hR3, hu⟩; obtain ⟨U5, E5⟩ := hold2 w (w.heap.size + 2) w3.heap.size hu; have z5 := fun o => U5.out.ownGe (show w.heap.size ≤ w.heap.size + 2 by omega) o; have y5 := fun o => U5.out.ownGe (show w.heap.size ≤ w3.heap.size by omega) o; have HR3 := Lib.hid hR3; clear hu hR3))
    refine bodyPost_ret (v := .tuple #[.agg #[.int .i64 0, .int .i64 0, .int .i64 0, .slice none 0 0], .int .i64 6]) (by simp [results, Try.results25, go_sem, E1, E2, E3, E4, E5]) rfl (Rs.no rfl ?_)
    ((repeat (first | (with_reducible exact Up.refl _) | (with_reducible exact U5.out) | (with_reducible refine Up.alloc ?_ _ _) | (with_reducible refine Up.setCell ?_ ?_ _) | (with_reducible refine Up.drewN ?_ _) | (with_reducible refine Up.drew ?_))); all_goals (first | (simp; done) | (simp; omega) | omega))
  · rw [hr3] at HP
    rw [if_pos rfl]
    go_enter Try.func25, Try.ntmps25
    go_wp2_with (first
      | (go_at_call 21; (with_reducible refine (KV1.out _ ((((Up.refl w).alloc _ _).alloc _ _).alloc _ _)).mono ?_); rintro e w1 ⟨rfl, hu1⟩; obtain ⟨U1, E1⟩ := call3 w hu1; clear hu1)
      | (go_at_call 21; (with_reducible refine (KV2.out _ U1.out).mono ?_); rintro e w2 ⟨rfl, hu2⟩; obtain ⟨U2, E2⟩ := call3 w hu2; clear hu2)
      | (go_at_call 23; (with_reducible refine (L1.out _ U2.out).mono ?_); rintro e w3 ⟨A1, k1, rfl, hN1, hR1, hu⟩; obtain ⟨U3, E3⟩ := call3 w hu; have HB0 := Lib.hid hR1; clear hR1 hN1; clear hu)
      | (go_at_call 23; (with_reducible refine (L2.out _ (U3.out.alloc _ _)).mono ?_); rintro e w4 ⟨A2, k2, rfl, hN2, hR2, hu⟩; obtain ⟨U4, E4⟩ := hold4 w w.heap.size (w.heap.size + 1) (w.heap.size + 2) w3.heap.size hu; have HB1 := Lib.hid (HB0.out.up (((Up.refl w3).alloc _ _).trans hu)); have HB2 := Lib.hid hR2; clear hN2 hR2; have z4 := fun o => U4.out.ownGe (show w.heap.size ≤ w.heap.size + 2 by omega) o; have y4 := fun o => U4.out.ownGe (show w.heap.size ≤ w3.heap.size by omega) o; clear hu)
      | (go_at_call 46; (with_reducible refine (HP.out _ _ _ _ _ (HB1.out.up ((Up.refl _).alloc _ _)) (HB2.out.up ((Up.refl _).alloc _ _))).mono ?_); rintro e w5 ⟨A3, n3, k3, rfl, hR3, hu⟩; obtain ⟨U5, E5⟩ := hold2 w (w.heap.size + 2) w3.heap.size hu; have z5 := fun o => U5.out.ownGe (show w.heap.size ≤ w.heap.size + 2 by omega) o; have y5 := fun o => U5.out.ownGe (show w.heap.size ≤ w3.heap.size by omega) o; have HR3 := Lib.hid hR3; clear hu hR3))
    obtain ⟨rfl, hN3, hR4⟩ := HR3.out (by trivial)
    have HR := Lib.hid hR4
    have HN : Hid (∀ b o, A3 = some ⟨b, o, none⟩ → w.heap.size + 2 < b ∧ w3.heap.size < b) := Lib.hid (fun b o e => by have := hN3.2 b o e; simp at this; omega)
    have HK := Lib.hid hN3.1
    clear hN3 hR4
    refine bodyPost_ret (v := .tuple #[.agg #[.int .i64 p, .int .i64 t, .int .i64 c, .slice A3 X1.length k3], .int .i64 0]) (by simp [results, Try.results25, go_sem, E1, E2, E3, E4, E5]) rfl (Rs.yes rfl ?_ ?_ ?_)
    · exact ⟨HK.out, fun b o e => by have := HN.out b o e; omega⟩
    · (repeat (first | (with_reducible exact HR.out) | (with_reducible refine SG.off ?_ (fun b o e => by have := HN.out b o e; omega) _)))
    · ((repeat (first | (with_reducible exact Up.refl _) | (with_reducible exact U5.out) | (with_reducible refine Up.alloc ?_ _ _) | (with_reducible refine Up.setCell ?_ ?_ _) | (with_reducible refine Up.drewN ?_ _) | (with_reducible refine Up.drew ?_))); all_goals (first | (simp; done) | (simp; omega) | omega))
end Go.Proofs.Ytinjainclhfahaa
