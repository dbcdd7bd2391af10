/- Merge of package poly. -/
import Derived.Test.YtinjainclhfahaaRows
import Derived.Test.YtinjainclhfahaaZPAddq111
import Derived.Test.YtinjainclhfahaaZPBaseq99
import Derived.Test.YtinjainclhfahaaZPRebq110
namespace Go.Proofs.Ytinjainclhfahaa
open Go.RowKit
set_option linter.unusedVariables false

set_option maxHeartbeats 4000000 in
set_option maxRecDepth 100000 in
theorem merge15_up (p l c : Int) (n k : Nat) (A : Option Addr) (X : List Int) (p' l' c' : Int) (m j : Nat) (B : Option Addr) (Y : List Int) (hn : n ≤ 50000) (hm : m ≤ 50000) (hk : n ≤ k) (hj : m ≤ j) (hI : ∀ x ∈ X, In2 x) (hJ : ∀ x ∈ Y, In2 x) (w : World) (hS : SG cW w A n X) (hT : SG cW w B m Y) :
    Calls Try.prog 24 #[.agg #[.int .i64 p, .int .i64 l, .int .i64 c, .slice A n k], .agg #[.int .i64 p', .int .i64 l', .int .i64 c', .slice B m j]] w fun e w' => Rs (mrgQ p l c X p' l' c' Y) w e w' := by
  have HS := Lib.hid hS
  have HT := Lib.hid hT
  have KV1 := Lib.hid (fun W (hu : Up w W) => validate15_up p l c n k A X hn hI W (hS.up hu))
  have KV2 := Lib.hid (fun W (hu : Up w W) => validate15_up p' l' c' m j B Y hm hJ W (hT.up hu))
  unfold stQE at KV1 KV2
  unfold mrgQ
  by_cases hv : stP p l c X = true
  case neg =>
    rw [if_neg hv] at KV1 ⊢
    clear hv hS hI hT hJ KV2
    go_enter Try.func24, Try.ntmps24
    go_wp2_with (go_at_call 20; (with_reducible refine (KV1.out _ ((((Up.refl w).alloc _ _).alloc _ _).alloc _ _)).mono ?_); rintro e w1 ⟨rfl, hu1⟩; obtain ⟨U1, E1⟩ := call3 w hu1; clear hu1)
    refine bodyPost_ret (v := .tuple #[.agg #[.int .i64 0, .int .i64 0, .int .i64 0, .slice none 0 0], .int .i64 2]) (by simp [results, Try.results24, go_sem, E1]) rfl (Rs.no rfl ?_)
    ((repeat (first | (with_reducible exact Up.refl _) | (with_reducible exact U1.out) | (with_reducible refine Up.alloc ?_ _ _) | (with_reducible refine Up.setCell ?_ ?_ _) | (with_reducible refine Up.drewN ?_ _) | (with_reducible refine Up.drew ?_))); all_goals (first | (simp; done) | (simp; omega) | omega))
  rw [if_pos hv] at KV1 ⊢
  by_cases hv2 : stP p' l' c' Y = true
  case neg =>
    rw [if_neg hv2] at KV2 ⊢
    clear hv hv2 hS hI hT hJ
    go_enter Try.func24, Try.ntmps24
    go_wp2_with (first
      | (go_at_call 20; (with_reducible refine (KV1.out _ ((((Up.refl w).alloc _ _).alloc _ _).alloc _ _)).mono ?_); rintro e w1 ⟨rfl, hu1⟩; obtain ⟨U1, E1⟩ := call3 w hu1; clear hu1)
      | (go_at_call 20; (with_reducible refine (KV2.out _ U1.out).mono ?_); rintro e w2 ⟨rfl, hu2⟩; obtain ⟨U2, E2⟩ := call3 w hu2; clear hu2))
    refine bodyPost_ret (v := .tuple #[.agg #[.int .i64 0, .int .i64 0, .int .i64 0, .slice none 0 0], .int .i64 2]) (by simp [results, Try.results24, go_sem, E1, E2]) rfl (Rs.no rfl ?_)
    ((repeat (first | (with_reducible exact Up.refl _) | (with_reducible exact U2.out) | (with_reducible refine Up.alloc ?_ _ _) | (with_reducible refine Up.setCell ?_ ?_ _) | (with_reducible refine Up.drewN ?_ _) | (with_reducible refine Up.drew ?_))); all_goals (first | (simp; done) | (simp; omega) | omega))
  rw [if_pos hv2] at KV2 ⊢
  by_cases he : p = p' ∧ c = c'
  case neg =>
    rw [if_neg he]
    by_cases hp : p = p'
    case neg =>
      have t1 : (p != p') = true := by simp [hp]
      clear hv hv2 hS hI hT hJ he hp
      go_enter Try.func24, Try.ntmps24
      go_wp2_with (first
        | (go_at_call 20; (with_reducible refine (KV1.out _ ((((Up.refl w).alloc _ _).alloc _ _).alloc _ _)).mono ?_); rintro e w1 ⟨rfl, hu1⟩; obtain ⟨U1, E1⟩ := call3 w hu1; clear hu1)
        | (go_at_call 20; (with_reducible refine (KV2.out _ U1.out).mono ?_); rintro e w2 ⟨rfl, hu2⟩; obtain ⟨U2, E2⟩ := call3 w hu2; clear hu2))
      refine bodyPost_ret (v := .tuple #[.agg #[.int .i64 0, .int .i64 0, .int .i64 0, .slice none 0 0], .int .i64 1]) (by simp [results, Try.results24, go_sem, E1, E2]) rfl (Rs.no rfl ?_)
      ((repeat (first | (with_reducible exact Up.refl _) | (with_reducible exact U2.out) | (with_reducible refine Up.alloc ?_ _ _) | (with_reducible refine Up.setCell ?_ ?_ _) | (with_reducible refine Up.drewN ?_ _) | (with_reducible refine Up.drew ?_))); all_goals (first | (simp; done) | (simp; omega) | omega))
    have t1 : (p != p') = false := by simp [hp]
    have t2 : (c != c') = true := by simp; exact fun h => he ⟨hp, h⟩
    clear hv hv2 hS hI hT hJ he hp
    go_enter Try.func24, Try.ntmps24
    go_wp2_with (first
      | (go_at_call 20; (with_reducible refine (KV1.out _ ((((Up.refl w).alloc _ _).alloc _ _).alloc _ _)).mono ?_); rintro e w1 ⟨rfl, hu1⟩; obtain ⟨U1, E1⟩ := call3 w hu1; clear hu1)
      | (go_at_call 20; (with_reducible refine (KV2.out _ U1.out).mono ?_); rintro e w2 ⟨rfl, hu2⟩; obtain ⟨U2, E2⟩ := call3 w hu2; clear hu2))
    refine bodyPost_ret (v := .tuple #[.agg #[.int .i64 0, .int .i64 0, .int .i64 0, .slice none 0 0], .int .i64 1]) (by simp [results, Try.results24, go_sem, E1, E2]) rfl (Rs.no rfl ?_)
    ((repeat (first | (with_reducible exact Up.refl _) | (with_reducible exact U2.out) | (with_reducible refine Up.alloc ?_ _ _) | (with_reducible refine Up.setCell ?_ ?_ _) | (with_reducible refine Up.drewN ?_ _) | (with_reducible refine Up.drew ?_))); all_goals (first | (simp; done) | (simp; omega) | omega))
  rw [if_pos he]
  obtain ⟨rfl, rfl⟩ := he
  obtain ⟨h1, h2, h3⟩ := stP_is hS.1 hv
  obtain ⟨_, h4, h5⟩ := stP_is hT.1 hv2
  obtain rfl : n = m := by omega
  have t1 : (p != p) = false := by simp
  have t2 : (c != c) = false := by simp
  obtain ⟨t, ht⟩ : ∃ z, z = min l l' := ⟨_, rfl⟩
  rw [← ht]
  have hmin : ∀ (ts : Array TypeId) (ty : TypeId) (W : World), (Builtin.min_ ts ty #[.int .i64 l, .int .i64 l']).run Try.prog W = .ok (.int .i64 t) W := fun ts ty W => by
    rw [run_min_int2, ht]
    congr 2
    by_cases g : l' < l
    · rw [if_pos g]; omega
    · rw [if_neg g]; omega
  have K1 := Lib.hid (fun W (hu : Up w W) => rebased_up p l c t (l - t) n k A X hk (by omega) (by omega) (by omega) (by omega) rfl hI W (hS.up hu))
  have K2 := Lib.hid (fun W (hu : Up w W) => rebased_up p l' c t (l' - t) n j B Y hj (by omega) (by omega) (by omega) (by omega) rfl hJ W (hT.up hu))
  have KP := Lib.hid (fun C D x y W hC hD (i1 : fitL (reP (l - t) X) = true) (i2 : fitL (reP (l' - t) Y) = true) => plus15_up n x y C D (reP (l - t) X) (reP (l' - t) Y) (by omega) (fitL_iff.1 i1) (fitL_iff.1 i2) W hC hD)
  unfold PlR at K1 K2 KP
  generalize plP (reP (l - t) X) (reP (l' - t) Y) = Z at *
  generalize reP (l - t) X = X1 at *
  generalize reP (l' - t) Y = Y1 at *
  clear hv hv2 hS hI hT hJ h1 h2 h3 h4 h5 ht
  cases hr1 : fitL X1
  case false =>
    rw [show (false && fitL Y1 && fitL Z) = false from rfl, if_neg (by decide)]
    rw [hr1] at K1
    generalize fitL Y1 = r2 at *
    clear hr1 KP
    go_enter Try.func24, Try.ntmps24
    go_wp2_with (first
      | (go_at_call 20; (with_reducible refine (KV1.out _ ((((Up.refl w).alloc _ _).alloc _ _).alloc _ _)).mono ?_); rintro e w1 ⟨rfl, hu1⟩; obtain ⟨U1, E1⟩ := call3 w hu1; clear hu1)
      | (go_at_call 20; (with_reducible refine (KV2.out _ U1.out).mono ?_); rintro e w2 ⟨rfl, hu2⟩; obtain ⟨U2, E2⟩ := call3 w hu2; clear hu2)
      | (go_at_call 50; (with_reducible refine (K1.out _ U2.out).mono ?_); rintro e w3 ⟨A1, n1, k1, rfl, hR1, hu⟩; obtain ⟨U3, E3⟩ := call3 w hu; have HR1 := Lib.hid hR1; clear hu hR1)
      | (go_at_call 50; (with_reducible refine (K2.out _ U3.out).mono ?_); rintro e w4 ⟨A2, n2, k2, rfl, hR2, hu⟩; obtain ⟨U4, E4⟩ := call3 w hu; have HR2 := Lib.hid hR2; have HU4 := Lib.hid hu; clear hu hR2))
    refine bodyPost_ret (v := .tuple #[.agg #[.int .i64 0, .int .i64 0, .int .i64 0, .slice none 0 0], .int .i64 6]) (by simp [results, Try.results24, go_sem, E1, E2, E3, E4]) rfl (Rs.no rfl ?_)
    ((repeat (first | (with_reducible exact Up.refl _) | (with_reducible exact U4.out) | (with_reducible refine Up.alloc ?_ _ _) | (with_reducible refine Up.setCell ?_ ?_ _) | (with_reducible refine Up.drewN ?_ _) | (with_reducible refine Up.drew ?_))); all_goals (first | (simp; done) | (simp; omega) | omega))
  rw [hr1] at K1
  cases hr2 : fitL Y1
  case false =>
    rw [show (true && false && fitL Z) = false from rfl, if_neg (by decide)]
    rw [hr2] at K2
    clear hr1 hr2 KP
    go_enter Try.func24, Try.ntmps24
    go_wp2_with (first
      | (go_at_call 20; (with_reducible refine (KV1.out _ ((((Up.refl w).alloc _ _).alloc _ _).alloc _ _)).mono ?_); rintro e w1 ⟨rfl, hu1⟩; obtain ⟨U1, E1⟩ := call3 w hu1; clear hu1)
      | (go_at_call 20; (with_reducible refine (KV2.out _ U1.out).mono ?_); rintro e w2 ⟨rfl, hu2⟩; obtain ⟨U2, E2⟩ := call3 w hu2; clear hu2)
      | (go_at_call 50; (with_reducible refine (K1.out _ U2.out).mono ?_); rintro e w3 ⟨A1, n1, k1, rfl, hR1, hu⟩; obtain ⟨U3, E3⟩ := call3 w hu; have HR1 := Lib.hid hR1; clear hu hR1)
      | (go_at_call 50; (with_reducible refine (K2.out _ U3.out).mono ?_); rintro e w4 ⟨A2, n2, k2, rfl, hR2, hu⟩; obtain ⟨U4, E4⟩ := call3 w hu; have HR2 := Lib.hid hR2; have HU4 := Lib.hid hu; clear hu hR2))
    refine bodyPost_ret (v := .tuple #[.agg #[.int .i64 0, .int .i64 0, .int .i64 0, .slice none 0 0], .int .i64 6]) (by simp [results, Try.results24, go_sem, E1, E2, E3, E4]) rfl (Rs.no rfl ?_)
    ((repeat (first | (with_reducible exact Up.refl _) | (with_reducible exact U4.out) | (with_reducible refine Up.alloc ?_ _ _) | (with_reducible refine Up.setCell ?_ ?_ _) | (with_reducible refine Up.drewN ?_ _) | (with_reducible refine Up.drew ?_))); all_goals (first | (simp; done) | (simp; omega) | omega))
  rw [hr2] at K2
  rw [show (true && true && fitL Z) = fitL Z from rfl]
  have HP := Lib.hid (fun C D x y W hC hD => KP.out C D x y W hC hD hr1 hr2)
  clear hr1 hr2 KP
  cases hr3 : fitL Z
  · rw [hr3] at HP
    rw [if_neg (by decide)]
    have KH := Lib.hid (fun A2 n2 k2 => holding_up p l c t n k n2 k2 A A2 false)
    go_enter Try.func24, Try.ntmps24
    go_wp2_with (first
      | (go_at_call 20; (with_reducible refine (KV1.out _ ((((Up.refl w).alloc _ _).alloc _ _).alloc _ _)).mono ?_); rintro e w1 ⟨rfl, hu1⟩; obtain ⟨U1, E1⟩ := call3 w hu1; clear hu1)
      | (go_at_call 20; (with_reducible refine (KV2.out _ U1.out).mono ?_); rintro e w2 ⟨rfl, hu2⟩; obtain ⟨U2, E2⟩ := call3 w hu2; clear hu2)
      | (go_at_call 50; (with_reducible refine (K1.out _ U2.out).mono ?_); rintro e w3 ⟨A1, n1, k1, rfl, hR1, hu⟩; obtain ⟨U3, E3⟩ := call3 w hu; have HR1 := Lib.hid hR1; clear hu hR1)
      | (go_at_call 50; (with_reducible refine (K2.out _ U3.out).mono ?_); rintro e w4 ⟨A2, n2, k2, rfl, hR2, hu⟩; obtain ⟨U4, E4⟩ := call3 w hu; obtain ⟨rfl, hN1, hB1⟩ := HR1.out (by trivial); obtain ⟨rfl, hN2, hB2⟩ := hR2 (by trivial); have HB1 := Lib.hid (hB1.up hu); have HB2 := Lib.hid hB2; clear hu hR2 hB1 hB2 HR1 hN1 hN2)
      | (go_at_call 38; (with_reducible refine (HP.out _ _ _ _ _ HB1.out HB2.out).mono ?_); rintro e w5 ⟨A3, n3, k3, rfl, hR3, hu⟩; obtain ⟨U5, E5⟩ := call3 w hu; have HR3 := Lib.hid hR3; clear hu hR3)
      | (go_at_call 41; (with_reducible refine (KH.out _ _ _ _).mono ?_); rintro e w6 ⟨rfl, hu⟩; obtain ⟨U6, E6⟩ := call3 w hu; clear hu))
    refine bodyPost_ret (v := .tuple #[.agg #[.int .i64 0, .int .i64 0, .int .i64 0, .slice none 0 0], .int .i64 6]) (by simp [results, Try.results24, go_sem, E1, E2, E3, E4, E5, E6]) rfl (Rs.no rfl ?_)
    ((repeat (first | (with_reducible exact Up.refl _) | (with_reducible exact U6.out) | (with_reducible refine Up.alloc ?_ _ _) | (with_reducible refine Up.setCell ?_ ?_ _) | (with_reducible refine Up.drewN ?_ _) | (with_reducible refine Up.drew ?_))); all_goals (first | (simp; done) | (simp; omega) | omega))
  · rw [hr3] at HP
    rw [if_pos rfl]
    have KH := Lib.hid (fun A2 n2 k2 => holding_up p l c t n k n2 k2 A A2 true)
    go_enter Try.func24, Try.ntmps24
    go_wp2_with (first
      | (go_at_call 20; (with_reducible refine (KV1.out _ ((((Up.refl w).alloc _ _).alloc _ _).alloc _ _)).mono ?_); rintro e w1 ⟨rfl, hu1⟩; obtain ⟨U1, E1⟩ := call3 w hu1; clear hu1)
      | (go_at_call 20; (with_reducible refine (KV2.out _ U1.out).mono ?_); rintro e w2 ⟨rfl, hu2⟩; obtain ⟨U2, E2⟩ := call3 w hu2; clear hu2)
      | (go_at_call 50; (with_reducible refine (K1.out _ U2.out).mono ?_); rintro e w3 ⟨A1, n1, k1, rfl, hR1, hu⟩; obtain ⟨U3, E3⟩ := call3 w hu; have HR1 := Lib.hid hR1; clear hu hR1)
      | (go_at_call 50; (with_reducible refine (K2.out _ U3.out).mono ?_); rintro e w4 ⟨A2, n2, k2, rfl, hR2, hu⟩; obtain ⟨U4, E4⟩ := call3 w hu; obtain ⟨rfl, hN1, hB1⟩ := HR1.out (by trivial); obtain ⟨rfl, hN2, hB2⟩ := hR2 (by trivial); have HB1 := Lib.hid (hB1.up hu); have HB2 := Lib.hid hB2; clear hu hR2 hB1 hB2 HR1 hN1 hN2)
      | (go_at_call 38; (with_reducible refine (HP.out _ _ _ _ _ HB1.out HB2.out).mono ?_); rintro e w5 ⟨A3, n3, k3, rfl, hR3, hu⟩; obtain ⟨U5, E5⟩ := call3 w hu; have HR3 := Lib.hid hR3; clear hu hR3)
      | (go_at_call 41; (with_reducible refine (KH.out _ _ _ _).mono ?_); rintro e w6 ⟨rfl, hu⟩; obtain ⟨U6, E6⟩ := call3 w hu; have HR := Lib.hid ((HR3.out (by trivial)).2.2.up hu); clear hu))
    obtain ⟨rfl, hN3, _⟩ := HR3.out (by trivial)
    have HN : Hid (∀ b o, A3 = some ⟨b, o, none⟩ → w.heap.size + 2 < b) := Lib.hid (fun b o e => by have := hN3.2 b o e; omega)
    have HK := Lib.hid hN3.1
    clear hN3
    refine bodyPost_ret (v := .tuple #[.agg #[.int .i64 p, .int .i64 t, .int .i64 c, .slice A3 n3 k3], .int .i64 0]) (by simp [results, Try.results24, go_sem, E1, E2, E3, E4, E5, E6]) rfl (Rs.yes rfl ?_ ?_ ?_)
    · exact ⟨HK.out, fun b o e => by have := HN.out b o e; omega⟩
    · (repeat (first | (with_reducible exact HR.out) | (with_reducible refine SG.off ?_ (fun b o e => by have := HN.out b o e; omega) _)))
    · ((repeat (first | (with_reducible exact Up.refl _) | (with_reducible exact U6.out) | (with_reducible refine Up.alloc ?_ _ _) | (with_reducible refine Up.setCell ?_ ?_ _) | (with_reducible refine Up.drewN ?_ _) | (with_reducible refine Up.drew ?_))); all_goals (first | (simp; done) | (simp; omega) | omega))
end Go.Proofs.Ytinjainclhfahaa
