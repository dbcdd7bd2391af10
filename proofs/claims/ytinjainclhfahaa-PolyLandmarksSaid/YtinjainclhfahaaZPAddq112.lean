/- Advance, Add and Rebase of package poly. -/
import Derived.Test.YtinjainclhfahaaRows
import Derived.Test.YtinjainclhfahaaZPAddq111
import Derived.Test.YtinjainclhfahaaZPRebq110
namespace Go.Proofs.Ytinjainclhfahaa
open Go.RowKit
set_option linter.unusedVariables false

set_option maxHeartbeats 4000000 in
set_option maxRecDepth 100000 in
theorem rebase15_up (p l c t : Int) (n k : Nat) (A : Option Addr) (X : List Int) (hn : n ≤ 50000) (hk : n ≤ k) (hI : ∀ x ∈ X, In2 x) (w : World) (hS : SG cW w A n X) :
    Calls Try.prog 22 #[.agg #[.int .i64 p, .int .i64 l, .int .i64 c, .slice A n k], .int .i64 t] w fun e w' => Rs (rebQ p l c X t) w e w' := by
  have HS := Lib.hid hS
  have KV := Lib.hid (fun W (hu : Up w W) => validate15_up p l c n k A X hn hI W (hS.up hu))
  unfold stQE at KV
  unfold rebQ
  by_cases hv : stP p l c X = true
  case neg =>
    rw [if_neg hv] at KV ⊢
    clear hv hS hI
    go_enter Try.func22, Try.ntmps22
    go_wp2_with (go_at_call 20; (with_reducible refine (KV.out _ (((Up.refl w).alloc _ _).alloc _ _)).mono ?_); rintro e w1 ⟨rfl, hu⟩; obtain ⟨U1, E1⟩ := call2 w hu; clear hu)
    refine bodyPost_ret (v := .tuple #[.agg #[.int .i64 0, .int .i64 0, .int .i64 0, .slice none 0 0], .int .i64 2]) (by simp [results, Try.results22, go_sem, E1]) rfl (Rs.no rfl ?_)
    ((repeat (first | (with_reducible exact Up.refl _) | (with_reducible exact U1.out) | (with_reducible refine Up.alloc ?_ _ _) | (with_reducible refine Up.setCell ?_ ?_ _) | (with_reducible refine Up.drewN ?_ _) | (with_reducible refine Up.drew ?_))); all_goals (first | (simp; done) | (simp; omega) | omega))
  rw [if_pos hv] at KV ⊢
  obtain ⟨h1, h2, h3⟩ := stP_is hS.1 hv
  by_cases h : t < 0 ∨ l < t
  case pos =>
    rw [if_pos h]
    rcases (show t < 0 ∨ (0 ≤ t ∧ l < t) by omega) with g | ⟨g0, g⟩
    all_goals
      clear hv hS hI h h1 h2 h3
      go_enter Try.func22, Try.ntmps22
      go_wp2_with (go_at_call 20; (with_reducible refine (KV.out _ (((Up.refl w).alloc _ _).alloc _ _)).mono ?_); rintro e w1 ⟨rfl, hu⟩; obtain ⟨U1, E1⟩ := call2 w hu; clear hu)
      refine bodyPost_ret (v := .tuple #[.agg #[.int .i64 0, .int .i64 0, .int .i64 0, .slice none 0 0], .int .i64 1]) (by simp [results, Try.results22, go_sem, E1]) rfl (Rs.no rfl ?_)
      ((repeat (first | (with_reducible exact Up.refl _) | (with_reducible exact U1.out) | (with_reducible refine Up.alloc ?_ _ _) | (with_reducible refine Up.setCell ?_ ?_ _) | (with_reducible refine Up.drewN ?_ _) | (with_reducible refine Up.drew ?_))); all_goals (first | (simp; done) | (simp; omega) | omega))
  rw [if_neg h]
  have f1 : decide (t < 0) = false := decide_eq_false (by omega)
  have f2 : decide (l < t) = false := decide_eq_false (by omega)
  have KP := Lib.hid (fun W (hu : Up w W) => rebased_up p l c t (l - t) n k A X hk (by omega) (by omega) (by omega) (by omega) rfl hI W (hS.up hu))
  unfold PlR at KP
  generalize reP (l - t) X = Z at *
  cases hr : fitL Z
  all_goals
    rw [hr] at KP
    clear hv hS hI h h1 h2 h3 hr
  · have KH := Lib.hid (fun A2 n2 k2 => holding_up p l c t n k n2 k2 A A2 false)
    rw [if_neg (by decide)]
    go_enter Try.func22, Try.ntmps22
    go_wp2_with (first
        | (go_at_call 20; (with_reducible refine (KV.out _ (((Up.refl w).alloc _ _).alloc _ _)).mono ?_); rintro e w1 ⟨rfl, hu⟩; obtain ⟨U1, E1⟩ := call2 w hu; clear hu)
        | (go_at_call 50; (with_reducible refine (KP.out _ U1.out).mono ?_); rintro e w2 ⟨A2, n2, k2, rfl, hR2, hu2⟩; obtain ⟨U2, E2⟩ := call2 w hu2; have HR2 := Lib.hid hR2; have HN2 : Hid (w.heap.size + 1 < w1.heap.size) := Lib.hid (by omega); clear hu2 hR2)
        | (go_at_call 41; (with_reducible refine (KH.out _ _ _ _).mono ?_); rintro e w5 ⟨rfl, hu5⟩; obtain ⟨U5, E5⟩ := call2 w hu5))
    refine bodyPost_ret (v := .tuple #[.agg #[.int .i64 0, .int .i64 0, .int .i64 0, .slice none 0 0], .int .i64 6]) (by simp [results, Try.results22, go_sem, E1, E2, E5]) rfl (Rs.no rfl ?_)
    ((repeat (first | (with_reducible exact Up.refl _) | (with_reducible exact U5.out) | (with_reducible refine Up.alloc ?_ _ _) | (with_reducible refine Up.setCell ?_ ?_ _) | (with_reducible refine Up.drewN ?_ _) | (with_reducible refine Up.drew ?_))); all_goals (first | (simp; done) | (simp; omega) | omega))
  · have KH := Lib.hid (fun A2 n2 k2 => holding_up p l c t n k n2 k2 A A2 true)
    rw [if_pos rfl]
    go_enter Try.func22, Try.ntmps22
    go_wp2_with (first
        | (go_at_call 20; (with_reducible refine (KV.out _ (((Up.refl w).alloc _ _).alloc _ _)).mono ?_); rintro e w1 ⟨rfl, hu⟩; obtain ⟨U1, E1⟩ := call2 w hu; clear hu)
        | (go_at_call 50; (with_reducible refine (KP.out _ U1.out).mono ?_); rintro e w2 ⟨A2, n2, k2, rfl, hR2, hu2⟩; obtain ⟨U2, E2⟩ := call2 w hu2; have HR2 := Lib.hid hR2; have HN2 : Hid (w.heap.size + 1 < w1.heap.size) := Lib.hid (by omega); clear hu2 hR2)
        | (go_at_call 41; (with_reducible refine (KH.out _ _ _ _).mono ?_); rintro e w5 ⟨rfl, hu5⟩; obtain ⟨U5, E5⟩ := call2 w hu5; have HR := Lib.hid ((HR2.out (by trivial)).2.2.up hu5)))
    obtain ⟨rfl, hN2, _⟩ := HR2.out (by trivial)
    have HN : Hid (∀ b o, A2 = some ⟨b, o, none⟩ → w.heap.size + 1 < b) := Lib.hid (fun b o e => by have := hN2.2 b o e; have := HN2.out; omega)
    have HK := Lib.hid hN2.1
    clear hN2
    refine bodyPost_ret (v := .tuple #[.agg #[.int .i64 p, .int .i64 t, .int .i64 c, .slice A2 n2 k2], .int .i64 0]) (by simp [results, Try.results22, go_sem, E1, E2, E5]) rfl (Rs.yes rfl ?_ ?_ ?_)
    · exact ⟨HK.out, fun b o e => by have := HN.out b o e; omega⟩
    · (repeat (first | (with_reducible exact HR.out) | (with_reducible refine SG.off ?_ (fun b o e => by have := HN.out b o e; omega) _)))
    · ((repeat (first | (with_reducible exact Up.refl _) | (with_reducible exact U5.out) | (with_reducible refine Up.alloc ?_ _ _) | (with_reducible refine Up.setCell ?_ ?_ _) | (with_reducible refine Up.drewN ?_ _) | (with_reducible refine Up.drew ?_))); all_goals (first | (simp; done) | (simp; omega) | omega))
end Go.Proofs.Ytinjainclhfahaa
