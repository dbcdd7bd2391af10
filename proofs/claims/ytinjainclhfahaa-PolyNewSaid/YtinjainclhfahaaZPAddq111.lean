/- Advance, Add and Rebase of package poly. -/
import Derived.Test.YtinjainclhfahaaRows
import Derived.Test.YtinjainclhfahaaZPRow2q107
namespace Go.Proofs.Ytinjainclhfahaa
open Go.RowKit
set_option linter.unusedVariables false

theorem stP_is {p l c : Int} {n : Nat} {X : List Int} (hX : X.length = n) (h : stP p l c X = true) : (0 ≤ p ∧ p ≤ 4) ∧ (0 ≤ l ∧ l ≤ c ∧ c ≤ 16777216) ∧ (n : Int) = p + 1 := by
  obtain ⟨⟨h1, h2, h3⟩, h4, _⟩ := stP_true h
  exact ⟨h1, ⟨h3.1, h3.2, h2.2⟩, by omega⟩
set_option maxHeartbeats 4000000 in
set_option maxRecDepth 100000 in
theorem advance15_up (p l c t : Int) (n k : Nat) (A : Option Addr) (X : List Int) (hn : n ≤ 50000) (hk : n ≤ k) (hI : ∀ x ∈ X, In2 x) (w : World) (hS : SG cW w A n X) :
    Calls Try.prog 14 #[.agg #[.int .i64 p, .int .i64 l, .int .i64 c, .slice A n k], .int .i64 t] w fun e w' => Rs (advQ p l c X t) w e w' := by
  have HS := Lib.hid hS
  have KV := Lib.hid (fun W (hu : Up w W) => validate15_up p l c n k A X hn hI W (hS.up hu))
  unfold stQE at KV
  unfold advQ
  by_cases hv : stP p l c X = true
  case neg =>
    rw [if_neg hv] at KV ⊢
    clear hv hS hI
    go_enter Try.func14, Try.ntmps14
    go_wp2_with (go_at_call 20; (with_reducible refine (KV.out _ (((Up.refl w).alloc _ _).alloc _ _)).mono ?_); rintro e w1 ⟨rfl, hu⟩; obtain ⟨U1, E1⟩ := call2 w hu; clear hu)
    refine bodyPost_ret (v := .tuple #[.agg #[.int .i64 0, .int .i64 0, .int .i64 0, .slice none 0 0], .int .i64 2]) (by simp [results, Try.results14, go_sem, E1]) rfl (Rs.no rfl ?_)
    ((repeat (first | (with_reducible exact Up.refl _) | (with_reducible exact U1.out) | (with_reducible refine Up.alloc ?_ _ _) | (with_reducible refine Up.setCell ?_ ?_ _) | (with_reducible refine Up.drewN ?_ _) | (with_reducible refine Up.drew ?_))); all_goals (first | (simp; done) | (simp; omega) | omega))
  rw [if_pos hv] at KV ⊢
  obtain ⟨h1, h2, h3⟩ := stP_is hS.1 hv
  have ht : tickB c = true := decide_eq_true ⟨by omega, h2.2.2⟩
  by_cases h : t < c ∨ 16777216 < t
  case pos =>
    rw [if_pos h]
    have KA := Lib.hid (fun W => advance_any c t 0 3 (by rw [if_pos ht, if_pos h]) W)
    clear hv hS hI h ht h1 h2 h3
    go_enter Try.func14, Try.ntmps14
    go_wp2_with (first
      | (go_at_call 20; (with_reducible refine (KV.out _ (((Up.refl w).alloc _ _).alloc _ _)).mono ?_); rintro e w1 ⟨rfl, hu⟩; obtain ⟨U1, E1⟩ := call2 w hu; clear hu)
      | (go_at_call 35; (with_reducible refine (KA.out _).mono ?_); rintro e w' ⟨rfl, rfl⟩))
    refine bodyPost_ret (v := .tuple #[.agg #[.int .i64 0, .int .i64 0, .int .i64 0, .slice none 0 0], .int .i64 3]) (by simp [results, Try.results14, go_sem, E1]) rfl (Rs.no rfl ?_)
    ((repeat (first | (with_reducible exact Up.refl _) | (with_reducible exact U1.out) | (with_reducible refine Up.alloc ?_ _ _) | (with_reducible refine Up.setCell ?_ ?_ _) | (with_reducible refine Up.drewN ?_ _) | (with_reducible refine Up.drew ?_))); all_goals (first | (simp; done) | (simp; omega) | omega))
  rw [if_neg h]
  have KA := Lib.hid (fun W => advance_any c t t 0 (by rw [if_pos ht, if_neg h]) W)
  have KC := Lib.hid (fun W (hu : Up w W) => clone15_up n k A X (by omega) W (hS.up hu))
  unfold RwR at KC
  clear hv hS hI h ht h1 h2 h3
  go_enter Try.func14, Try.ntmps14
  go_wp2_with (first
    | (go_at_call 20; (with_reducible refine (KV.out _ (((Up.refl w).alloc _ _).alloc _ _)).mono ?_); rintro e w1 ⟨rfl, hu⟩; obtain ⟨U1, E1⟩ := call2 w hu; clear hu)
    | (go_at_call 35; (with_reducible refine (KA.out _).mono ?_); rintro e w' ⟨rfl, rfl⟩)
    | (go_at_call 36; (with_reducible refine (KC.out _ ?_).mono ?_); · (exact U1.out.setCell (by simp) _)); rintro e w2 ⟨A1, k1, rfl, hN, hR, hu⟩; have HR := Lib.hid hR; have HN : Hid (∀ b o, A1 = some ⟨b, o, none⟩ → w.heap.size + 1 < b) := Lib.hid (fun b o e => by have := hN.2 b o e; simp at this; omega); have HK := Lib.hid hN.1; obtain ⟨U2, E2⟩ := call2 w hu; clear hu hR hN)
  refine bodyPost_ret (v := .tuple #[.agg #[.int .i64 p, .int .i64 l, .int .i64 t, .slice A1 n k1], .int .i64 0]) (by simp [results, Try.results14, go_sem, E1, E2]) rfl (Rs.yes rfl ?_ ?_ ?_)
  · exact ⟨HK.out, fun b o e => by have := HN.out b o e; omega⟩
  · (repeat (first | (with_reducible exact HR.out) | (with_reducible refine SG.off ?_ (fun b o e => by have := HN.out b o e; omega) _)))
  · ((repeat (first | (with_reducible exact Up.refl _) | (with_reducible exact U2.out) | (with_reducible refine Up.alloc ?_ _ _) | (with_reducible refine Up.setCell ?_ ?_ _) | (with_reducible refine Up.drewN ?_ _) | (with_reducible refine Up.drew ?_))); all_goals (first | (simp; done) | (simp; omega) | omega))
set_option maxHeartbeats 4000000 in
set_option maxRecDepth 100000 in
theorem adP_is {a v : Int} {n : Nat} {X : List Int} (hX : X.length = n) : adP a v X = plP X (byL n (fun j => v * a ^ j)) := by
  unfold adP plP
  exact byL_ext (fun j hj => by rw [byL_at (by omega)])
set_option maxHeartbeats 4000000 in
set_option maxRecDepth 100000 in
theorem add15_up (p l c v : Int) (n k : Nat) (A : Option Addr) (X : List Int) (hn : n ≤ 50000) (hk : n ≤ k) (hI : ∀ x ∈ X, In2 x) (w : World) (hS : SG cW w A n X) :
    Calls Try.prog 16 #[.agg #[.int .i64 p, .int .i64 l, .int .i64 c, .slice A n k], .int .i64 v] w fun e w' => Rs (addQ p l c X v) w e w' := by
  have HS := Lib.hid hS
  have KV := Lib.hid (fun W (hu : Up w W) => validate15_up p l c n k A X hn hI W (hS.up hu))
  unfold stQE at KV
  unfold addQ
  by_cases hv : stP p l c X = true
  case neg =>
    rw [if_neg hv] at KV ⊢
    clear hv hS hI
    go_enter Try.func16, Try.ntmps16
    go_wp2_with (go_at_call 20; (with_reducible refine (KV.out _ (((Up.refl w).alloc _ _).alloc _ _)).mono ?_); rintro e w1 ⟨rfl, hu⟩; obtain ⟨U1, E1⟩ := call2 w hu; clear hu)
    refine bodyPost_ret (v := .tuple #[.agg #[.int .i64 0, .int .i64 0, .int .i64 0, .slice none 0 0], .int .i64 2]) (by simp [results, Try.results16, go_sem, E1]) rfl (Rs.no rfl ?_)
    ((repeat (first | (with_reducible exact Up.refl _) | (with_reducible exact U1.out) | (with_reducible refine Up.alloc ?_ _ _) | (with_reducible refine Up.setCell ?_ ?_ _) | (with_reducible refine Up.drewN ?_ _) | (with_reducible refine Up.drew ?_))); all_goals (first | (simp; done) | (simp; omega) | omega))
  rw [if_pos hv] at KV ⊢
  obtain ⟨h1, h2, h3⟩ := stP_is hS.1 hv
  by_cases h : v < 0 ∨ 4096 < v
  case pos =>
    rw [if_pos h]
    rcases (show v < 0 ∨ (0 ≤ v ∧ 4096 < v) by omega) with g | ⟨g0, g⟩
    all_goals
      clear hv hS hI h h1 h2 h3
      go_enter Try.func16, Try.ntmps16
      go_wp2_with (go_at_call 20; (with_reducible refine (KV.out _ (((Up.refl w).alloc _ _).alloc _ _)).mono ?_); rintro e w1 ⟨rfl, hu⟩; obtain ⟨U1, E1⟩ := call2 w hu; clear hu)
      refine bodyPost_ret (v := .tuple #[.agg #[.int .i64 0, .int .i64 0, .int .i64 0, .slice none 0 0], .int .i64 4]) (by simp [results, Try.results16, go_sem, E1]) rfl (Rs.no rfl ?_)
      ((repeat (first | (with_reducible exact Up.refl _) | (with_reducible exact U1.out) | (with_reducible refine Up.alloc ?_ _ _) | (with_reducible refine Up.setCell ?_ ?_ _) | (with_reducible refine Up.drewN ?_ _) | (with_reducible refine Up.drew ?_))); all_goals (first | (simp; done) | (simp; omega) | omega))
  rw [if_neg h, adP_is hS.1]
  obtain ⟨m, rfl⟩ : ∃ m : Nat, p = m := ⟨p.toNat, by omega⟩
  obtain rfl : n = m + 1 := by omega
  have f1 : decide (v < 0) = false := decide_eq_false (by omega)
  have f2 : decide (4096 < v) = false := decide_eq_false (by omega)
  have k1 : IntKind.u64.wrap v = v := by rw [IntKind.wrap_u64]; omega
  have KG := Lib.hid (gage_up m l c (m + 1) k A h2.1 h2.2.1 h2.2.2)
  have KS := Lib.hid (fun W => single15_up v (c - l + 1) m (by omega) (by omega) (by omega) (by omega) (by omega) W)
  have KP := Lib.hid (fun B j W (hu : Up w W) hB => plus15_up (m + 1) k j A B X (byL (m + 1) (fun j => v * (c - l + 1) ^ j)) (by omega) hI (fun x hx => by obtain ⟨j, hj, rfl⟩ := byL_mem hx; exact (term_in (by omega) (by omega) (by omega) (by omega) (by omega)).1) W (hS.up hu) hB)
  unfold RwR at KS
  unfold PlR at KP
  generalize byL (m + 1) (fun j => v * (c - l + 1) ^ j) = Y at *
  generalize plP X Y = Z at *
  generalize c - l + 1 = g at *
  generalize m + 1 = n at *
  generalize (m : Int) = p at *
  cases hr : fitL Z
  all_goals
    rw [hr] at KP
    clear hv hS hI h h1 h2 h3 hr
  · have KH := Lib.hid (fun A2 n2 k2 => holding_up p l c l n k n2 k2 A A2 false)
    rw [if_neg (by decide)]
    go_enter Try.func16, Try.ntmps16
    go_upto_region 6 with (go_at_call 20; (with_reducible refine (KV.out _ (((Up.refl w).alloc _ _).alloc _ _)).mono ?_); rintro e w1 ⟨rfl, hu⟩; obtain ⟨U1, E1⟩ := call2 w hu; clear hu)
    refine (show ∀ ws : World, ws = _ → Code.wp _ _ _ _ ws from fun ws hws => ?_) _ rfl
    obtain ⟨Us, Es⟩ := hold2 w w.heap.size (w.heap.size + 1) (Up.of_eq hws)
    have zs := fun o => Us.out.ownGe (Nat.le_succ w.heap.size) o
    clear hws
    go_region_held3 (KB2 w.heap.size (w.heap.size + 1) w ws) (first | (with_reducible exact KB2.start Us) | (with_reducible exact KB2.next (by assumption) (by assumption))) (first  | (go_at_call 40; (with_reducible refine (KG.out _).mono ?_); rintro e w' ⟨rfl, hu⟩)  | (go_at_call 39; (with_reducible refine (KS.out _).mono ?_); rintro e w8 ⟨A1, k1, rfl, hN1, hR1, hu⟩; have HR1 := Lib.hid hR1; clear hR1 hN1)  | (go_at_call 38; (with_reducible refine (KP.out _ _ _ (KB2.to (by assumption)) (HR1.out.up (by (repeat (first | (with_reducible exact Up.refl _) | (with_reducible refine Up.drewN ?_ _) | (with_reducible refine Up.drew ?_)))))).mono ?_); rintro e w9 ⟨A2, n2, k2, rfl, hR2, hu⟩; have HR2 := Lib.hid hR2; have HN2 : Hid (w.heap.size + 1 < w8.heap.size) := Lib.hid ((show KB2 w.heap.size (w.heap.size + 1) w ws w8 by assumption).2.1.2); clear hR2))
    obtain ⟨hk1, hk2, hk3, hk4⟩ : KB2 w.heap.size (w.heap.size + 1) w ws _ := by assumption
    have HF := Lib.hid hk1
    go_wp2_with (go_at_call 41; (with_reducible refine (KH.out _ _ _ _).mono ?_); rintro e w5 ⟨rfl, hu5⟩; obtain ⟨U5, E5⟩ := hold2 w w.heap.size (w.heap.size + 1) hu5; have zf := fun o => U5.out.ownGe (Nat.le_succ w.heap.size) o)
    refine bodyPost_ret (v := .tuple #[.agg #[.int .i64 0, .int .i64 0, .int .i64 0, .slice none 0 0], .int .i64 6]) (by simp [results, Try.results16, go_sem, E5, hk4, Es, E1]) rfl (Rs.no rfl ?_)
    ((repeat (first | (with_reducible exact Up.refl _) | (with_reducible exact U5.out) | (with_reducible refine Up.alloc ?_ _ _) | (with_reducible refine Up.setCell ?_ ?_ _) | (with_reducible refine Up.drewN ?_ _) | (with_reducible refine Up.drew ?_))); all_goals (first | (simp; done) | (simp; omega) | omega))
  · have KH := Lib.hid (fun A2 n2 k2 => holding_up p l c l n k n2 k2 A A2 true)
    rw [if_pos rfl]
    go_enter Try.func16, Try.ntmps16
    go_upto_region 6 with (go_at_call 20; (with_reducible refine (KV.out _ (((Up.refl w).alloc _ _).alloc _ _)).mono ?_); rintro e w1 ⟨rfl, hu⟩; obtain ⟨U1, E1⟩ := call2 w hu; clear hu)
    refine (show ∀ ws : World, ws = _ → Code.wp _ _ _ _ ws from fun ws hws => ?_) _ rfl
    obtain ⟨Us, Es⟩ := hold2 w w.heap.size (w.heap.size + 1) (Up.of_eq hws)
    have zs := fun o => Us.out.ownGe (Nat.le_succ w.heap.size) o
    clear hws
    go_region_held3 (KB2 w.heap.size (w.heap.size + 1) w ws) (first | (with_reducible exact KB2.start Us) | (with_reducible exact KB2.next (by assumption) (by assumption))) (first  | (go_at_call 40; (with_reducible refine (KG.out _).mono ?_); rintro e w' ⟨rfl, hu⟩)  | (go_at_call 39; (with_reducible refine (KS.out _).mono ?_); rintro e w8 ⟨A1, k1, rfl, hN1, hR1, hu⟩; have HR1 := Lib.hid hR1; clear hR1 hN1)  | (go_at_call 38; (with_reducible refine (KP.out _ _ _ (KB2.to (by assumption)) (HR1.out.up (by (repeat (first | (with_reducible exact Up.refl _) | (with_reducible refine Up.drewN ?_ _) | (with_reducible refine Up.drew ?_)))))).mono ?_); rintro e w9 ⟨A2, n2, k2, rfl, hR2, hu⟩; have HR2 := Lib.hid hR2; have HN2 : Hid (w.heap.size + 1 < w8.heap.size) := Lib.hid ((show KB2 w.heap.size (w.heap.size + 1) w ws w8 by assumption).2.1.2); clear hR2))
    obtain ⟨hk1, hk2, hk3, hk4⟩ : KB2 w.heap.size (w.heap.size + 1) w ws _ := by assumption
    have HF := Lib.hid hk1
    obtain ⟨rfl, hN2, hR2⟩ := HR2.out (by trivial)
    have HN : Hid (∀ b o, A2 = some ⟨b, o, none⟩ → w.heap.size + 1 < b) := Lib.hid (fun b o e => by have := hN2.2 b o e; have := HN2.out; omega)
    have HK := Lib.hid hN2.1
    have HR3 := Lib.hid hR2
    clear hN2 hR2
    go_wp2_with (go_at_call 41; (with_reducible refine (KH.out _ _ _ _).mono ?_); rintro e w5 ⟨rfl, hu5⟩; obtain ⟨U5, E5⟩ := hold2 w w.heap.size (w.heap.size + 1) hu5; have zf := fun o => U5.out.ownGe (Nat.le_succ w.heap.size) o; have HR := Lib.hid (HR3.out.up hu5))
    refine bodyPost_ret (v := .tuple #[.agg #[.int .i64 p, .int .i64 l, .int .i64 c, .slice A2 n2 k2], .int .i64 0]) (by simp [results, Try.results16, go_sem, E5, hk4, Es, E1]) rfl (Rs.yes rfl ?_ ?_ ?_)
    · exact ⟨HK.out, fun b o e => by have := HN.out b o e; omega⟩
    · (repeat (first | (with_reducible exact HR.out) | (with_reducible refine SG.off ?_ (fun b o e => by have := HN.out b o e; omega) _)))
    · ((repeat (first | (with_reducible exact Up.refl _) | (with_reducible exact U5.out) | (with_reducible refine Up.alloc ?_ _ _) | (with_reducible refine Up.setCell ?_ ?_ _) | (with_reducible refine Up.drewN ?_ _) | (with_reducible refine Up.drew ?_))); all_goals (first | (simp; done) | (simp; omega) | omega))
end Go.Proofs.Ytinjainclhfahaa
