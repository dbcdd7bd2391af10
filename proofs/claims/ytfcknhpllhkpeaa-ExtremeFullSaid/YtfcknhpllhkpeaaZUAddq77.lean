/- Advance, Add, Ask and Merge of package extreme. -/
import Derived.Test.YtfcknhpllhkpeaaRows
import Derived.Test.YtfcknhpllhkpeaaZUPushq69
namespace Go.Proofs.Ytfcknhpllhkpeaa
open Go.RowKit
set_option linter.unusedVariables false

theorem stX_in {mx : Bool} {v c now : Int} {K : List It} (h : stX mx v c now K = true) : tickB now = true ∧ winB v = true ∧ (0 ≤ now ∧ now ≤ 16777216) ∧ (∀ x ∈ K, 0 ≤ x.1 ∧ now - v < x.1 ∧ x.1 ≤ now) ∧ K.Pairwise (fun x y => x.1 < y.1) := by
  obtain ⟨h1, _, h3, h4⟩ := stX_is h
  obtain ⟨ht, hv, _⟩ := mayB_true h1
  exact ⟨ht, hv, tickB_true ht, fun x hx => (liveB_iff ht hv).1 (h3 x hx).1, h4.imp (fun q => q.1)⟩
set_option maxHeartbeats 4000000 in
set_option maxRecDepth 100000 in
theorem add17_up (mx : Bool) (v c now : Int) (n k : Nat) (A : Option Addr) (L : List It) (x : Int) (hn : n ≤ 40000) (hk : n ≤ k) (w : World) (hS : Sl w A n L) :
    Calls Try.prog 16 #[.agg #[.bool mx, .int .i64 v, .int .i64 c, .int .i64 now, .slice A n k], .int .i64 x] w fun e w' => RsX (anX mx v c now L x) w e w' := by
  have hn : n ≤ 100000 := by omega
  have HS := Lib.hid hS
  have KV := Lib.hid (fun W (hu : Up w W) => validate17_up mx v c now n k A L hn W (hS.up hu))
  unfold stXE at KV
  have KL := Lib.hid (value17_any x)
  unfold anX
  by_cases hv : stX mx v c now L = true
  case neg =>
    rw [if_neg hv] at KV ⊢
    clear hv hS
    go_enter Try.func16, Try.ntmps16
    go_wp2_with (go_at_call 20; (with_reducible refine (KV.out _ (((Up.refl w).alloc _ _).alloc _ _)).mono ?_); rintro e w1 ⟨rfl, hu⟩; obtain ⟨U1, E1⟩ := call2 w hu; clear hu)
    refine bodyPost_ret (v := .tuple #[.agg #[.bool false, .int .i64 0, .int .i64 0, .int .i64 0, .slice none 0 0], .int .i64 2]) (by simp [results, Try.results16, go_sem, E1]) rfl (RsX.no rfl ?_)
    ((repeat (first | (with_reducible exact Up.refl _) | (with_reducible exact U1.out) | (with_reducible refine Up.alloc ?_ _ _) | (with_reducible refine Up.setCell ?_ ?_ _) | (with_reducible refine Up.drewN ?_ _) | (with_reducible refine Up.drew ?_))); all_goals (first | (simp; done) | (simp; omega) | omega))
  rw [if_pos hv] at KV ⊢
  cases hx : valueB x
  case false =>
    rw [if_neg (by decide)]
    rw [hx] at KL
    clear hv hS hx
    go_enter Try.func16, Try.ntmps16
    go_wp2_with (first
      | (go_at_call 20; (with_reducible refine (KV.out _ (((Up.refl w).alloc _ _).alloc _ _)).mono ?_); rintro e w1 ⟨rfl, hu⟩; obtain ⟨U1, E1⟩ := call2 w hu; clear hu)
      | (go_at_call 37; (with_reducible refine (KL.out _).mono ?_); rintro e w' ⟨rfl, rfl⟩))
    refine bodyPost_ret (v := .tuple #[.agg #[.bool false, .int .i64 0, .int .i64 0, .int .i64 0, .slice none 0 0], .int .i64 4]) (by simp [results, Try.results16, go_sem, E1]) rfl (RsX.no rfl ?_)
    ((repeat (first | (with_reducible exact Up.refl _) | (with_reducible exact U1.out) | (with_reducible refine Up.alloc ?_ _ _) | (with_reducible refine Up.setCell ?_ ?_ _) | (with_reducible refine Up.drewN ?_ _) | (with_reducible refine Up.drew ?_))); all_goals (first | (simp; done) | (simp; omega) | omega))
  rw [if_pos rfl]
  rw [hx] at KL
  obtain ⟨ht, hw, hn2, hin, ha⟩ := stX_in hv
  have hd := (stX_is hv).2.2.2
  have hl := hS.1
  have KC := Lib.hid (fun W (hu : Up w W) => cloneI_up n k A L (by omega) W (hS.up hu))
  have KP := Lib.hid (fun k2 B w0 W hu hO => push17_up mx now x n k2 B L (by omega) hd (fun y hy => (hin y hy).2.2) w0 W hu hO)
  generalize adE mx now x L = Z at *
  have HY : Hid ((Z.length : Int) ≤ c → (if (Z.length : Int) ≤ c then (mx, v, c, now, Z, 0) else noX 5 : QX) = (mx, v, c, now, Z, 0)) := Lib.hid (fun h => if_pos h)
  have HX : Hid (¬ (Z.length : Int) ≤ c → (if (Z.length : Int) ≤ c then (mx, v, c, now, Z, 0) else noX 5 : QX) = noX 5) := Lib.hid (fun h => if_neg h)
  generalize (if (Z.length : Int) ≤ c then (mx, v, c, now, Z, 0) else noX 5 : QX) = QQ at *
  clear hv hS hx ht hw hn2 hin ha hd hl
  go_enter Try.func16, Try.ntmps16
  go_upto_region 6 with (first
    | (go_at_call 20; (with_reducible refine (KV.out _ (((Up.refl w).alloc _ _).alloc _ _)).mono ?_); rintro e w1 ⟨rfl, hu⟩; obtain ⟨U1, E1⟩ := call2 w hu; clear hu)
    | (go_at_call 37; (with_reducible refine (KL.out _).mono ?_); rintro e w' ⟨rfl, rfl⟩))
  refine (show ∀ ws : World, ws = _ → Code.wp _ _ _ _ ws from fun ws hws => ?_) _ rfl
  obtain ⟨Us, Es⟩ := hold2 w w.heap.size (w.heap.size + 1) (Up.of_eq hws)
  clear hws
  have hbs : w.heap.size < ws.heap.size := Es.2.1
  have hbt : w.heap.size + 1 < ws.heap.size := Es.2.2
  go_region_held3 (KB1 w.heap.size ws ws) (first | (with_reducible exact KB1.start (Lib.hid (Up.refl ws))) | (with_reducible exact KB1.old17 (Up.refl ws) (Hid.out (by assumption)) hbs)) (first
    | (go_at_call 39; (with_reducible refine (KC.out _ Us.out.drew).mono ?_); rintro e w2 ⟨A2, k2, rfl, hO2, hu2⟩; have HO2 := Lib.hid hO2; have HD2 := Lib.hid hu2; have HU2 : Hid (Up ws w2) := Lib.hid ((Up.refl ws).drew.trans hu2); clear hO2 hu2)
    | (go_at_call 38; (with_reducible refine (KP.out _ _ _ _ HD2.out HO2.out).mono ?_); rintro e w3 ⟨A3, n3, k3, rfl, hO3, hu3⟩; have HO3 := Lib.hid hO3; have HU3 : Hid (Up ws w3) := Lib.hid ((Up.refl ws).drew.trans hu3); clear hO3 hu3))
  all_goals
    obtain ⟨U3, E3⟩ := hold2 w w.heap.size (w.heap.size + 1) HU3.out
    have KH := Lib.hid (fun W => holding17_up mx v c now n k A n3 k3 A3 W)
    obtain ⟨⟨hk3, hnw⟩, hS3⟩ := HO3.out.all17
    have HN : Hid (∀ b o, A3 = some ⟨b, o, none⟩ → w.heap.size + 1 < b) := Lib.hid (fun b o e => by have := hnw b o e; simp at this; omega)
    have HK := Lib.hid hk3
    have HS3 := Lib.hid hS3
    have hl3 := hS3.1
    rw [hl3] at HX HY
    clear hnw hk3 hS3 HO3 HU3 KP KC
  by_cases hc : (n3 : Int) ≤ c
  · obtain rfl := HY.out hc
    rw [if_pos hc] at KH
    clear hc hl3 HX HY
    go_wp2_with (go_at_call 40; (with_reducible refine (KH.out _).mono ?_); rintro e w5 ⟨rfl, hu5⟩; have HR := Lib.hid (HS3.out.up hu5); have z5 := fun o => (U3.out.trans hu5).ownGe (show w.heap.size ≤ w.heap.size + 1 by omega) o; obtain ⟨U5, E5⟩ := hold2 w w.heap.size (w.heap.size + 1) hu5; clear hu5)
    refine bodyPost_ret (v := .tuple #[.agg #[.bool mx, .int .i64 v, .int .i64 c, .int .i64 now, .slice A3 n3 k3], .int .i64 0]) (by simp [results, Try.results16, go_sem, E1, Es, E3, E5]) rfl (RsX.yes rfl ?_ ?_ ?_)
    · exact ⟨HK.out, fun b o e => by have := HN.out b o e; omega⟩
    · (repeat (first | (with_reducible exact HR.out) | (with_reducible refine Sl.off ?_ (fun b o e => by have := HN.out b o e; omega) _)))
    · ((repeat (first | (with_reducible exact Up.refl _) | (with_reducible exact U5.out) | (with_reducible refine Up.alloc ?_ _ _) | (with_reducible refine Up.setCell ?_ ?_ _) | (with_reducible refine Up.drewN ?_ _) | (with_reducible refine Up.drew ?_))); all_goals (first | (simp; done) | (simp; omega) | omega))
  · obtain rfl := HX.out (by omega)
    rw [if_neg hc] at KH
    clear hc hl3 HX HY
    go_wp2_with (go_at_call 40; (with_reducible refine (KH.out _).mono ?_); rintro e w5 ⟨rfl, hu5⟩; have z5 := fun o => (U3.out.trans hu5).ownGe (show w.heap.size ≤ w.heap.size + 1 by omega) o; obtain ⟨U5, E5⟩ := hold2 w w.heap.size (w.heap.size + 1) hu5; clear hu5)
    refine bodyPost_ret (v := .tuple #[.agg #[.bool false, .int .i64 0, .int .i64 0, .int .i64 0, .slice none 0 0], .int .i64 5]) (by simp [results, Try.results16, go_sem, E1, Es, E3, E5]) rfl (RsX.no rfl ?_)
    ((repeat (first | (with_reducible exact Up.refl _) | (with_reducible exact U5.out) | (with_reducible refine Up.alloc ?_ _ _) | (with_reducible refine Up.setCell ?_ ?_ _) | (with_reducible refine Up.drewN ?_ _) | (with_reducible refine Up.drew ?_))); all_goals (first | (simp; done) | (simp; omega) | omega))
set_option maxHeartbeats 4000000 in
set_option maxRecDepth 100000 in
theorem ask17_up (mx : Bool) (v c now : Int) (n k : Nat) (A : Option Addr) (L : List It) (hn : n ≤ 40000) (hk : n ≤ k) (w : World) (hS : Sl w A n L) :
    Calls Try.prog 18 #[.agg #[.bool mx, .int .i64 v, .int .i64 c, .int .i64 now, .slice A n k]] w fun e w' => e = .returned (.tuple #[.int .i64 (akX mx v c now L).1, .int .i64 (akX mx v c now L).2]) ∧ Up w w' := by
  have hn : n ≤ 100000 := by omega
  have HS := Lib.hid hS
  have KV := Lib.hid (fun W (hu : Up w W) => validate17_up mx v c now n k A L hn W (hS.up hu))
  unfold stXE at KV
  unfold akX
  by_cases hv : stX mx v c now L = true
  case neg =>
    rw [if_neg hv] at KV ⊢
    clear hv hS
    go_enter Try.func18, Try.ntmps18
    go_wp2_with (go_at_call 20; (with_reducible refine (KV.out _ ((Up.refl w).alloc _ _)).mono ?_); rintro e w1 ⟨rfl, hu⟩; obtain ⟨U1, E1⟩ := call1 w hu; clear hu)
    refine bodyPost_ret (v := .tuple #[.int .i64 0, .int .i64 2]) (by simp [results, Try.results18, go_sem]) rfl ⟨rfl, ?_⟩
    exact U1.out
  rw [if_pos hv] at KV ⊢
  have hl := hS.1
  rcases Nat.eq_zero_or_pos n with h0 | h0
  · rw [if_pos (by omega)]
    have t1 : ((n : Int) == 0) = true := by rw [h0]; rfl
    have t2 : (n == 0) = true := by rw [h0]; rfl
    clear hv hS hl h0
    go_enter Try.func18, Try.ntmps18
    go_wp2_with (go_at_call 20; (with_reducible refine (KV.out _ ((Up.refl w).alloc _ _)).mono ?_); rintro e w1 ⟨rfl, hu⟩; obtain ⟨U1, E1⟩ := call1 w hu; clear hu)
    refine bodyPost_ret (v := .tuple #[.int .i64 0, .int .i64 7]) (by simp [results, Try.results18, go_sem]) rfl ⟨rfl, ?_⟩
    exact U1.out
  · rw [if_neg (by omega)]
    have t1 : ((n : Int) == 0) = false := by simp; omega
    have t2 : (n == 0) = false := by simp; omega
    have g1 : (0 : Int) < n := by omega
    obtain ⟨b, o, e, x0, x1⟩ := hS.head17 h0
    subst e
    generalize (L.getD 0 (0, 0)).2 = x at *
    clear hv hS hl x0
    go_enter Try.func18, Try.ntmps18
    go_upto_region 6 with (go_at_call 20; (with_reducible refine (KV.out _ ((Up.refl w).alloc _ _)).mono ?_); rintro e w1 ⟨rfl, hu⟩; obtain ⟨U1, E1⟩ := call1 w hu; clear hu)
    have y1 := U1.out.keep _ _ _ x1
    go_wp2_with fail
    refine bodyPost_ret (v := .tuple #[.int .i64 x, .int .i64 0]) (by simp [results, Try.results18, go_sem]) rfl ⟨rfl, ?_⟩
    exact U1.out
end Go.Proofs.Ytfcknhpllhkpeaa
