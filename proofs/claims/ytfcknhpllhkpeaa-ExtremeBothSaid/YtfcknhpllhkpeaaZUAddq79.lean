/- Advance, Add, Ask and Merge of package extreme. -/
import Derived.Test.YtfcknhpllhkpeaaRows
import Derived.Test.YtfcknhpllhkpeaaZUAddq77
import Derived.Test.YtfcknhpllhkpeaaZUMrgq76
namespace Go.Proofs.Ytfcknhpllhkpeaa
open Go.RowKit
set_option linter.unusedVariables false

set_option maxHeartbeats 4000000 in
set_option maxRecDepth 100000 in
theorem merge17_up (mx : Bool) (v c now : Int) (n k : Nat) (A : Option Addr) (L : List It) (mx' : Bool) (v' c' now' : Int) (m j : Nat) (B : Option Addr) (M : List It) (hn : n ≤ 40000) (hm : m ≤ 40000) (hk : n ≤ k) (hj : m ≤ j) (w : World) (hS : Sl w A n L) (hT : Sl w B m M) :
    Calls Try.prog 22 #[.agg #[.bool mx, .int .i64 v, .int .i64 c, .int .i64 now, .slice A n k], .agg #[.bool mx', .int .i64 v', .int .i64 c', .int .i64 now', .slice B m j]] w fun e w' => RsX (mgX mx v c now L mx' v' c' now' M) w e w' := by
  have HS := Lib.hid hS
  have HT := Lib.hid hT
  have KV1 := Lib.hid (fun W (hu : Up w W) => validate17_up mx v c now n k A L (by omega) W (hS.up hu))
  have KV2 := Lib.hid (fun W (hu : Up w W) => validate17_up mx' v' c' now' m j B M (by omega) W (hT.up hu))
  unfold stXE at KV1 KV2
  unfold mgX
  by_cases hv : stX mx v c now L = true
  case neg =>
    rw [if_neg hv] at KV1 ⊢
    clear hv hS hT KV2
    go_enter Try.func22, Try.ntmps22
    go_wp2_with (go_at_call 20; (with_reducible refine (KV1.out _ ((((Up.refl w).alloc _ _).alloc _ _).alloc _ _)).mono ?_); rintro e w1 ⟨rfl, hu⟩; obtain ⟨U1, E1⟩ := call3 w hu; clear hu)
    refine bodyPost_ret (v := .tuple #[.agg #[.bool false, .int .i64 0, .int .i64 0, .int .i64 0, .slice none 0 0], .int .i64 2]) (by simp [results, Try.results22, go_sem, E1]) rfl (RsX.no rfl ?_)
    ((repeat (first | (with_reducible exact Up.refl _) | (with_reducible exact U1.out) | (with_reducible refine Up.alloc ?_ _ _) | (with_reducible refine Up.setCell ?_ ?_ _) | (with_reducible refine Up.drewN ?_ _) | (with_reducible refine Up.drew ?_))); all_goals (first | (simp; done) | (simp; omega) | omega))
  rw [if_pos hv] at KV1 ⊢
  by_cases hv2 : stX mx' v' c' now' M = true
  case neg =>
    rw [if_neg hv2] at KV2 ⊢
    clear hv hv2 hS hT
    go_enter Try.func22, Try.ntmps22
    go_wp2_with (first
      | (go_at_call 20; (with_reducible refine (KV1.out _ ((((Up.refl w).alloc _ _).alloc _ _).alloc _ _)).mono ?_); rintro e w1 ⟨rfl, hu⟩; obtain ⟨U1, E1⟩ := call3 w hu; clear hu)
      | (go_at_call 20; (with_reducible refine (KV2.out _ U1.out).mono ?_); rintro e w2 ⟨rfl, hu⟩; obtain ⟨U2, E2⟩ := call3 w hu; clear hu))
    refine bodyPost_ret (v := .tuple #[.agg #[.bool false, .int .i64 0, .int .i64 0, .int .i64 0, .slice none 0 0], .int .i64 2]) (by simp [results, Try.results22, go_sem, E1, E2]) rfl (RsX.no rfl ?_)
    ((repeat (first | (with_reducible exact Up.refl _) | (with_reducible exact U2.out) | (with_reducible refine Up.alloc ?_ _ _) | (with_reducible refine Up.setCell ?_ ?_ _) | (with_reducible refine Up.drewN ?_ _) | (with_reducible refine Up.drew ?_))); all_goals (first | (simp; done) | (simp; omega) | omega))
  rw [if_pos hv2] at KV2 ⊢
  by_cases he : mx = mx' ∧ v = v' ∧ now = now'
  case neg =>
    rw [if_neg he]
    by_cases h1 : mx = mx'
    case neg =>
      clear hv hv2 hS hT he
      have hb : (mx = true ∧ mx' = false) ∨ (mx = false ∧ mx' = true) := by cases mx <;> cases mx' <;> simp_all
      clear h1
      rcases hb with ⟨rfl, rfl⟩ | ⟨rfl, rfl⟩
      all_goals
        go_enter Try.func22, Try.ntmps22
        go_wp2_with (first
          | (go_at_call 20; (with_reducible refine (KV1.out _ ((((Up.refl w).alloc _ _).alloc _ _).alloc _ _)).mono ?_); rintro e w1 ⟨rfl, hu⟩; obtain ⟨U1, E1⟩ := call3 w hu; clear hu)
          | (go_at_call 20; (with_reducible refine (KV2.out _ U1.out).mono ?_); rintro e w2 ⟨rfl, hu⟩; obtain ⟨U2, E2⟩ := call3 w hu; clear hu))
        refine bodyPost_ret (v := .tuple #[.agg #[.bool false, .int .i64 0, .int .i64 0, .int .i64 0, .slice none 0 0], .int .i64 1]) (by simp [results, Try.results22, go_sem, E1, E2]) rfl (RsX.no rfl ?_)
        ((repeat (first | (with_reducible exact Up.refl _) | (with_reducible exact U2.out) | (with_reducible refine Up.alloc ?_ _ _) | (with_reducible refine Up.setCell ?_ ?_ _) | (with_reducible refine Up.drewN ?_ _) | (with_reducible refine Up.drew ?_))); all_goals (first | (simp; done) | (simp; omega) | omega))
    subst h1
    have t1 : (mx != mx) = false := by simp
    by_cases h2 : v = v'
    case neg =>
      have t2 : (v != v') = true := by simp [h2]
      clear hv hv2 hS hT he h2
      go_enter Try.func22, Try.ntmps22
      go_wp2_with (first
        | (go_at_call 20; (with_reducible refine (KV1.out _ ((((Up.refl w).alloc _ _).alloc _ _).alloc _ _)).mono ?_); rintro e w1 ⟨rfl, hu⟩; obtain ⟨U1, E1⟩ := call3 w hu; clear hu)
        | (go_at_call 20; (with_reducible refine (KV2.out _ U1.out).mono ?_); rintro e w2 ⟨rfl, hu⟩; obtain ⟨U2, E2⟩ := call3 w hu; clear hu))
      refine bodyPost_ret (v := .tuple #[.agg #[.bool false, .int .i64 0, .int .i64 0, .int .i64 0, .slice none 0 0], .int .i64 1]) (by simp [results, Try.results22, go_sem, E1, E2]) rfl (RsX.no rfl ?_)
      ((repeat (first | (with_reducible exact Up.refl _) | (with_reducible exact U2.out) | (with_reducible refine Up.alloc ?_ _ _) | (with_reducible refine Up.setCell ?_ ?_ _) | (with_reducible refine Up.drewN ?_ _) | (with_reducible refine Up.drew ?_))); all_goals (first | (simp; done) | (simp; omega) | omega))
    subst h2
    have t2 : (v != v) = false := by simp
    have t3 : (now != now') = true := by simp; intro h3; exact he ⟨rfl, rfl, h3⟩
    clear hv hv2 hS hT he
    go_enter Try.func22, Try.ntmps22
    go_wp2_with (first
      | (go_at_call 20; (with_reducible refine (KV1.out _ ((((Up.refl w).alloc _ _).alloc _ _).alloc _ _)).mono ?_); rintro e w1 ⟨rfl, hu⟩; obtain ⟨U1, E1⟩ := call3 w hu; clear hu)
      | (go_at_call 20; (with_reducible refine (KV2.out _ U1.out).mono ?_); rintro e w2 ⟨rfl, hu⟩; obtain ⟨U2, E2⟩ := call3 w hu; clear hu))
    refine bodyPost_ret (v := .tuple #[.agg #[.bool false, .int .i64 0, .int .i64 0, .int .i64 0, .slice none 0 0], .int .i64 1]) (by simp [results, Try.results22, go_sem, E1, E2]) rfl (RsX.no rfl ?_)
    ((repeat (first | (with_reducible exact Up.refl _) | (with_reducible exact U2.out) | (with_reducible refine Up.alloc ?_ _ _) | (with_reducible refine Up.setCell ?_ ?_ _) | (with_reducible refine Up.drewN ?_ _) | (with_reducible refine Up.drew ?_))); all_goals (first | (simp; done) | (simp; omega) | omega))
  rw [if_pos he]
  obtain ⟨rfl, rfl, rfl⟩ := he
  have t1 : (mx != mx) = false := by simp
  have t2 : (v != v) = false := by simp
  have t3 : (now != now) = false := by simp
  have hd := (stX_is hv).2.2.2
  have hd2 := (stX_is hv2).2.2.2
  obtain ⟨q, hq⟩ : ∃ z, z = max c c' := ⟨_, rfl⟩
  have hmax : ∀ (ts : Array TypeId) (ty : TypeId) (W : World), (Builtin.max_ ts ty #[.int .i64 c, .int .i64 c']).run Try.prog W = .ok (.int .i64 q) W := fun ts ty W => by
    rw [run_max_int2, hq]
    congr 2
    by_cases g : c' > c
    · rw [if_pos g]; omega
    · rw [if_neg g]; omega
  rw [← hq]
  clear hq
  have KG := Lib.hid (fun W (hu : Up w W) => (merged17_up mx n k A L m j B M hn hm hk hj hd hd2 W (hS.up hu) (hT.up hu)).mono (fun e w' h => show ∃ A' k', e = .returned (.slice A' (kpX mx (L ++ M)).length k') ∧ Own W w' (.slice A' (kpX mx (L ++ M)).length k') (kpX mx (L ++ M)).length (kpX mx (L ++ M)) ∧ Up W w' from by
    obtain ⟨A', n', k', h1, h2, h3⟩ := h
    obtain rfl := h2.all17.2.1
    exact ⟨A', k', h1, h2, h3⟩))
  generalize kpX mx (L ++ M) = Z at *
  generalize Z.length = z at *
  have KH := Lib.hid (fun A3 k3 W => holding17_up mx v q now n k A z k3 A3 W)
  clear hv hv2 hS hT hd hd2
  by_cases hc : (z : Int) ≤ q
  · simp only [if_pos hc] at KH
    rw [if_pos hc]
    clear hc
    go_enter Try.func22, Try.ntmps22
    go_upto_region 10 with (first
      | (go_at_call 20; (with_reducible refine (KV1.out _ ((((Up.refl w).alloc _ _).alloc _ _).alloc _ _)).mono ?_); rintro e w1 ⟨rfl, hu⟩; obtain ⟨U1, E1⟩ := call3 w hu; clear hu)
      | (go_at_call 20; (with_reducible refine (KV2.out _ U1.out).mono ?_); rintro e w2 ⟨rfl, hu⟩; obtain ⟨U2, E2⟩ := call3 w hu; clear hu))
    refine (show ∀ ws : World, ws = _ → Code.wp _ _ _ _ ws from fun ws hws => ?_) _ rfl
    obtain ⟨Us, Es⟩ := hold3 w w.heap.size (w.heap.size + 1) (w.heap.size + 2) (Up.of_eq hws)
    clear hws
    have d0 : ws.cell? ⟨w.heap.size, 0, none⟩ = some (.bool mx) := by simp [go_sem, Es, E2, E1]
    have d1 : ws.cell? ⟨w.heap.size, 1, none⟩ = some (.int .i64 v) := by simp [go_sem, Es, E2, E1]
    have d3 : ws.cell? ⟨w.heap.size, 3, none⟩ = some (.int .i64 now) := by simp [go_sem, Es, E2, E1]
    have d4 : ws.cell? ⟨w.heap.size, 4, none⟩ = some (.slice A n k) := by simp [go_sem, Es, E2, E1]
    have d2 : ws.cell? ⟨w.heap.size, 2, none⟩ = some (.int .i64 q) := by rw [Es.1.1]; exact cell_set (u := .int .i64 c) (by simp [go_sem, E2, E1])
    have e4 : ws.cell? ⟨w.heap.size + 1, 4, none⟩ = some (.slice B m j) := by simp [go_sem, Es, E2, E1]
    have f0 : ws.cell? ⟨w.heap.size + 2, 0, none⟩ = some (.bool false) := by simp [go_sem, Es, E2, E1]
    have f1 : ws.cell? ⟨w.heap.size + 2, 1, none⟩ = some (.int .i64 0) := by simp [go_sem, Es, E2, E1]
    have f2 : ws.cell? ⟨w.heap.size + 2, 2, none⟩ = some (.int .i64 0) := by simp [go_sem, Es, E2, E1]
    have f3 : ws.cell? ⟨w.heap.size + 2, 3, none⟩ = some (.int .i64 0) := by simp [go_sem, Es, E2, E1]
    have f4 : ws.cell? ⟨w.heap.size + 2, 4, none⟩ = some (.slice none 0 0) := by simp [go_sem, Es, E2, E1]
    have zb0 : w.heap.size < ws.heap.size := Es.2.1
    have zb1 : w.heap.size + 1 < ws.heap.size := Es.2.2.1
    have zb2 : w.heap.size + 2 < ws.heap.size := Es.2.2.2
    clear Es E1 E2
    go_region_held3 (KB2 w.heap.size (w.heap.size + 1) w ws) (first | (with_reducible exact KB2.start Us) | (with_reducible exact KB2.next (by assumption) (by assumption)) | (repeat (first | (with_reducible assumption) | (with_reducible refine KB2.set ?_)))) (first
      | (go_at_call 46; (with_reducible refine (KG.out _ (KB2.to (by assumption))).mono ?_); rintro e w3 ⟨A3, k3, rfl, hO3, hu3⟩; have HO3 := Lib.hid hO3; obtain ⟨U3, E3⟩ := hold1 w (w.heap.size + 2) hu3; clear hO3)
      | (go_at_call 40; (with_reducible refine (KH.out _ _ _).mono ?_); rintro e w4 ⟨rfl, hu4⟩; obtain ⟨U4, E4⟩ := hold1 w (w.heap.size + 2) hu4; have zf := fun o => U4.out.ownGe (show w.heap.size ≤ w.heap.size + 2 by omega) o; have HR := Lib.hid (HO3.out.all17.2.up hu4)))
    all_goals
      have HN : Hid (∀ b o, A3 = some ⟨b, o, none⟩ → w.heap.size + 2 < b) := Lib.hid (fun b o e => by have := HO3.out.nw b o e; simp at this; omega)
      have HK := Lib.hid HO3.out.all17.1.1
      go_wp2_with fail
      have g0 : w4.cell? ⟨w.heap.size + 2, 0, none⟩ = some (.bool false) := by rw [E4.1, E3.1]; exact f0
      have g1 : w4.cell? ⟨w.heap.size + 2, 1, none⟩ = some (.int .i64 0) := by rw [E4.1, E3.1]; exact f1
      have g2 : w4.cell? ⟨w.heap.size + 2, 2, none⟩ = some (.int .i64 0) := by rw [E4.1, E3.1]; exact f2
      have g3 : w4.cell? ⟨w.heap.size + 2, 3, none⟩ = some (.int .i64 0) := by rw [E4.1, E3.1]; exact f3
      have g4 : w4.cell? ⟨w.heap.size + 2, 4, none⟩ = some (.slice none 0 0) := by rw [E4.1, E3.1]; exact f4
      refine bodyPost_ret (v := .tuple #[.agg #[.bool mx, .int .i64 v, .int .i64 q, .int .i64 now, .slice A3 z k3], .int .i64 0]) (by simp [results, Try.results22, go_sem, show w.heap.size + 1 + 1 = w.heap.size + 2 from rfl, g0, g1, g2, g3, g4]) rfl (RsX.yes rfl ?_ ?_ ?_)
      · exact ⟨HK.out, fun b o e => by have := HN.out b o e; omega⟩
      · (repeat (first | (with_reducible exact HR.out) | (with_reducible refine Sl.off ?_ (fun b o e => by have := HN.out b o e; omega) _)))
      · ((repeat (first | (with_reducible exact Up.refl _) | (with_reducible exact U4.out) | (with_reducible refine Up.alloc ?_ _ _) | (with_reducible refine Up.setCell ?_ ?_ _) | (with_reducible refine Up.drewN ?_ _) | (with_reducible refine Up.drew ?_))); all_goals (first | (simp; done) | (simp; omega) | omega))
  · simp only [if_neg hc] at KH
    rw [if_neg hc]
    clear hc
    go_enter Try.func22, Try.ntmps22
    go_upto_region 10 with (first
      | (go_at_call 20; (with_reducible refine (KV1.out _ ((((Up.refl w).alloc _ _).alloc _ _).alloc _ _)).mono ?_); rintro e w1 ⟨rfl, hu⟩; obtain ⟨U1, E1⟩ := call3 w hu; clear hu)
      | (go_at_call 20; (with_reducible refine (KV2.out _ U1.out).mono ?_); rintro e w2 ⟨rfl, hu⟩; obtain ⟨U2, E2⟩ := call3 w hu; clear hu))
    refine (show ∀ ws : World, ws = _ → Code.wp _ _ _ _ ws from fun ws hws => ?_) _ rfl
    obtain ⟨Us, Es⟩ := hold3 w w.heap.size (w.heap.size + 1) (w.heap.size + 2) (Up.of_eq hws)
    clear hws
    have d0 : ws.cell? ⟨w.heap.size, 0, none⟩ = some (.bool mx) := by simp [go_sem, Es, E2, E1]
    have d1 : ws.cell? ⟨w.heap.size, 1, none⟩ = some (.int .i64 v) := by simp [go_sem, Es, E2, E1]
    have d3 : ws.cell? ⟨w.heap.size, 3, none⟩ = some (.int .i64 now) := by simp [go_sem, Es, E2, E1]
    have d4 : ws.cell? ⟨w.heap.size, 4, none⟩ = some (.slice A n k) := by simp [go_sem, Es, E2, E1]
    have d2 : ws.cell? ⟨w.heap.size, 2, none⟩ = some (.int .i64 q) := by rw [Es.1.1]; exact cell_set (u := .int .i64 c) (by simp [go_sem, E2, E1])
    have e4 : ws.cell? ⟨w.heap.size + 1, 4, none⟩ = some (.slice B m j) := by simp [go_sem, Es, E2, E1]
    have f0 : ws.cell? ⟨w.heap.size + 2, 0, none⟩ = some (.bool false) := by simp [go_sem, Es, E2, E1]
    have f1 : ws.cell? ⟨w.heap.size + 2, 1, none⟩ = some (.int .i64 0) := by simp [go_sem, Es, E2, E1]
    have f2 : ws.cell? ⟨w.heap.size + 2, 2, none⟩ = some (.int .i64 0) := by simp [go_sem, Es, E2, E1]
    have f3 : ws.cell? ⟨w.heap.size + 2, 3, none⟩ = some (.int .i64 0) := by simp [go_sem, Es, E2, E1]
    have f4 : ws.cell? ⟨w.heap.size + 2, 4, none⟩ = some (.slice none 0 0) := by simp [go_sem, Es, E2, E1]
    have zb0 : w.heap.size < ws.heap.size := Es.2.1
    have zb1 : w.heap.size + 1 < ws.heap.size := Es.2.2.1
    have zb2 : w.heap.size + 2 < ws.heap.size := Es.2.2.2
    clear Es E1 E2
    go_region_held3 (KB2 w.heap.size (w.heap.size + 1) w ws) (first | (with_reducible exact KB2.start Us) | (with_reducible exact KB2.next (by assumption) (by assumption)) | (repeat (first | (with_reducible assumption) | (with_reducible refine KB2.set ?_)))) (first
      | (go_at_call 46; (with_reducible refine (KG.out _ (KB2.to (by assumption))).mono ?_); rintro e w3 ⟨A3, k3, rfl, hO3, hu3⟩; have HO3 := Lib.hid hO3; obtain ⟨U3, E3⟩ := hold1 w (w.heap.size + 2) hu3; clear hO3)
      | (go_at_call 40; (with_reducible refine (KH.out _ _ _).mono ?_); rintro e w4 ⟨rfl, hu4⟩; obtain ⟨U4, E4⟩ := hold1 w (w.heap.size + 2) hu4; have zf := fun o => U4.out.ownGe (show w.heap.size ≤ w.heap.size + 2 by omega) o; have HR := Lib.hid (HO3.out.all17.2.up hu4)))
    all_goals
      have HN : Hid (∀ b o, A3 = some ⟨b, o, none⟩ → w.heap.size + 2 < b) := Lib.hid (fun b o e => by have := HO3.out.nw b o e; simp at this; omega)
      have HK := Lib.hid HO3.out.all17.1.1
      go_wp2_with fail
      have g0 : w4.cell? ⟨w.heap.size + 2, 0, none⟩ = some (.bool false) := by rw [E4.1, E3.1]; exact f0
      have g1 : w4.cell? ⟨w.heap.size + 2, 1, none⟩ = some (.int .i64 0) := by rw [E4.1, E3.1]; exact f1
      have g2 : w4.cell? ⟨w.heap.size + 2, 2, none⟩ = some (.int .i64 0) := by rw [E4.1, E3.1]; exact f2
      have g3 : w4.cell? ⟨w.heap.size + 2, 3, none⟩ = some (.int .i64 0) := by rw [E4.1, E3.1]; exact f3
      have g4 : w4.cell? ⟨w.heap.size + 2, 4, none⟩ = some (.slice none 0 0) := by rw [E4.1, E3.1]; exact f4
      refine bodyPost_ret (v := .tuple #[.agg #[.bool false, .int .i64 0, .int .i64 0, .int .i64 0, .slice none 0 0], .int .i64 5]) (by simp [results, Try.results22, go_sem, show w.heap.size + 1 + 1 = w.heap.size + 2 from rfl, g0, g1, g2, g3, g4]) rfl (RsX.no rfl ?_)
      ((repeat (first | (with_reducible exact Up.refl _) | (with_reducible exact U4.out) | (with_reducible refine Up.alloc ?_ _ _) | (with_reducible refine Up.setCell ?_ ?_ _) | (with_reducible refine Up.drewN ?_ _) | (with_reducible refine Up.drew ?_))); all_goals (first | (simp; done) | (simp; omega) | omega))
end Go.Proofs.Ytfcknhpllhkpeaa
