/- Advance, Add, Ask and Merge of the reference of layer 17. -/
import Derived.Test.YtfcknhpllhkpeaaRows
import Derived.Test.YtfcknhpllhkpeaaZUAddq79
import Derived.Test.YtfcknhpllhkpeaaZURefq81
import Derived.Test.YtfcknhpllhkpeaaZUValq68
namespace Go.Proofs.Ytfcknhpllhkpeaa
open Go.RowKit
set_option linter.unusedVariables false

set_option maxHeartbeats 4000000 in
set_option maxRecDepth 100000 in
theorem rmerge17_up (mx : Bool) (v c now : Int) (n k : Nat) (A : Option Addr) (L : List It) (mx' : Bool) (v' c' now' : Int) (m j : Nat) (B : Option Addr) (M : List It) (hn : n ≤ 40000) (hm : m ≤ 40000) (hk : n ≤ k) (hj : m ≤ j) (w : World) (hS : Sl w A n L) (hT : Sl w B m M) :
    Calls Try.prog 23 #[.agg #[.bool mx, .int .i64 v, .int .i64 c, .int .i64 now, .slice A n k], .agg #[.bool mx', .int .i64 v', .int .i64 c', .int .i64 now', .slice B m j]] w fun e w' => RsX (mgX mx v c now L mx' v' c' now' M) w e w' := by
  have HS := Lib.hid hS
  have HT := Lib.hid hT
  have KV1 := Lib.hid (fun W (hu : Up w W) => rvalidate17_up mx v c now n k A L (by omega) W (hS.up hu))
  have KV2 := Lib.hid (fun W (hu : Up w W) => rvalidate17_up mx' v' c' now' m j B M (by omega) W (hT.up hu))
  unfold stXE at KV1 KV2
  unfold mgX
  by_cases hv : stX mx v c now L = true
  case neg =>
    rw [if_neg hv] at KV1 ⊢
    clear hv hS hT KV2
    go_enter Try.func23, Try.ntmps23
    go_wp2_with (go_at_call 21; (with_reducible refine (KV1.out _ ((((Up.refl w).alloc _ _).alloc _ _).alloc _ _)).mono ?_); rintro e w1 ⟨rfl, hu⟩; obtain ⟨U1, E1⟩ := call3 w hu; clear hu)
    refine bodyPost_ret (v := .tuple #[.agg #[.bool false, .int .i64 0, .int .i64 0, .int .i64 0, .slice none 0 0], .int .i64 2]) (by simp [results, Try.results23, go_sem, E1]) rfl (RsX.no rfl ?_)
    ((repeat (first | (with_reducible exact Up.refl _) | (with_reducible exact U1.out) | (with_reducible refine Up.alloc ?_ _ _) | (with_reducible refine Up.setCell ?_ ?_ _) | (with_reducible refine Up.drewN ?_ _) | (with_reducible refine Up.drew ?_))); all_goals (first | (simp; done) | (simp; omega) | omega))
  rw [if_pos hv] at KV1 ⊢
  by_cases hv2 : stX mx' v' c' now' M = true
  case neg =>
    rw [if_neg hv2] at KV2 ⊢
    clear hv hv2 hS hT
    go_enter Try.func23, Try.ntmps23
    go_wp2_with (first
      | (go_at_call 21; (with_reducible refine (KV1.out _ ((((Up.refl w).alloc _ _).alloc _ _).alloc _ _)).mono ?_); rintro e w1 ⟨rfl, hu⟩; obtain ⟨U1, E1⟩ := call3 w hu; clear hu)
      | (go_at_call 21; (with_reducible refine (KV2.out _ U1.out).mono ?_); rintro e w2 ⟨rfl, hu⟩; obtain ⟨U2, E2⟩ := call3 w hu; clear hu))
    refine bodyPost_ret (v := .tuple #[.agg #[.bool false, .int .i64 0, .int .i64 0, .int .i64 0, .slice none 0 0], .int .i64 2]) (by simp [results, Try.results23, go_sem, E1, E2]) rfl (RsX.no rfl ?_)
    ((repeat (first | (with_reducible exact Up.refl _) | (with_reducible exact U2.out) | (with_reducible refine Up.alloc ?_ _ _) | (with_reducible refine Up.setCell ?_ ?_ _) | (with_reducible refine Up.drewN ?_ _) | (with_reducible refine Up.drew ?_))); all_goals (first | (simp; done) | (simp; omega) | omega))
  rw [if_pos hv2] at KV2 ⊢
  by_cases he : mx = mx' ∧ v = v' ∧ now = now'
  case neg =>
    rw [if_neg he]
    by_cases h1 : mx = mx'
    case neg =>
      clear hv hv2 hS hT he
      have hb : (mx = true ∧ mx' = false) ∨ (mx = false ∧ mx' = true) := by cases mx <;> cases mx' <;> simp_all
      clear h1
      rcases hb with ⟨rfl, rfl⟩ | ⟨rfl, rfl⟩
      all_goals
        go_enter Try.func23, Try.ntmps23
        go_wp2_with (first
          | (go_at_call 21; (with_reducible refine (KV1.out _ ((((Up.refl w).alloc _ _).alloc _ _).alloc _ _)).mono ?_); rintro e w1 ⟨rfl, hu⟩; obtain ⟨U1, E1⟩ := call3 w hu; clear hu)
          | (go_at_call 21; (with_reducible refine (KV2.out _ U1.out).mono ?_); rintro e w2 ⟨rfl, hu⟩; obtain ⟨U2, E2⟩ := call3 w hu; clear hu))
        refine bodyPost_ret (v := .tuple #[.agg #[.bool false, .int .i64 0, .int .i64 0, .int .i64 0, .slice none 0 0], .int .i64 1]) (by simp [results, Try.results23, go_sem, E1, E2]) rfl (RsX.no rfl ?_)
        ((repeat (first | (with_reducible exact Up.refl _) | (with_reducible exact U2.out) | (with_reducible refine Up.alloc ?_ _ _) | (with_reducible refine Up.setCell ?_ ?_ _) | (with_reducible refine Up.drewN ?_ _) | (with_reducible refine Up.drew ?_))); all_goals (first | (simp; done) | (simp; omega) | omega))
    subst h1
    have t1 : (mx != mx) = false := by simp
    by_cases h2 : v = v'
    case neg =>
      have t2 : (v != v') = true := by simp [h2]
      clear hv hv2 hS hT he h2
      go_enter Try.func23, Try.ntmps23
      go_wp2_with (first
        | (go_at_call 21; (with_reducible refine (KV1.out _ ((((Up.refl w).alloc _ _).alloc _ _).alloc _ _)).mono ?_); rintro e w1 ⟨rfl, hu⟩; obtain ⟨U1, E1⟩ := call3 w hu; clear hu)
        | (go_at_call 21; (with_reducible refine (KV2.out _ U1.out).mono ?_); rintro e w2 ⟨rfl, hu⟩; obtain ⟨U2, E2⟩ := call3 w hu; clear hu))
      refine bodyPost_ret (v := .tuple #[.agg #[.bool false, .int .i64 0, .int .i64 0, .int .i64 0, .slice none 0 0], .int .i64 1]) (by simp [results, Try.results23, go_sem, E1, E2]) rfl (RsX.no rfl ?_)
      ((repeat (first | (with_reducible exact Up.refl _) | (with_reducible exact U2.out) | (with_reducible refine Up.alloc ?_ _ _) | (with_reducible refine Up.setCell ?_ ?_ _) | (with_reducible refine Up.drewN ?_ _) | (with_reducible refine Up.drew ?_))); all_goals (first | (simp; done) | (simp; omega) | omega))
    subst h2
    have t2 : (v != v) = false := by simp
    have t3 : (now != now') = true := by simp; intro h3; exact he ⟨rfl, rfl, h3⟩
    clear hv hv2 hS hT he
    go_enter Try.func23, Try.ntmps23
    go_wp2_with (first
      | (go_at_call 21; (with_reducible refine (KV1.out _ ((((Up.refl w).alloc _ _).alloc _ _).alloc _ _)).mono ?_); rintro e w1 ⟨rfl, hu⟩; obtain ⟨U1, E1⟩ := call3 w hu; clear hu)
      | (go_at_call 21; (with_reducible refine (KV2.out _ U1.out).mono ?_); rintro e w2 ⟨rfl, hu⟩; obtain ⟨U2, E2⟩ := call3 w hu; clear hu))
    refine bodyPost_ret (v := .tuple #[.agg #[.bool false, .int .i64 0, .int .i64 0, .int .i64 0, .slice none 0 0], .int .i64 1]) (by simp [results, Try.results23, go_sem, E1, E2]) rfl (RsX.no rfl ?_)
    ((repeat (first | (with_reducible exact Up.refl _) | (with_reducible exact U2.out) | (with_reducible refine Up.alloc ?_ _ _) | (with_reducible refine Up.setCell ?_ ?_ _) | (with_reducible refine Up.drewN ?_ _) | (with_reducible refine Up.drew ?_))); all_goals (first | (simp; done) | (simp; omega) | omega))
  rw [if_pos he]
  obtain ⟨rfl, rfl, rfl⟩ := he
  have t1 : (mx != mx) = false := by simp
  have t2 : (v != v) = false := by simp
  have t3 : (now != now) = false := by simp
  have hd := (stX_is hv).2.2.2
  have hd2 := (stX_is hv2).2.2.2
  obtain ⟨q, hq⟩ : ∃ z, z = max c c' := ⟨_, rfl⟩
  have hmax : ∀ (ts : Array TypeId) (ty : TypeId) (W : World), (Builtin.max_ ts ty #[.int .i64 c, .int .i64 c']).run Try.prog W = .ok (.int .i64 q) W := fun ts ty W => by
    rw [run_max_int2, hq]
    congr 2
    by_cases g : c' > c
    · rw [if_pos g]; omega
    · rw [if_neg g]; omega
  rw [← hq]
  clear hq
  have KK := Lib.hid (fun W A' k' (h : Sl W A' (n + m) (L ++ M)) => kept17_up mx (n + m) k' A' (L ++ M) (by omega) W h)
  unfold RwX at KK
  generalize kpX mx (L ++ M) = Z at *
  have HY : Hid ((Z.length : Int) ≤ q → (if (Z.length : Int) ≤ q then (mx, v, q, now, Z, 0) else noX 5 : QX) = (mx, v, q, now, Z, 0)) := Lib.hid (fun h => if_pos h)
  have HX : Hid (¬ (Z.length : Int) ≤ q → (if (Z.length : Int) ≤ q then (mx, v, q, now, Z, 0) else noX 5 : QX) = noX 5) := Lib.hid (fun h => if_neg h)
  generalize (if (Z.length : Int) ≤ q then (mx, v, q, now, Z, 0) else noX 5 : QX) = QQ at *
  clear hv hv2 hS hT hd hd2
  go_enter Try.func23, Try.ntmps23
  go_upto_region 9 with (first
    | (go_at_call 21; (with_reducible refine (KV1.out _ ((((Up.refl w).alloc _ _).alloc _ _).alloc _ _)).mono ?_); rintro e w1 ⟨rfl, hu⟩; obtain ⟨U1, E1⟩ := call3 w hu; clear hu)
    | (go_at_call 21; (with_reducible refine (KV2.out _ U1.out).mono ?_); rintro e w2 ⟨rfl, hu⟩; obtain ⟨U2, E2⟩ := call3 w hu; clear hu))
  refine (show ∀ ws : World, ws = _ → Code.wp _ _ _ _ ws from fun ws hws => ?_) _ rfl
  obtain ⟨Us, Es⟩ := hold3 w w.heap.size (w.heap.size + 1) (w.heap.size + 2) (Up.of_eq hws)
  clear hws
  have zb0 : w.heap.size < ws.heap.size := Es.2.1
  have zb1 : w.heap.size + 1 < ws.heap.size := Es.2.2.1
  have zb2 : w.heap.size + 2 < ws.heap.size := Es.2.2.2
  have hSt : Sl ws A n L := HS.out.up Us.out
  have hTt : Sl ws B m M := HT.out.up Us.out
  obtain ⟨v1, w6, r1, o1, u1⟩ := append0_run 22 ws (ws.alloc (.cells #[] 41)).drew ws.heap.size ((own_empty' (w := ws) rfl (Nat.le_refl _)).of_up (Up.refl _).drew) ((Up.refl ws).alloc _ _).drew A n k L (hSt.up ((Up.refl ws).alloc _ _).drew) (by omega)
  obtain ⟨A1, k1, rfl, _, _⟩ := o1.sl
  have v1 : Up ws w6 := ((Up.refl ws).alloc _ _).drew.trans u1
  obtain ⟨v2, w7, r2, o2, u2⟩ := append_run 22 ws w6 _ n L o1 v1 B m j M (hTt.up v1) (by omega)
  obtain ⟨A2, k2, rfl, _, _⟩ := o2.sl
  have R1 := Lib.hid r1
  have R2 := Lib.hid r2
  have V6 := Lib.hid v1
  have V7 := Lib.hid u2
  have O7 := Lib.hid o2.all17.2
  clear r1 r2 o1 o2 u1 u2 v1 hSt hTt
  go_region_held3 (KB2 w.heap.size (w.heap.size + 1) ws ws) (first | (with_reducible exact KB2.start (Lib.hid (Up.refl ws))) | (with_reducible exact KB2.old17 (Up.refl ws) (Hid.out (by assumption)) zb0 zb1) | (repeat (first | (with_reducible exact KB2.start (Lib.hid (Up.refl ws))) | (with_reducible exact KB2.old17 (Up.refl ws) (Hid.out (by assumption)) zb0 zb1) | (with_reducible exact KB2.old17 (Up.refl ws) (Up.refl ws) zb0 zb1) | (with_reducible refine KB2.next ((Up.refl _).alloc _ _) ?_) | (with_reducible refine KB2.next (Up.refl _).drew ?_) | (with_reducible assumption)))) (first
    | ((with_reducible refine step_append_run rfl (.tmp 41) (.tmp 43) _ rfl _ _ ?_ ?_ _ _ R1.out ?_); rfl; rfl)
    | ((with_reducible refine step_append_run rfl (.tmp 44) (.tmp 46) _ rfl _ _ ?_ ?_ _ _ R2.out ?_); rfl; rfl)
    | (go_at_call 28; (with_reducible refine (KK.out _ _ _ O7.out).mono ?_); rintro e w8 ⟨A8, n8, k8, rfl, hO8, hu8⟩; have HO8 := Lib.hid (hO8.weak17 (w0 := ws) V7.out.size); have HU8 := Lib.hid (V7.out.trans hu8); clear hO8 hu8))
  all_goals
    obtain ⟨U8, E8⟩ := hold3 w w.heap.size (w.heap.size + 1) (w.heap.size + 2) HU8.out
    obtain ⟨⟨hk8, hnw⟩, hS8⟩ := HO8.out.all17
    have HN : Hid (∀ b o, A8 = some ⟨b, o, none⟩ → w.heap.size + 2 < b) := Lib.hid (fun b o e => by have := hnw b o e; omega)
    have HK := Lib.hid hk8
    have HR := Lib.hid hS8
    have hl8 := hS8.1
    rw [hl8] at HX HY
    have y8 := fun o => U8.out.ownGe (show w.heap.size ≤ w.heap.size + 2 by omega) o
    clear hnw hk8 hS8 HO8 HU8 KK R1 R2 V6 V7 O7
    by_cases hc : (n8 : Int) ≤ q
    · obtain rfl := HY.out hc
      have f1 : decide (q < (n8 : Int)) = false := decide_eq_false (by omega)
      clear hc hl8 HX HY
      go_wp2_with fail
      refine bodyPost_ret (v := .tuple #[.agg #[.bool mx, .int .i64 v, .int .i64 q, .int .i64 now, .slice A8 n8 k8], .int .i64 0]) (by simp [results, Try.results23, go_sem, E1, E2, Es, E8]) rfl (RsX.yes rfl ?_ ?_ ?_)
      · exact ⟨HK.out, fun b o e => by have := HN.out b o e; omega⟩
      · (repeat (first | (with_reducible exact HR.out) | (with_reducible refine Sl.off ?_ (fun b o e => by have := HN.out b o e; omega) _)))
      · ((repeat (first | (with_reducible exact Up.refl _) | (with_reducible exact U8.out) | (with_reducible refine Up.alloc ?_ _ _) | (with_reducible refine Up.setCell ?_ ?_ _) | (with_reducible refine Up.drewN ?_ _) | (with_reducible refine Up.drew ?_))); all_goals (first | (simp; done) | (simp; omega) | omega))
    · obtain rfl := HX.out (by omega)
      have f1 : decide (q < (n8 : Int)) = true := decide_eq_true (by omega)
      clear hc hl8 HX HY
      go_wp2_with fail
      refine bodyPost_ret (v := .tuple #[.agg #[.bool false, .int .i64 0, .int .i64 0, .int .i64 0, .slice none 0 0], .int .i64 5]) (by simp [results, Try.results23, go_sem, E1, E2, Es, E8]) rfl (RsX.no rfl ?_)
      ((repeat (first | (with_reducible exact Up.refl _) | (with_reducible exact U8.out) | (with_reducible refine Up.alloc ?_ _ _) | (with_reducible refine Up.setCell ?_ ?_ _) | (with_reducible refine Up.drewN ?_ _) | (with_reducible refine Up.drew ?_))); all_goals (first | (simp; done) | (simp; omega) | omega))
end Go.Proofs.Ytfcknhpllhkpeaa
