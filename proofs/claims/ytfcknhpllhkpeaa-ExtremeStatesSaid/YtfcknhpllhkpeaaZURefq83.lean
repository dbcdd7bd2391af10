/- Advance, Add, Ask and Merge of the reference of layer 17. -/
import Derived.Test.YtfcknhpllhkpeaaRows
import Derived.Test.YtfcknhpllhkpeaaZELive2q37
import Derived.Test.YtfcknhpllhkpeaaZGCallq63
import Derived.Test.YtfcknhpllhkpeaaZUMrgq74
import Derived.Test.YtfcknhpllhkpeaaZURefq81
import Derived.Test.YtfcknhpllhkpeaaZUStq50
import Derived.Test.YtfcknhpllhkpeaaZUValq68
namespace Go.Proofs.Ytfcknhpllhkpeaa
open Go.RowKit
set_option linter.unusedVariables false

theorem stX_val {mx : Bool} {v c now : Int} {L : List It} (h : stX mx v c now L = true) {t : Int} (h1 : now ≤ t) (h2 : t ≤ 16777216) : valB L t = true := by
  obtain ⟨_, _, h3, h4, h5⟩ := stX_in h
  refine valB_good (tickB_yes (by omega) h2) (fun j hj => ⟨(h4 _ (mem_getDT hj)).1, by have := (h4 _ (mem_getDT hj)).2.2; omega, fun h0 => ?_⟩)
  have := pw_chain h5 (i := j - 1) (by omega)
  rw [show j - 1 + 1 = j by omega] at this
  omega
theorem livE_yes17 {L : List It} {t v : Int} (h : (valB L t && winB v) = true) : livE L t v = livL L t v := by unfold livE; rw [h]; rfl
set_option maxHeartbeats 4000000 in
set_option maxRecDepth 100000 in
theorem radvance17_up (mx : Bool) (v c now : Int) (n k : Nat) (A : Option Addr) (L : List It) (t : Int) (hn : n ≤ 40000) (hk : n ≤ k) (w : World) (hS : Sl w A n L) :
    Calls Try.prog 15 #[.agg #[.bool mx, .int .i64 v, .int .i64 c, .int .i64 now, .slice A n k], .int .i64 t] w fun e w' => RsX (avX mx v c now L t) w e w' := by
  have hn : n ≤ 100000 := by omega
  have HS := Lib.hid hS
  have KV := Lib.hid (fun W (hu : Up w W) => rvalidate17_up mx v c now n k A L hn W (hS.up hu))
  unfold stXE at KV
  unfold avX
  by_cases hv : stX mx v c now L = true
  case neg =>
    rw [if_neg hv] at KV ⊢
    clear hv hS
    go_enter Try.func15, Try.ntmps15
    go_wp2_with (go_at_call 21; (with_reducible refine (KV.out _ (((Up.refl w).alloc _ _).alloc _ _)).mono ?_); rintro e w1 ⟨rfl, hu⟩; obtain ⟨U1, E1⟩ := call2 w hu; clear hu)
    refine bodyPost_ret (v := .tuple #[.agg #[.bool false, .int .i64 0, .int .i64 0, .int .i64 0, .slice none 0 0], .int .i64 2]) (by simp [results, Try.results15, go_sem, E1]) rfl (RsX.no rfl ?_)
    ((repeat (first | (with_reducible exact Up.refl _) | (with_reducible exact U1.out) | (with_reducible refine Up.alloc ?_ _ _) | (with_reducible refine Up.setCell ?_ ?_ _) | (with_reducible refine Up.drewN ?_ _) | (with_reducible refine Up.drew ?_))); all_goals (first | (simp; done) | (simp; omega) | omega))
  rw [if_pos hv] at KV ⊢
  obtain ⟨ht, hw, hn2, hin, ha⟩ := stX_in hv
  by_cases h : t < now ∨ 16777216 < t
  case pos =>
    rw [if_pos h]
    have KA := Lib.hid (fun W => rback_any now t W)
    unfold backE at KA
    rw [if_pos h] at KA
    clear hv hS h ht hw hn2 hin ha
    go_enter Try.func15, Try.ntmps15
    go_wp2_with (first
      | (go_at_call 21; (with_reducible refine (KV.out _ (((Up.refl w).alloc _ _).alloc _ _)).mono ?_); rintro e w1 ⟨rfl, hu⟩; obtain ⟨U1, E1⟩ := call2 w hu; clear hu)
      | (go_at_call 35; (with_reducible refine (KA.out _).mono ?_); rintro e w' ⟨rfl, rfl⟩))
    refine bodyPost_ret (v := .tuple #[.agg #[.bool false, .int .i64 0, .int .i64 0, .int .i64 0, .slice none 0 0], .int .i64 3]) (by simp [results, Try.results15, go_sem, E1]) rfl (RsX.no rfl ?_)
    ((repeat (first | (with_reducible exact Up.refl _) | (with_reducible exact U1.out) | (with_reducible refine Up.alloc ?_ _ _) | (with_reducible refine Up.setCell ?_ ?_ _) | (with_reducible refine Up.drewN ?_ _) | (with_reducible refine Up.drew ?_))); all_goals (first | (simp; done) | (simp; omega) | omega))
  rw [if_neg h]
  have KA := Lib.hid (fun W => rback_any now t W)
  unfold backE at KA
  rw [if_neg h] at KA
  have KO := Lib.hid (fun W (hu : Up w W) => rlive8_up_own n k A L t v (by omega) (by rw [stX_val hv (by omega) (by omega), hw]; rfl) W (hS.up hu))
  rw [livE_yes17 (by rw [stX_val hv (by omega) (by omega), hw]; rfl)] at KO
  generalize livL L t v = Z at *
  clear hv hS h ht hw hn2 hin ha
  go_enter Try.func15, Try.ntmps15
  go_wp2_with (first
    | (go_at_call 21; (with_reducible refine (KV.out _ (((Up.refl w).alloc _ _).alloc _ _)).mono ?_); rintro e w1 ⟨rfl, hu⟩; obtain ⟨U1, E1⟩ := call2 w hu; clear hu)
    | (go_at_call 35; (with_reducible refine (KA.out _).mono ?_); rintro e w' ⟨rfl, rfl⟩)
    | (go_at_call 36; (with_reducible refine (KO.out _ U1.out).mono ?_); rintro e w2 ⟨A1, n1, k1, rfl, _, hO, hu⟩; have HR := Lib.hid hO.all17.2; have HN : Hid (∀ b o, A1 = some ⟨b, o, none⟩ → w.heap.size + 1 < b) := Lib.hid (fun b o e => by have := hO.nw b o e; omega); have HK := Lib.hid hO.all17.1.1; obtain ⟨U2, E2⟩ := call2 w hu; clear hu hO))
  refine bodyPost_ret (v := .tuple #[.agg #[.bool mx, .int .i64 v, .int .i64 c, .int .i64 t, .slice A1 n1 k1], .int .i64 0]) (by simp [results, Try.results15, go_sem, E1, E2]) rfl (RsX.yes rfl ?_ ?_ ?_)
  · exact ⟨HK.out, fun b o e => by have := HN.out b o e; omega⟩
  · (repeat (first | (with_reducible exact HR.out) | (with_reducible refine Sl.off ?_ (fun b o e => by have := HN.out b o e; omega) _)))
  · ((repeat (first | (with_reducible exact Up.refl _) | (with_reducible exact U2.out) | (with_reducible refine Up.alloc ?_ _ _) | (with_reducible refine Up.setCell ?_ ?_ _) | (with_reducible refine Up.drewN ?_ _) | (with_reducible refine Up.drew ?_))); all_goals (first | (simp; done) | (simp; omega) | omega))
set_option maxHeartbeats 4000000 in
set_option maxRecDepth 100000 in
theorem radd17_up (mx : Bool) (v c now : Int) (n k : Nat) (A : Option Addr) (L : List It) (x : Int) (hn : n ≤ 40000) (hk : n ≤ k) (w : World) (hS : Sl w A n L) :
    Calls Try.prog 17 #[.agg #[.bool mx, .int .i64 v, .int .i64 c, .int .i64 now, .slice A n k], .int .i64 x] w fun e w' => RsX (anX mx v c now L x) w e w' := by
  have hn : n ≤ 100000 := by omega
  have HS := Lib.hid hS
  have KV := Lib.hid (fun W (hu : Up w W) => rvalidate17_up mx v c now n k A L hn W (hS.up hu))
  unfold stXE at KV
  have KL := Lib.hid (rvalue_any x)
  unfold anX
  by_cases hv : stX mx v c now L = true
  case neg =>
    rw [if_neg hv] at KV ⊢
    clear hv hS
    go_enter Try.func17, Try.ntmps17
    go_wp2_with (go_at_call 21; (with_reducible refine (KV.out _ (((Up.refl w).alloc _ _).alloc _ _)).mono ?_); rintro e w1 ⟨rfl, hu⟩; obtain ⟨U1, E1⟩ := call2 w hu; clear hu)
    refine bodyPost_ret (v := .tuple #[.agg #[.bool false, .int .i64 0, .int .i64 0, .int .i64 0, .slice none 0 0], .int .i64 2]) (by simp [results, Try.results17, go_sem, E1]) rfl (RsX.no rfl ?_)
    ((repeat (first | (with_reducible exact Up.refl _) | (with_reducible exact U1.out) | (with_reducible refine Up.alloc ?_ _ _) | (with_reducible refine Up.setCell ?_ ?_ _) | (with_reducible refine Up.drewN ?_ _) | (with_reducible refine Up.drew ?_))); all_goals (first | (simp; done) | (simp; omega) | omega))
  rw [if_pos hv] at KV ⊢
  cases hx : valueB x
  case false =>
    rw [if_neg (by decide)]
    rw [hx] at KL
    clear hv hS hx
    go_enter Try.func17, Try.ntmps17
    go_wp2_with (first
      | (go_at_call 21; (with_reducible refine (KV.out _ (((Up.refl w).alloc _ _).alloc _ _)).mono ?_); rintro e w1 ⟨rfl, hu⟩; obtain ⟨U1, E1⟩ := call2 w hu; clear hu)
      | (go_at_call 41; (with_reducible refine (KL.out _).mono ?_); rintro e w' ⟨rfl, rfl⟩))
    refine bodyPost_ret (v := .tuple #[.agg #[.bool false, .int .i64 0, .int .i64 0, .int .i64 0, .slice none 0 0], .int .i64 4]) (by simp [results, Try.results17, go_sem, E1]) rfl (RsX.no rfl ?_)
    ((repeat (first | (with_reducible exact Up.refl _) | (with_reducible exact U1.out) | (with_reducible refine Up.alloc ?_ _ _) | (with_reducible refine Up.setCell ?_ ?_ _) | (with_reducible refine Up.drewN ?_ _) | (with_reducible refine Up.drew ?_))); all_goals (first | (simp; done) | (simp; omega) | omega))
  rw [if_pos rfl]
  rw [hx] at KL
  have KK := Lib.hid (fun W A' k' (h : Sl W A' (n + 1) (L ++ [(now, x)])) => kept17_up mx (n + 1) k' A' (L ++ [(now, x)]) (by omega) W h)
  unfold RwX at KK
  rw [add_kp hv] at KK
  generalize adE mx now x L = Z at *
  have HY : Hid ((Z.length : Int) ≤ c → (if (Z.length : Int) ≤ c then (mx, v, c, now, Z, 0) else noX 5 : QX) = (mx, v, c, now, Z, 0)) := Lib.hid (fun h => if_pos h)
  have HX : Hid (¬ (Z.length : Int) ≤ c → (if (Z.length : Int) ≤ c then (mx, v, c, now, Z, 0) else noX 5 : QX) = noX 5) := Lib.hid (fun h => if_neg h)
  generalize (if (Z.length : Int) ≤ c then (mx, v, c, now, Z, 0) else noX 5 : QX) = QQ at *
  clear hv hS hx
  go_enter Try.func17, Try.ntmps17
  go_upto_region 6 with (first
    | (go_at_call 21; (with_reducible refine (KV.out _ (((Up.refl w).alloc _ _).alloc _ _)).mono ?_); rintro e w1 ⟨rfl, hu⟩; obtain ⟨U1, E1⟩ := call2 w hu; clear hu)
    | (go_at_call 41; (with_reducible refine (KL.out _).mono ?_); rintro e w' ⟨rfl, rfl⟩))
  refine (show ∀ ws : World, ws = _ → Code.wp _ _ _ _ ws from fun ws hws => ?_) _ rfl
  obtain ⟨Us, Es⟩ := hold2 w w.heap.size (w.heap.size + 1) (Up.of_eq hws)
  clear hws
  have hbs : w.heap.size < ws.heap.size := Es.2.1
  have hbt : w.heap.size + 1 < ws.heap.size := Es.2.2
  have hSt : Sl ws A n L := HS.out.up Us.out
  obtain ⟨v1, w6a, r1, o1, u1⟩ := append0_run 22 ws (ws.alloc (.cells #[] 41)).drew ws.heap.size ((own_empty' (w := ws) rfl (Nat.le_refl _)).of_up (Up.refl _).drew) ((Up.refl ws).alloc _ _).drew A n k L (hSt.up ((Up.refl ws).alloc _ _).drew) (by omega)
  obtain ⟨A1a, k1a, rfl, _, _⟩ := o1.sl
  have v1 : Up ws w6a := ((Up.refl ws).alloc _ _).drew.trans u1
  obtain ⟨v2, w7a, r2, o2, u2⟩ := append_run 22 ws (w6a.alloc (.cells #[.int .i64 now, .int .i64 x] 41)) _ n L (o1.of_up ((Up.refl _).alloc _ _)) (v1.alloc _ _) (some ⟨w6a.heap.size, 0, none⟩) 1 1 [(now, x)] (one_new w6a now x) (by omega)
  obtain ⟨A2a, k2a, rfl, _, _⟩ := o2.sl
  have R1a := Lib.hid r1
  have R2a := Lib.hid r2
  have V6a := Lib.hid v1
  have O7a := Lib.hid o2.all17.2
  have V7a := Lib.hid u2
  clear r1 r2 o1 o2 u1 u2 v1
  obtain ⟨v1, w6b, r1, o1, u1⟩ := append0_run 22 ws ((ws.alloc (.cells #[] 41)).alloc (.cells #[.int .i64 now, .int .i64 x] 41)).drew ws.heap.size ((own_empty' (w := ws) rfl (Nat.le_refl _)).of_up ((Up.refl _).alloc _ _).drew) (((Up.refl ws).alloc _ _).alloc _ _).drew A n k L (hSt.up (((Up.refl ws).alloc _ _).alloc _ _).drew) (by omega)
  obtain ⟨A1b, k1b, rfl, _, _⟩ := o1.sl
  have v1 : Up ws w6b := (((Up.refl ws).alloc _ _).alloc _ _).drew.trans u1
  obtain ⟨v2, w7b, r2, o2, u2⟩ := append_run 22 ws w6b _ n L o1 v1 (some ⟨(ws.heap.size + 1), 0, none⟩) 1 1 [(now, x)] (((one_new' _ now x (by simp)).up (Up.refl _).drew).up u1) (by omega)
  obtain ⟨A2b, k2b, rfl, _, _⟩ := o2.sl
  have R1b := Lib.hid r1
  have R2b := Lib.hid r2
  have V6b := Lib.hid v1
  have O7b := Lib.hid o2.all17.2
  have V7b := Lib.hid u2
  clear r1 r2 o1 o2 u1 u2 v1
  obtain ⟨v1, w6c, r1, o1, u1⟩ := append0_run 22 ws ((ws.alloc (.cells #[.int .i64 now, .int .i64 x] 41)).alloc (.cells #[] 41)).drew (ws.heap.size + 1) ((own_empty' (by simp) (by simp)).of_up (Up.refl _).drew) (((Up.refl ws).alloc _ _).alloc _ _).drew A n k L (hSt.up (((Up.refl ws).alloc _ _).alloc _ _).drew) (by omega)
  obtain ⟨A1c, k1c, rfl, _, _⟩ := o1.sl
  have v1 : Up ws w6c := (((Up.refl ws).alloc _ _).alloc _ _).drew.trans u1
  obtain ⟨v2, w7c, r2, o2, u2⟩ := append_run 22 ws w6c _ n L o1 v1 (some ⟨ws.heap.size, 0, none⟩) 1 1 [(now, x)] (((one_new' _ now x rfl).up ((Up.refl _).alloc _ _).drew).up u1) (by omega)
  obtain ⟨A2c, k2c, rfl, _, _⟩ := o2.sl
  have R1c := Lib.hid r1
  have R2c := Lib.hid r2
  have V6c := Lib.hid v1
  have O7c := Lib.hid o2.all17.2
  have V7c := Lib.hid u2
  clear r1 r2 o1 o2 u1 u2 v1
  clear hSt
  go_region_held3 (KB1 w.heap.size ws ws) (first | (with_reducible exact KB1.start (Lib.hid (Up.refl ws))) | (with_reducible exact KB1.old17 (Up.refl ws) (Hid.out (by assumption)) hbs) | (repeat (first | (with_reducible exact KB1.start (Lib.hid (Up.refl ws))) | (with_reducible exact KB1.old17 (Up.refl ws) (Hid.out (by assumption)) hbs) | (with_reducible exact KB1.old17 (Up.refl ws) (Up.refl ws) hbs) | (with_reducible refine KB1.next ((Up.refl _).alloc _ _) ?_) | (with_reducible refine KB1.next (Up.refl _).drew ?_) | (with_reducible assumption)))) (first
    | ((with_reducible refine step_append_run rfl (.tmp 18) (.tmp 20) _ rfl _ _ ?_ ?_ _ _ R1a.out ?_); rfl; rfl)
    | ((with_reducible refine step_append_run rfl (.tmp 21) (.tmp 26) _ rfl _ _ ?_ ?_ _ _ R2a.out ?_); rfl; rfl)
    | ((with_reducible refine step_append_run rfl (.tmp 18) (.tmp 20) _ rfl _ _ ?_ ?_ _ _ R1b.out ?_); rfl; rfl)
    | ((with_reducible refine step_append_run rfl (.tmp 21) (.tmp 26) _ rfl _ _ ?_ ?_ _ _ R2b.out ?_); rfl; rfl)
    | ((with_reducible refine step_append_run rfl (.tmp 18) (.tmp 20) _ rfl _ _ ?_ ?_ _ _ R1c.out ?_); rfl; rfl)
    | ((with_reducible refine step_append_run rfl (.tmp 21) (.tmp 26) _ rfl _ _ ?_ ?_ _ _ R2c.out ?_); rfl; rfl)
    | (go_at_call 28; (with_reducible refine (KK.out _ _ _ O7a.out).mono ?_); rintro e w8 ⟨A8, n8, k8, rfl, hO8, hu8⟩; have HO8 := Lib.hid (hO8.weak17 (w0 := ws) V7a.out.size); have HU8 := Lib.hid (V7a.out.trans hu8); clear hO8 hu8)
    | (go_at_call 28; (with_reducible refine (KK.out _ _ _ O7b.out).mono ?_); rintro e w8 ⟨A8, n8, k8, rfl, hO8, hu8⟩; have HO8 := Lib.hid (hO8.weak17 (w0 := ws) V7b.out.size); have HU8 := Lib.hid (V7b.out.trans hu8); clear hO8 hu8)
    | (go_at_call 28; (with_reducible refine (KK.out _ _ _ O7c.out).mono ?_); rintro e w8 ⟨A8, n8, k8, rfl, hO8, hu8⟩; have HO8 := Lib.hid (hO8.weak17 (w0 := ws) V7c.out.size); have HU8 := Lib.hid (V7c.out.trans hu8); clear hO8 hu8))
  all_goals
    obtain ⟨U8, E8⟩ := hold2 w w.heap.size (w.heap.size + 1) HU8.out
    obtain ⟨⟨hk8, hnw⟩, hS8⟩ := HO8.out.all17
    have HN : Hid (∀ b o, A8 = some ⟨b, o, none⟩ → w.heap.size + 1 < b) := Lib.hid (fun b o e => by have := hnw b o e; omega)
    have HK := Lib.hid hk8
    have HR := Lib.hid hS8
    have hl8 := hS8.1
    rw [hl8] at HX HY
    have z8 := fun o => U8.out.ownGe (Nat.le_refl w.heap.size) o
    have y8 := fun o => U8.out.ownGe (show w.heap.size ≤ w.heap.size + 1 by omega) o
    clear hnw hk8 hS8 HO8 HU8 KK R1a R2a V6a O7a V7a R1b R2b V6b O7b V7b R1c R2c V6c O7c V7c
    by_cases hc : (n8 : Int) ≤ c
    · obtain rfl := HY.out hc
      have f1 : decide (c < (n8 : Int)) = false := decide_eq_false (by omega)
      clear hc hl8 HX HY
      go_wp2_with fail
      refine bodyPost_ret (v := .tuple #[.agg #[.bool mx, .int .i64 v, .int .i64 c, .int .i64 now, .slice A8 n8 k8], .int .i64 0]) (by simp [results, Try.results17, go_sem, E1, Es, E8]) rfl (RsX.yes rfl ?_ ?_ ?_)
      · exact ⟨HK.out, fun b o e => by have := HN.out b o e; omega⟩
      · (repeat (first | (with_reducible exact HR.out) | (with_reducible refine Sl.off ?_ (fun b o e => by have := HN.out b o e; omega) _)))
      · ((repeat (first | (with_reducible exact Up.refl _) | (with_reducible exact U8.out) | (with_reducible refine Up.alloc ?_ _ _) | (with_reducible refine Up.setCell ?_ ?_ _) | (with_reducible refine Up.drewN ?_ _) | (with_reducible refine Up.drew ?_))); all_goals (first | (simp; done) | (simp; omega) | omega))
    · obtain rfl := HX.out (by omega)
      have f1 : decide (c < (n8 : Int)) = true := decide_eq_true (by omega)
      clear hc hl8 HX HY
      go_wp2_with fail
      refine bodyPost_ret (v := .tuple #[.agg #[.bool false, .int .i64 0, .int .i64 0, .int .i64 0, .slice none 0 0], .int .i64 5]) (by simp [results, Try.results17, go_sem, E1, Es, E8]) rfl (RsX.no rfl ?_)
      ((repeat (first | (with_reducible exact Up.refl _) | (with_reducible exact U8.out) | (with_reducible refine Up.alloc ?_ _ _) | (with_reducible refine Up.setCell ?_ ?_ _) | (with_reducible refine Up.drewN ?_ _) | (with_reducible refine Up.drew ?_))); all_goals (first | (simp; done) | (simp; omega) | omega))
set_option maxHeartbeats 4000000 in
set_option maxRecDepth 100000 in
theorem rask17_up (mx : Bool) (v c now : Int) (n k : Nat) (A : Option Addr) (L : List It) (hn : n ≤ 40000) (hk : n ≤ k) (w : World) (hS : Sl w A n L) :
    Calls Try.prog 19 #[.agg #[.bool mx, .int .i64 v, .int .i64 c, .int .i64 now, .slice A n k]] w fun e w' => e = .returned (.tuple #[.int .i64 (akX mx v c now L).1, .int .i64 (akX mx v c now L).2]) ∧ Up w w' := by
  have hn : n ≤ 100000 := by omega
  have HS := Lib.hid hS
  have KV := Lib.hid (fun W (hu : Up w W) => rvalidate17_up mx v c now n k A L hn W (hS.up hu))
  unfold stXE at KV
  unfold akX
  by_cases hv : stX mx v c now L = true
  case neg =>
    rw [if_neg hv] at KV ⊢
    clear hv hS
    go_enter Try.func19, Try.ntmps19
    go_wp2_with (go_at_call 21; (with_reducible refine (KV.out _ ((Up.refl w).alloc _ _)).mono ?_); rintro e w1 ⟨rfl, hu⟩; obtain ⟨U1, E1⟩ := call1 w hu; clear hu)
    refine bodyPost_ret (v := .tuple #[.int .i64 0, .int .i64 2]) (by simp [results, Try.results19, go_sem]) rfl ⟨rfl, ?_⟩
    exact U1.out
  rw [if_pos hv] at KV ⊢
  have hl := hS.1
  rcases Nat.eq_zero_or_pos n with h0 | h0
  · rw [if_pos (by omega)]
    have t1 : ((n : Int) == 0) = true := by rw [h0]; rfl
    have t2 : (n == 0) = true := by rw [h0]; rfl
    clear hv hS hl h0
    go_enter Try.func19, Try.ntmps19
    go_wp2_with (go_at_call 21; (with_reducible refine (KV.out _ ((Up.refl w).alloc _ _)).mono ?_); rintro e w1 ⟨rfl, hu⟩; obtain ⟨U1, E1⟩ := call1 w hu; clear hu)
    refine bodyPost_ret (v := .tuple #[.int .i64 0, .int .i64 7]) (by simp [results, Try.results19, go_sem]) rfl ⟨rfl, ?_⟩
    exact U1.out
  · rw [if_neg (by omega)]
    have t1 : ((n : Int) == 0) = false := by simp; omega
    have t2 : (n == 0) = false := by simp; omega
    have g1 : (0 : Int) < n := by omega
    obtain ⟨b, o, e, x0, x1⟩ := hS.head17 h0
    subst e
    generalize (L.getD 0 (0, 0)).2 = x at *
    clear hv hS hl x0
    go_enter Try.func19, Try.ntmps19
    go_upto_region 6 with (go_at_call 21; (with_reducible refine (KV.out _ ((Up.refl w).alloc _ _)).mono ?_); rintro e w1 ⟨rfl, hu⟩; obtain ⟨U1, E1⟩ := call1 w hu; clear hu)
    have y1 := U1.out.keep _ _ _ x1
    go_wp2_with fail
    refine bodyPost_ret (v := .tuple #[.int .i64 x, .int .i64 0]) (by simp [results, Try.results19, go_sem]) rfl ⟨rfl, ?_⟩
    exact U1.out
end Go.Proofs.Ytfcknhpllhkpeaa
