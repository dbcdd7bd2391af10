/- What Validate of package extreme and of its reference returns. -/
import Derived.Test.YtfcknhpllhkpeaaRows
import Derived.Test.YtfcknhpllhkpeaaZUBaseq64
namespace Go.Proofs.Ytfcknhpllhkpeaa
open Go.RowKit
set_option linter.unusedVariables false

theorem stXE_may {mx : Bool} {v c now : Int} {K : List It} (h : mayB v c now = false) : stXE mx v c now K = 2 := by unfold stXE stX; rw [h]; rfl
theorem stXE_len {mx : Bool} {v c now : Int} {K : List It} (h : c < (K.length : Int)) : stXE mx v c now K = 2 := by
  unfold stXE; rw [if_neg]; intro g; have := (stX_iff.1 g).2.1; omega
theorem stXE_bad {mx : Bool} {v c now : Int} {K : List It} {i : Nat} (hi : i < K.length) (h : okX mx v now K i = false) : stXE mx v c now K = 2 := by
  unfold stXE; rw [if_neg]; intro g; have := (stX_iff.1 g).2.2 i hi; rw [h] at this; cases this
theorem stXE_good {mx : Bool} {v c now : Int} {K : List It} (h1 : mayB v c now = true) (h2 : (K.length : Int) ≤ c) (h : ∀ i, i < K.length → okX mx v now K i = true) : stXE mx v c now K = 0 := by
  unfold stXE; rw [if_pos (stX_iff.2 ⟨h1, h2, h⟩)]
set_option maxHeartbeats 4000000 in
set_option maxRecDepth 100000 in
theorem validate17_up (mx : Bool) (v c now : Int) (n k : Nat) (A : Option Addr) (L : List It) (hn : n ≤ 100000) (w : World) (hS : Sl w A n L) :
    Calls Try.prog 20 #[.agg #[.bool mx, .int .i64 v, .int .i64 c, .int .i64 now, .slice A n k]] w fun e w' => e = .returned (.int .i64 (stXE mx v c now L)) ∧ Up w w' := by
  have KM := Lib.hid (sizes17_any v c now)
  have hX := hS.1
  cases hm : mayB v c now
  case false =>
    rw [stXE_may hm]
    rw [hm] at KM
    clear hm hS
    go_enter Try.func20, Try.ntmps20
    go_wp2_with (go_at_call 31; (with_reducible refine (KM.out _).mono ?_); rintro e w' ⟨rfl, rfl⟩)
    go_ret
    exact ⟨rfl, (Up.refl w).alloc _ _⟩
  rw [hm] at KM
  by_cases hl : (n : Int) ≤ c
  case neg =>
    rw [stXE_len (by rw [hX]; omega)]
    have f1 : decide (c < (n : Int)) = true := decide_eq_true (by omega)
    clear hm hS hl
    go_enter Try.func20, Try.ntmps20
    go_wp2_with (go_at_call 31; (with_reducible refine (KM.out _).mono ?_); rintro e w' ⟨rfl, rfl⟩)
    go_ret
    exact ⟨rfl, (Up.refl w).alloc _ _⟩
  have f1 : decide (c < (n : Int)) = false := decide_eq_false (by omega)
  have HL := Lib.hid hX
  have HS := Lib.hid hS
  have HB := Lib.hid (fun i (hi : i < L.length) h => stXE_bad (mx := mx) (v := v) (c := c) (now := now) (K := L) hi h)
  have HT := Lib.hid (fun h => stXE_good (mx := mx) (v := v) (c := c) (now := now) (K := L) hm (by rw [hX]; exact hl) h)
  have KL := Lib.hid (fun t W => live_any now v t W)
  generalize stXE mx v c now L = r at HB HT ⊢
  clear hS hX hm hl
  go_enter Try.func20, Try.ntmps20
  go_wp2_with (go_at_call 31; (with_reducible refine (KM.out _).mono ?_); rintro e w' ⟨rfl, rfl⟩)
  go_loopw [24] (fun t wr => ∃ i : Nat, t = .int .i64 i ∧ i ≤ n ∧ Hid (∀ j, j < i → okX mx v now L j = true) ∧ Hid (Up (w.alloc (.cells #[.bool mx, .int .i64 v, .int .i64 c, .int .i64 now, .slice A n k] 24)) wr)) (fun t _ => n - (intOf t).toNat)
  case atStart => exact ⟨0, rfl, Nat.zero_le _, Lib.hid (fun j hj => absurd hj (Nat.not_lt_zero _)), Lib.hid (Up.refl _)⟩
  case round =>
    obtain ⟨i, rfl, hin, HP, HW⟩ := hrel
    obtain ⟨Ur, Er⟩ := call1 w HW.out
    by_cases hi : i < n
    case neg =>
      obtain rfl : r = 0 := HT.out (fun j hj => HP.out j (by have := HL.out; omega))
      obtain rfl : i = n := by omega
      have g1 : decide ((i : Int) < i) = false := decide_eq_false (by omega)
      clear HT HB HP
      go_wp2_with fail
      go_ret
      exact ⟨rfl, Ur.out⟩
    obtain ⟨b, o, rfl, x0, x1⟩ := (HS.out.up Ur.out).at_ hi
    have hb : b < wr.heap.size := World.block_lt_of_cell? _ _ x0
    have HE : Hid (okX mx v now L i = ((liveB now v (L.getD i (0, 0)).1 && valueB (L.getD i (0, 0)).2) && (decide (i = 0) || prX mx ((L.getD (i - 1) (0, 0)).1, (L.getD (i - 1) (0, 0)).2) ((L.getD i (0, 0)).1, (L.getD i (0, 0)).2)))) := Lib.hid rfl
    have HX : Hid (okX mx v now L i = false → r = 2) := Lib.hid (HB.out i (by have := HL.out; omega))
    have HA : Hid (okX mx v now L i = true → ∀ j, j < i + 1 → okX mx v now L j = true) := Lib.hid (fun h j hj => by
      rcases Nat.lt_or_ge j i with y | y
      · exact HP.out j y
      · obtain rfl : j = i := by omega
        exact h)
    have hd : ∀ j, j < n → wr.cell? ⟨b, o + j * 2, none⟩ = some (.int .i64 (L.getD j (0, 0)).1) ∧ wr.cell? ⟨b, o + j * 2 + 1, none⟩ = some (.int .i64 (L.getD j (0, 0)).2) := fun j hj => by
      obtain ⟨b', o', e, y0, y1⟩ := (HS.out.up Ur.out).at_ hj
      injection e with e
      injection e with e1 e2
      subst e1 e2
      exact ⟨y0, y1⟩
    generalize okX mx v now L i = ok at *
    generalize (L.getD i (0, 0)).1 = p0 at *
    generalize (L.getD i (0, 0)).2 = p1 at *
    have KL1 := Lib.hid (KL.out p0)
    have KV := Lib.hid (value17_any p1)
    have g2 : (i : Int) < n := by omega
    have g3 : (0 : Int) ≤ i := by omega
    clear HB HT HP KL
    cases hl : liveB now v p0
    case false =>
      rw [hl] at KL1 HE
      obtain rfl : ok = false := HE.out
      clear hl hd HE
      obtain rfl : r = 2 := HX.out rfl
      clear HX HA
      go_wp2_with (first
          | (go_at_call 42; (with_reducible refine (KL1.out _).mono ?_); rintro e w' ⟨rfl, rfl⟩)
          | (go_at_call 37; (with_reducible refine (KV.out _).mono ?_); rintro e w' ⟨rfl, rfl⟩))
      go_ret
      exact ⟨rfl, (by ((repeat (first | (with_reducible exact Up.refl _) | (with_reducible exact Ur.out) | (with_reducible refine Up.alloc ?_ _ _) | (with_reducible refine Up.setCell ?_ ?_ _) | (with_reducible refine Up.drewN ?_ _) | (with_reducible refine Up.drew ?_))); all_goals (first | (simp; done) | (simp; omega) | omega)))⟩
    rw [hl] at KL1 HE
    cases hv : valueB p1
    case false =>
      rw [hv] at KV HE
      obtain rfl : ok = false := HE.out
      clear hl hv hd HE
      obtain rfl : r = 2 := HX.out rfl
      clear HX HA
      go_wp2_with (first
          | (go_at_call 42; (with_reducible refine (KL1.out _).mono ?_); rintro e w' ⟨rfl, rfl⟩)
          | (go_at_call 37; (with_reducible refine (KV.out _).mono ?_); rintro e w' ⟨rfl, rfl⟩))
      go_ret
      exact ⟨rfl, (by ((repeat (first | (with_reducible exact Up.refl _) | (with_reducible exact Ur.out) | (with_reducible refine Up.alloc ?_ _ _) | (with_reducible refine Up.setCell ?_ ?_ _) | (with_reducible refine Up.drewN ?_ _) | (with_reducible refine Up.drew ?_))); all_goals (first | (simp; done) | (simp; omega) | omega)))⟩
    rw [hv] at KV HE
    clear hl hv
    rcases Nat.eq_zero_or_pos i with h0 | h0
    · rw [decide_eq_true h0] at HE
      obtain rfl : ok = true := HE.out
      have z1 : decide ((0 : Int) < (i : Int)) = false := decide_eq_false (by omega)
      have z2 : decide (0 < i) = false := decide_eq_false (by omega)
      clear hd HE h0
      have HA2 := Lib.hid (HA.out (by trivial))
      clear HX HA
      go_wp2_with (first
          | (go_at_call 42; (with_reducible refine (KL1.out _).mono ?_); rintro e w' ⟨rfl, rfl⟩)
          | (go_at_call 37; (with_reducible refine (KV.out _).mono ?_); rintro e w' ⟨rfl, rfl⟩))
      go_quiet (fail)
      go_wp2_with fail
      go_roundw
      case rel => exact ⟨i + 1, by go_num, by omega, HA2, Lib.hid (by ((repeat (first | (with_reducible exact Up.refl _) | (with_reducible exact HW.out) | (with_reducible refine Up.alloc ?_ _ _) | (with_reducible refine Up.setCell ?_ ?_ _) | (with_reducible refine Up.drewN ?_ _) | (with_reducible refine Up.drew ?_))); all_goals (first | (simp; done) | (simp; omega) | omega)))⟩
      case measure => simp [intOf]; omega
    obtain ⟨y0, y1⟩ := hd (i - 1) (by omega)
    have kw : IntKind.i64.wrap ((i : Int) - 1) = ((i - 1 : Nat) : Int) := by rw [show (i : Int) - 1 = ((i - 1 : Nat) : Int) by omega]; exact IntWalk.i64_in _ (by omega)
    have g4 : decide (0 < i) = true := decide_eq_true h0
    have g5 : decide ((0 : Int) < (i : Int)) = true := decide_eq_true (by omega)
    rw [show decide (i = 0) = false from decide_eq_false (by omega)] at HE
    generalize (L.getD (i - 1) (0, 0)).1 = q0 at *
    generalize (L.getD (i - 1) (0, 0)).2 = q1 at *
    obtain ⟨j, hj⟩ : ∃ j, j = i - 1 := ⟨_, rfl⟩
    rw [← hj] at kw y0 y1
    have g6 : (j : Int) < n := by omega
    have g7 : (0 : Int) ≤ j := by omega
    have Hj := Lib.hid hj
    clear hd hj g5
    have KS := Lib.hid (fun W => succeeds17_up mx p0 p1 q0 q1 W)
    have EO : Hid (ok = prX mx (q0, q1) (p0, p1)) := Lib.hid HE.out
    generalize prX mx (q0, q1) (p0, p1) = s at *
    clear HE
    go_upto_region 8 with (first
      | (go_at_call 42; (with_reducible refine (KL1.out _).mono ?_); rintro e w' ⟨rfl, rfl⟩)
      | (go_at_call 37; (with_reducible refine (KV.out _).mono ?_); rintro e w' ⟨rfl, rfl⟩))
    refine (show ∀ ws : World, ws = _ → Code.wp _ _ _ _ ws from fun ws hws => ?_) _ rfl
    obtain ⟨Us, Es⟩ := hold3 w w.heap.size wr.heap.size b (Up.of_eq hws)
    have HWs := Lib.hid ((HW.out.alloc _ _).trans (Up.of_eq hws))
    clear hws
    go_region_held3 (KB3 w.heap.size wr.heap.size b ws ws) (first | (with_reducible exact KB3.start (Lib.hid (Up.refl ws))) | (with_reducible exact KB3.next (by assumption) (by assumption))) (first
        | (go_at_call 43; (with_reducible refine (KS.out _).mono ?_); rintro e w9 ⟨rfl, hu⟩))
    all_goals
      have HF := Lib.hid (KB3.to (by assumption))
      cases s
      · obtain rfl : ok = false := EO.out
        obtain rfl : r = 2 := HX.out rfl
        clear HX HA
        go_wp2_with fail
        go_ret
        exact ⟨rfl, Us.out.trans HF.out⟩
      · obtain rfl : ok = true := EO.out
        have HA2 := Lib.hid (HA.out (by trivial))
        clear HX HA
        go_wp2_with fail
        go_roundw
        case rel => exact ⟨i + 1, by go_num, by omega, HA2, Lib.hid (HWs.out.trans HF.out)⟩
        case measure => simp [intOf]; omega
end Go.Proofs.Ytfcknhpllhkpeaa
