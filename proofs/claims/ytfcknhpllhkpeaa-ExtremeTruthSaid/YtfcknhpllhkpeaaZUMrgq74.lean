/- Texts of these claims, one after the other. -/
import Derived.Test.YtfcknhpllhkpeaaRows
import Derived.Test.YtfcknhpllhkpeaaZUAddq77
import Derived.Test.YtfcknhpllhkpeaaZUPushq70
import Derived.Test.YtfcknhpllhkpeaaZUStq46
namespace Go.Proofs.Ytfcknhpllhkpeaa
open Go.RowKit
set_option linter.unusedVariables false

theorem livL_drop17 {L : List It} {now v : Int} {i : Nat} (hT : tickB now = true) (hw : winB v = true) (ha : L.Pairwise (fun x y => x.1 < y.1)) (hle : ∀ x ∈ L, x.1 ≤ now) (h0 : ∀ x ∈ L, 0 ≤ x.1) (h1 : ∀ j, j < i → liveB now v (L.getD j (0, 0)).1 = false) (h2 : i < L.length → liveB now v (L.getD i (0, 0)).1 = true) : livL L now v = L.drop i := by
  unfold livL
  conv => lhs; rw [← List.take_append_drop i L]
  rw [List.filter_append, List.filter_eq_nil_iff.2, List.filter_eq_self.2, List.nil_append]
  · intro x hx
    obtain ⟨j, a, b, rfl⟩ := mem_drop17 hx
    have q := (liveB_iff hT hw).1 (h2 (by omega))
    refine (liveB_iff hT hw).2 ⟨h0 _ (mem_getDT b), ?_, hle _ (mem_getDT b)⟩
    rcases Nat.lt_or_ge i j with y | y
    · have e : ∀ q (hq : q < L.length), L.getD q (0, 0) = L[q] := fun q hq => by simp [List.getD, hq]
      have := List.pairwise_iff_getElem.1 ha i j (by omega) b y
      rw [← e i (by omega), ← e j b] at this
      omega
    · rw [show j = i by omega]; omega
  · intro x hx
    obtain ⟨j, a, b, rfl⟩ := mem_take17 hx
    rw [h1 j a]
    decide
set_option maxHeartbeats 4000000 in
set_option maxRecDepth 100000 in
theorem live17_up (now v : Int) (n k : Nat) (A : Option Addr) (L : List It) (hn : n ≤ 100000) (hk : n ≤ k) (hT : tickB now = true) (hw : winB v = true) (ha : L.Pairwise (fun x y => x.1 < y.1)) (hle : ∀ x ∈ L, x.1 ≤ now) (h0 : ∀ x ∈ L, 0 ≤ x.1) (w : World) (hS : Sl w A n L) :
    Calls Try.prog 34 #[.slice A n k, .int .i64 now, .int .i64 v] w fun e w' => RwX (livL L now v) w e w' := by
  have KC := Lib.hid (fun n k A L (hn : n ≤ 100000) W (h : Sl W A n L) => cloneI_up n k A L hn W h)
  have KL := Lib.hid (fun t W => live_any now v t W)
  have HD := Lib.hid (fun i h1 h2 => livL_drop17 (i := i) hT hw ha hle h0 h1 h2)
  have HL := Lib.hid hS.1
  have HS := Lib.hid hS
  clear hT hw ha hle h0 hS
  unfold RwX
  go_enter Try.func34, Try.ntmps34
  go_wp2_with fail
  go_loopw [0] (fun s wr => ∃ (i m k' : Nat) (A' : Option Addr), s = .slice A' m k' ∧ i + m = n ∧ m ≤ k' ∧ Hid (∀ j, j < i → liveB now v (L.getD j (0, 0)).1 = false) ∧ Hid (Sl wr A' m (L.drop i)) ∧ Hid (Up w wr)) (fun s _ => lnV s)
  case atStart => exact ⟨0, n, k, A, rfl, by omega, hk, Lib.hid (fun j hj => absurd hj (Nat.not_lt_zero _)), HS, Lib.hid (Up.refl _)⟩
  case round =>
    obtain ⟨i, m, k', A', rfl, him, hmk, HP, HM, HU⟩ := hrel
    rcases Nat.eq_zero_or_pos m with h0 | h0
    · have HE : Hid (livL L now v = L.drop i) := Lib.hid (HD.out i HP.out (fun h => by have := HL.out; omega))
      have f1 : decide (0 < m) = false := decide_eq_false (by omega)
      have f2 : decide ((0 : Int) < (m : Int)) = false := decide_eq_false (by omega)
      clear h0 HD HP KL HS
      go_wp2_with (go_at_call 39; (with_reducible refine (KC.out _ _ _ _ (by omega) _ HM.out).mono ?_); rintro e w1 ⟨A1, k1, rfl, hO, hu⟩; have HO1 := Lib.hid hO; have HU1 := Lib.hid hu; clear hO hu)
      go_ret
      exact ⟨A1, m, k1, rfl, by rw [HE.out]; exact HO1.out.weak17 HU.out.size, HU.out.trans HU1.out⟩
    obtain ⟨b, o, e, x0, x1⟩ := HM.out.head17 h0
    subst e
    have HN := Lib.hid (HM.out.cut (k := 1) (show 1 ≤ m by omega) hmk)
    have f1 : decide (0 < m) = true := decide_eq_true h0
    have f2 : decide ((0 : Int) < (m : Int)) = true := decide_eq_true (by omega)
    have f3 : (0 : Int) < m := by omega
    have hg : (L.drop i).getD 0 (0, 0) = L.getD i (0, 0) := by simp [List.getD]
    rw [hg] at x0 x1
    rw [List.drop_drop] at HN
    have HX : Hid (liveB now v (L.getD i (0, 0)).1 = false → ∀ j, j < i + 1 → liveB now v (L.getD j (0, 0)).1 = false) := Lib.hid (fun h j hj => by
      rcases Nat.lt_or_ge j i with y | y
      · exact HP.out j y
      · rw [show j = i by omega]; exact h)
    have HY : Hid (liveB now v (L.getD i (0, 0)).1 = true → livL L now v = L.drop i) := Lib.hid (fun h => HD.out i HP.out (fun _ => h))
    have KL1 := Lib.hid (KL.out (L.getD i (0, 0)).1)
    generalize (L.getD i (0, 0)).1 = p0 at *
    generalize (L.getD i (0, 0)).2 = p1 at *
    clear hg HD HP KL HS
    cases hl : liveB now v p0
    · rw [hl] at KL1
      have HP2 := Lib.hid (HX.out hl)
      obtain ⟨m', hm'⟩ : ∃ z, z = m - 1 := ⟨_, rfl⟩
      have hsl := fun V => sliceTailI_run (some ⟨b, o, none⟩) m k' (show 1 ≤ m by omega) V
      rw [← hm'] at hsl HN
      have HM' : Hid (m' + 1 = m) := Lib.hid (by omega)
      generalize (if k' = 1 then (some ⟨b, o, none⟩ : Option Addr) else (some ⟨b, o, none⟩ : Option Addr).map (·.add (1 * 2))) = A2 at *
      clear hl HX HY hm'
      go_wp2_with (go_at_call 42; (with_reducible refine (KL1.out _).mono ?_); rintro e w' ⟨rfl, rfl⟩)
      go_roundw
      case rel => exact ⟨i + 1, m', k' - 1, A2, rfl, by have := HM'.out; omega, by have := HM'.out; omega, HP2, HN, HU⟩
      case measure => have := HM'.out; simp [lnV]; omega
    · rw [hl] at KL1
      have HE := Lib.hid (HY.out hl)
      clear hl HX HY HN
      go_wp2_with (first
        | (go_at_call 42; (with_reducible refine (KL1.out _).mono ?_); rintro e w' ⟨rfl, rfl⟩)
        | (go_at_call 39; (with_reducible refine (KC.out _ _ _ _ (by omega) _ HM.out).mono ?_); rintro e w1 ⟨A1, k1, rfl, hO, hu⟩; have HO1 := Lib.hid hO; have HU1 := Lib.hid hu; clear hO hu))
      go_ret
      exact ⟨A1, m, k1, rfl, by rw [HE.out]; exact HO1.out.weak17 HU.out.size, HU.out.trans HU1.out⟩
end Go.Proofs.Ytfcknhpllhkpeaa

namespace Go.Proofs.Ytfcknhpllhkpeaa
open Go.RowKit
set_option linter.unusedVariables false

set_option maxHeartbeats 4000000 in
set_option maxRecDepth 100000 in
theorem advance17_up (mx : Bool) (v c now : Int) (n k : Nat) (A : Option Addr) (L : List It) (t : Int) (hn : n ≤ 40000) (hk : n ≤ k) (w : World) (hS : Sl w A n L) :
    Calls Try.prog 14 #[.agg #[.bool mx, .int .i64 v, .int .i64 c, .int .i64 now, .slice A n k], .int .i64 t] w fun e w' => RsX (avX mx v c now L t) w e w' := by
  have hn : n ≤ 100000 := by omega
  have HS := Lib.hid hS
  have KV := Lib.hid (fun W (hu : Up w W) => validate17_up mx v c now n k A L hn W (hS.up hu))
  unfold stXE at KV
  unfold avX
  by_cases hv : stX mx v c now L = true
  case neg =>
    rw [if_neg hv] at KV ⊢
    clear hv hS
    go_enter Try.func14, Try.ntmps14
    go_wp2_with (go_at_call 20; (with_reducible refine (KV.out _ (((Up.refl w).alloc _ _).alloc _ _)).mono ?_); rintro e w1 ⟨rfl, hu⟩; obtain ⟨U1, E1⟩ := call2 w hu; clear hu)
    refine bodyPost_ret (v := .tuple #[.agg #[.bool false, .int .i64 0, .int .i64 0, .int .i64 0, .slice none 0 0], .int .i64 2]) (by simp [results, Try.results14, go_sem, E1]) rfl (RsX.no rfl ?_)
    ((repeat (first | (with_reducible exact Up.refl _) | (with_reducible exact U1.out) | (with_reducible refine Up.alloc ?_ _ _) | (with_reducible refine Up.setCell ?_ ?_ _) | (with_reducible refine Up.drewN ?_ _) | (with_reducible refine Up.drew ?_))); all_goals (first | (simp; done) | (simp; omega) | omega))
  rw [if_pos hv] at KV ⊢
  obtain ⟨ht, hw, hn2, hin, ha⟩ := stX_in hv
  by_cases h : t < now ∨ 16777216 < t
  case pos =>
    rw [if_pos h]
    have KA := Lib.hid (fun W => advance_any now t 0 3 (by rw [if_pos ht, if_pos h]) W)
    clear hv hS h ht hw hn2 hin ha
    go_enter Try.func14, Try.ntmps14
    go_wp2_with (first
      | (go_at_call 20; (with_reducible refine (KV.out _ (((Up.refl w).alloc _ _).alloc _ _)).mono ?_); rintro e w1 ⟨rfl, hu⟩; obtain ⟨U1, E1⟩ := call2 w hu; clear hu)
      | (go_at_call 33; (with_reducible refine (KA.out _).mono ?_); rintro e w' ⟨rfl, rfl⟩))
    refine bodyPost_ret (v := .tuple #[.agg #[.bool false, .int .i64 0, .int .i64 0, .int .i64 0, .slice none 0 0], .int .i64 3]) (by simp [results, Try.results14, go_sem, E1]) rfl (RsX.no rfl ?_)
    ((repeat (first | (with_reducible exact Up.refl _) | (with_reducible exact U1.out) | (with_reducible refine Up.alloc ?_ _ _) | (with_reducible refine Up.setCell ?_ ?_ _) | (with_reducible refine Up.drewN ?_ _) | (with_reducible refine Up.drew ?_))); all_goals (first | (simp; done) | (simp; omega) | omega))
  rw [if_neg h]
  have KA := Lib.hid (fun W => advance_any now t t 0 (by rw [if_pos ht, if_neg h]) W)
  have KO := Lib.hid (fun W (hu : Up w W) => live17_up t v n k A L (by omega) hk (tickB_yes (by omega) (by omega)) hw ha (fun x hx => by have := (hin x hx).2.2; omega) (fun x hx => (hin x hx).1) W (hS.up hu))
  unfold RwX at KO
  generalize livL L t v = Z at *
  clear hv hS h ht hw hn2 hin ha
  go_enter Try.func14, Try.ntmps14
  go_wp2_with (first
    | (go_at_call 20; (with_reducible refine (KV.out _ (((Up.refl w).alloc _ _).alloc _ _)).mono ?_); rintro e w1 ⟨rfl, hu⟩; obtain ⟨U1, E1⟩ := call2 w hu; clear hu)
    | (go_at_call 33; (with_reducible refine (KA.out _).mono ?_); rintro e w' ⟨rfl, rfl⟩)
    | (go_at_call 34; (with_reducible refine (KO.out _ U1.out).mono ?_); rintro e w2 ⟨A1, n1, k1, rfl, hO, hu⟩; have HR := Lib.hid hO.all17.2; have HN : Hid (∀ b o, A1 = some ⟨b, o, none⟩ → w.heap.size + 1 < b) := Lib.hid (fun b o e => by have := hO.nw b o e; omega); have HK := Lib.hid hO.all17.1.1; obtain ⟨U2, E2⟩ := call2 w hu; clear hu hO))
  refine bodyPost_ret (v := .tuple #[.agg #[.bool mx, .int .i64 v, .int .i64 c, .int .i64 t, .slice A1 n1 k1], .int .i64 0]) (by simp [results, Try.results14, go_sem, E1, E2]) rfl (RsX.yes rfl ?_ ?_ ?_)
  · exact ⟨HK.out, fun b o e => by have := HN.out b o e; omega⟩
  · (repeat (first | (with_reducible exact HR.out) | (with_reducible refine Sl.off ?_ (fun b o e => by have := HN.out b o e; omega) _)))
  · ((repeat (first | (with_reducible exact Up.refl _) | (with_reducible exact U2.out) | (with_reducible refine Up.alloc ?_ _ _) | (with_reducible refine Up.setCell ?_ ?_ _) | (with_reducible refine Up.drewN ?_ _) | (with_reducible refine Up.drew ?_))); all_goals (first | (simp; done) | (simp; omega) | omega))
end Go.Proofs.Ytfcknhpllhkpeaa
