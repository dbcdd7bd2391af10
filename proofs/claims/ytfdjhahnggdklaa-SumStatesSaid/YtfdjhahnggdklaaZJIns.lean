/- InsertMany of the reference of package buckets: where its result lies. -/
import Derived.Test.YtfdjhahnggdklaaZCClock
import Derived.Test.YtfdjhahnggdklaaZGBasem8
import Derived.Test.YtfdjhahnggdklaaZGLawm3
import Derived.Test.YtfdjhahnggdklaaZHGrowm2
import Derived.Test.YtfdjhahnggdklaaZHOrdm2
import Derived.Test.YtfdjhahnggdklaaZHPut
import Derived.Test.YtfdjhahnggdklaaZHRInsm2
import Derived.Test.YtfdjhahnggdklaaZHRVal
import Derived.Test.YtfdjhahnggdklaaZHRowm3
import Derived.Test.YtfdjhahnggdklaaZHSamem5
import Derived.Test.YtfdjhahnggdklaaZHSmallm7
import Derived.Test.YtfdjhahnggdklaaZHVal
import Derived.Test.YtfdjhahnggdklaaZIBasem2
import Derived.Test.YtfdjhahnggdklaaZJSt
import Derived.Test.YtfdjhahnggdklaaZWMathm9
namespace Go.Proofs.Ytfdjhahnggdklaa
open Go.RowKit
set_option linter.unusedVariables false

set_option maxHeartbeats 4000000 in
set_option maxRecDepth 100000 in
theorem rinsertMany_none (n k : Nat) (A : Option Addr) (L : List It) (v q c t : Int) (hn : n ≤ 50000) (h : stC v q c t L = true) (w : World) (hS : Sl w A n L) :
    Calls Try.prog 48 #[.slice A n k, .int .i64 q, .int .i64 t, .int .i64 0] w fun e w' => e = .returned (.slice A n k) ∧ Up w w' := by
  have KV := Lib.hid (rvalid10_up n k A L q (by omega) w hS)
  rw [vaB_iff.2 (stC_true h).2.1] at KV
  have HS := Lib.hid hS
  have KT := Lib.hid (rtick_any t)
  rw [show tickB t = true from tickB_yes (stC_facts h).1.1 (stC_facts h).1.2] at KT
  have KL := Lib.hid (fun W (h : Sl W A n L) => rlast_any n k A L (by omega) W h)
  have KR := Lib.hid (fun W (h : Sl W A n L) => rtotal10_up n k A L (by omega) W h)
  have h3 : ¬ t < lstZ L := by
    have g := (stC_facts h).2.1
    have g0 := (stC_facts h).1.1
    unfold lstZ
    by_cases hx : L = []
    · subst hx; simp; omega
    · have := g _ (gD_mem (L := L) (j := L.length - 1) (by have := List.length_pos_iff.2 hx; omega)); omega
  generalize lstZ L = z at *
  clear hS h KR
  go_enter Try.func48, Try.ntmps48
  go_wp2_with (first | (go_at_call 78; (with_reducible refine KV.out.mono ?_); rintro e w1 ⟨rfl, hu1⟩; have HU1 := Lib.hid hu1; clear hu1) | (go_at_call 70; (with_reducible refine (KT.out _).mono ?_); rintro e w' ⟨rfl, rfl⟩) | (go_at_call 79; (with_reducible refine (KL.out _ (HS.out.up HU1.out)).mono ?_); rintro e w' ⟨rfl, rfl⟩))
  go_loopw [0, 3] (fun s0 s3 wr => s0 = .slice A n k ∧ s3 = .int .i64 0 ∧ Hid (Up w wr)) (fun _ _ _ => 0)
  case atStart => exact ⟨rfl, rfl, HU1⟩
  case round =>
    obtain ⟨rfl, rfl, HU⟩ := hrel
    go_wp2_with fail
    go_ret
    exact ⟨rfl, HU.out⟩

set_option maxHeartbeats 4000000 in
set_option maxRecDepth 100000 in
theorem rinsertMany_some (n k : Nat) (A : Option Addr) (L : List It) (v q c t m : Int) (hn : n ≤ 50000) (h : stC v q c t L = true) (h0 : 0 < m) (h1 : m ≤ 1024) (hc : totB L + m ≤ c) (w : World) (hS : Sl w A n L) :
    Calls Try.prog 48 #[.slice A n k, .int .i64 q, .int .i64 t, .int .i64 m] w fun e w' => ∃ A' n' k', e = .returned (.slice A' n' k') ∧ n' ≤ n + 1024 ∧ Nw w A' ∧ Sl w' A' n' (itB q t m.toNat L) ∧ Up w w' := by
  have KV := Lib.hid (rvalid10_up n k A L q (by omega) w hS)
  rw [vaB_iff.2 (stC_true h).2.1] at KV
  have HS := Lib.hid hS
  have KT := Lib.hid (rtick_any t)
  rw [show tickB t = true from tickB_yes (stC_facts h).1.1 (stC_facts h).1.2] at KT
  have KL := Lib.hid (fun W (h : Sl W A n L) => rlast_any n k A L (by omega) W h)
  have KR := Lib.hid (fun W (h : Sl W A n L) => rtotal10_up n k A L (by omega) W h)
  have h3 : ¬ t < lstZ L := by
    have g := (stC_facts h).2.1
    have g0 := (stC_facts h).1.1
    unfold lstZ
    by_cases hx : L = []
    · subst hx; simp; omega
    · have := g _ (gD_mem (L := L) (j := L.length - 1) (by have := List.length_pos_iff.2 hx; omega)); omega
  generalize lstZ L = z at *
  have hc9 := (stC_facts h).2.2
  have htt := (stC_facts h).1
  have HV := Lib.hid (fun i hi => itB_va (stC_true h).2.1 (stC_facts h).1.1 (stC_facts h).1.2 (stC_facts h).2.1 i hi)
  obtain ⟨m, rfl⟩ : ∃ x : Nat, m = x := ⟨m.toNat, by omega⟩
  rw [Int.toNat_natCast]
  have q1 := totB_low L
  have h6 : totB L + (m : Int) ≤ 1073741824 := by omega
  have h5 : m ≠ 0 := by omega
  have hm9 : (m : Int) ≤ 1024 := h1
  obtain ⟨y, hy⟩ : ∃ y, totB L = y := ⟨_, rfl⟩
  rw [hy] at KR q1 h6 HV
  have h7 : (0 : Int) < (m : Int) := by omega
  clear hS h hc hy hc9
  go_enter Try.func48, Try.ntmps48
  go_wp2_with (first | (go_at_call 78; (with_reducible refine KV.out.mono ?_); rintro e w1 ⟨rfl, hu1⟩; have HU1 := Lib.hid hu1; clear hu1) | (go_at_call 70; (with_reducible refine (KT.out _).mono ?_); rintro e w' ⟨rfl, rfl⟩) | (go_at_call 79; (with_reducible refine (KL.out _ (HS.out.up HU1.out)).mono ?_); rintro e w' ⟨rfl, rfl⟩) | (go_at_call 47; (with_reducible refine (KR.out _ (HS.out.up HU1.out)).mono ?_); rintro e w2 ⟨rfl, hu2⟩; have HU2 := Lib.hid (HU1.out.trans hu2); clear hu2))
  go_loopw [0, 3] (fun s0 s3 wr => ∃ (i n' k' : Nat) (A' : Option Addr) (x : Int), s0 = .slice A' n' k' ∧ s3 = .int .i64 x ∧ i ≤ m ∧ x = (m : Int) - i ∧ n' ≤ n + i ∧ Hid (Sl wr A' n' (itB q t i L)) ∧ Hid (0 < i → Nw w A') ∧ Hid (Up w wr)) (fun _ s3 _ => (intOf s3).toNat)
  case atStart => exact ⟨0, n, k, A, m, rfl, rfl, by omega, by omega, by omega, Lib.hid (HS.out.up HU2.out), Lib.hid (fun h => absurd h (Nat.lt_irrefl _)), HU2⟩
  case round =>
    obtain ⟨i, n', k', A', x, rfl, rfl, hi, hx, hn', HO, HW, HU⟩ := hrel
    by_cases h : i < m
    · have f2 : (0 : Int) < x := by omega
      have f4 : x ≤ 1024 := by omega
      have HX := Lib.hid hx
      clear hx
      have HG := Lib.hid (by
        obtain ⟨a, b, c⟩ := HV.out i (fun _ => by omega)
        exact rput_up n' k' A' (itB q t i L) q t (totB (itB q t i L) + 1) wr HO.out (a.start htt.1 htt.2 c) (by rw [b]; omega) (by omega))
      go_wp2_with (go_at_call 80; (with_reducible refine HG.out.mono ?_); rintro e w6 ⟨A6, n6, k6, rfl, hn6, ho6, hu6⟩)
      have HN6 := Lib.hid (ho6.nw.up HU.out)
      obtain ⟨A7, k7, e7, _, hs7⟩ := ho6.sl
      cases e7
      go_roundw
      case rel => exact ⟨i + 1, n6, k6, A6, x - 1, rfl, rfl, by omega, by have := HX.out; omega, by omega, Lib.hid hs7, Lib.hid (fun _ => HN6.out), Lib.hid (HU.out.trans hu6)⟩
      case measure => simp [intOf]; omega
    · obtain rfl : i = m := by omega
      obtain rfl : x = 0 := by omega
      clear hx
      go_wp2_with fail
      go_ret
      exact ⟨_, _, _, rfl, by omega, HW.out (by omega), HO.out, HU.out⟩
end Go.Proofs.Ytfdjhahnggdklaa
