/- Insert and InsertMany of the reference of layer 10. -/
import Derived.Test.YtnhekeohbnmodaaHPut
import Derived.Test.YtnhekeohbnmodaaHRVal
namespace Go.Proofs.Ytnhekeohbnmodaa
open Go.RowKit

theorem fol_no {L : List It} {t : Int} (h : tickB t = false) : folB L t = false := by unfold folB; rw [h]; rfl
theorem fol_late {L : List It} {t : Int} (h : t < lstZ L) (ht : tickB t = true) : folB L t = false := by
  unfold folB
  rw [ht, decide_eq_false (p := lstZ L ≤ t) (by omega)]
  by_cases h0 : L.length = 0
  · rw [List.length_eq_zero_iff.1 h0] at h
    have := tickB_true ht
    have e : lstZ [] = 0 := rfl
    omega
  · rw [decide_eq_false h0]; rfl
theorem fol_yes {L : List It} {t : Int} (h : ¬ t < lstZ L) (ht : tickB t = true) : folB L t = true := by
  unfold folB; rw [ht, decide_eq_true (p := lstZ L ≤ t) (by omega)]; simp
theorem in_va {L : List It} {q t m : Int} (h : vaB L q = false) : inB L q t m = false := by unfold inB; rw [h]; rfl
theorem in_fol {L : List It} {q t m : Int} (h : folB L t = false) : inB L q t m = false := by unfold inB; rw [h]; simp
theorem in_roo {L : List It} {q t m : Int} (h : rooB L m = false) : inB L q t m = false := by unfold inB; rw [h]; simp
theorem roo_low {L : List It} {m : Int} (h : m < 0) : rooB L m = false := by unfold rooB; rw [decide_eq_false (p := 0 ≤ m ∧ m ≤ 1024) (by omega)]; rfl
theorem roo_high {L : List It} {m : Int} (h : 1024 < m) : rooB L m = false := by unfold rooB; rw [decide_eq_false (p := 0 ≤ m ∧ m ≤ 1024) (by omega)]; rfl
theorem roo_full {L : List It} {m : Int} (h : 0 < m) (h2 : 1073741824 < totB L + m) : rooB L m = false := by unfold rooB; rw [decide_eq_false (p := m = 0) (by omega), decide_eq_false (p := totB L + m ≤ 1073741824) (by omega)]; simp
theorem roo_yes {L : List It} {m : Int} (h0 : 0 ≤ m) (h1 : m ≤ 1024) (h2 : 0 < m → totB L + m ≤ 1073741824) : rooB L m = true := by
  unfold rooB
  rw [decide_eq_true (p := 0 ≤ m ∧ m ≤ 1024) ⟨h0, h1⟩]
  by_cases h : m = 0
  · rw [decide_eq_true h]; rfl
  · rw [decide_eq_true (p := totB L + m ≤ 1073741824) (h2 (by omega))]; simp

set_option maxHeartbeats 4000000 in
set_option maxRecDepth 100000 in
theorem rinsertMany_up (n k : Nat) (A : Option Addr) (L : List It) (q t m : Int) (hn : n ≤ 50000) (w : World) (hS : Sl w A n L) :
    Calls Try.prog 22 #[.slice A n k, .int .i64 q, .int .i64 t, .int .i64 m] w fun e w' => ∃ A' n' k', e = .returned (.slice A' n' k') ∧ n' ≤ n + 1024 ∧ Sl w' A' n' (imL L q t m) ∧ Up w w' := by
  have KV := Lib.hid (rvalid10_up n k A L q (by omega) w hS)
  have HS := Lib.hid hS
  have KT := Lib.hid (rtick_any t)
  have KL := Lib.hid (fun W (h : Sl W A n L) => rlast_any n k A L (by omega) W h)
  have KR := Lib.hid (fun W (h : Sl W A n L) => rtotal10_up n k A L (by omega) W h)
  cases hv : vaB L q with
  | false =>
    rw [imL_no (in_va hv)]
    rw [hv] at KV
    clear hv hS
    go_enter Try.func22, Try.ntmps22
    go_wp2_with (go_at_call 15; (with_reducible refine KV.out.mono ?_); rintro e w1 ⟨rfl, hu1⟩)
    go_ret
    exact ⟨_, _, _, rfl, by omega, Sl.none_, hu1⟩
  | true =>
  rw [hv] at KV
  by_cases h1 : m < 0
  · rw [imL_no (in_roo (roo_low h1))]
    clear hv hS
    go_enter Try.func22, Try.ntmps22
    go_wp2_with (go_at_call 15; (with_reducible refine KV.out.mono ?_); rintro e w1 ⟨rfl, hu1⟩)
    go_ret
    exact ⟨_, _, _, rfl, by omega, Sl.none_, hu1⟩
  by_cases h2 : 1024 < m
  · rw [imL_no (in_roo (roo_high h2))]
    clear hv hS
    go_enter Try.func22, Try.ntmps22
    go_wp2_with (go_at_call 15; (with_reducible refine KV.out.mono ?_); rintro e w1 ⟨rfl, hu1⟩)
    go_ret
    exact ⟨_, _, _, rfl, by omega, Sl.none_, hu1⟩
  cases ht : tickB t with
  | false =>
    rw [imL_no (in_fol (fol_no ht))]
    rw [ht] at KT
    clear hv hS ht
    go_enter Try.func22, Try.ntmps22
    go_wp2_with (first | (go_at_call 15; (with_reducible refine KV.out.mono ?_); rintro e w1 ⟨rfl, hu1⟩) | (go_at_call 42; (with_reducible refine (KT.out _).mono ?_); rintro e w' ⟨rfl, rfl⟩))
    go_ret
    exact ⟨_, _, _, rfl, by omega, Sl.none_, hu1⟩
  | true =>
  rw [ht] at KT
  by_cases h3 : t < lstZ L
  · rw [imL_no (in_fol (fol_late h3 ht))]
    generalize lstZ L = z at *
    clear hv hS ht
    go_enter Try.func22, Try.ntmps22
    go_wp2_with (first | (go_at_call 15; (with_reducible refine KV.out.mono ?_); rintro e w1 ⟨rfl, hu1⟩; have HU1 := Lib.hid hu1; clear hu1) | (go_at_call 42; (with_reducible refine (KT.out _).mono ?_); rintro e w' ⟨rfl, rfl⟩) | (go_at_call 44; (with_reducible refine (KL.out _ (HS.out.up HU1.out)).mono ?_); rintro e w' ⟨rfl, rfl⟩))
    go_ret
    exact ⟨_, _, _, rfl, by omega, Sl.none_, HU1.out⟩
  have hf := fol_yes h3 ht
  generalize lstZ L = z at *
  have q1 := totB_low L
  have q2 := totB_high L
  rw [hS.1] at q2
  by_cases h4 : 0 < m ∧ 1073741824 < totB L + m
  · obtain ⟨h4, h5⟩ := h4
    rw [imL_no (in_roo (roo_full h4 h5))]
    generalize totB L = y at *
    have h6 : (1073741824 : Int) < y + m := h5
    clear hv hS ht hf
    go_enter Try.func22, Try.ntmps22
    go_wp2_with (first | (go_at_call 15; (with_reducible refine KV.out.mono ?_); rintro e w1 ⟨rfl, hu1⟩; have HU1 := Lib.hid hu1; clear hu1) | (go_at_call 42; (with_reducible refine (KT.out _).mono ?_); rintro e w' ⟨rfl, rfl⟩) | (go_at_call 44; (with_reducible refine (KL.out _ (HS.out.up HU1.out)).mono ?_); rintro e w' ⟨rfl, rfl⟩) | (go_at_call 17; (with_reducible refine (KR.out _ (HS.out.up HU1.out)).mono ?_); rintro e w2 ⟨rfl, hu2⟩; have HU2 := Lib.hid (HU1.out.trans hu2); clear hu2))
    go_ret
    exact ⟨_, _, _, rfl, by omega, Sl.none_, HU2.out⟩
  have hro : 0 < m → totB L + m ≤ 1073741824 := fun h => by omega
  have ei : imL L q t m = itB q t m.toNat L := imL_yes (by unfold inB; rw [hv, hf, roo_yes (by omega) (by omega) hro]; rfl)
  rw [ei]
  have hva := vaB_iff.1 hv
  obtain ⟨htt, hla⟩ := fol_all hva.as_ hf
  have HV := Lib.hid (fun i hi => itB_va hva htt.1 htt.2 hla i hi)
  have HRO := Lib.hid hro
  obtain ⟨m, rfl⟩ : ∃ x : Nat, m = x := ⟨m.toNat, by omega⟩
  rw [Int.toNat_natCast]
  have HY : Hid (∃ y, totB L = y) := Lib.hid ⟨_, rfl⟩
  by_cases h5 : m = 0
  · subst h5
    clear hv hS ei hva hla hro ht hf q1 q2 h4 HRO HV
    go_enter Try.func22, Try.ntmps22
    go_wp2_with (first | (go_at_call 15; (with_reducible refine KV.out.mono ?_); rintro e w1 ⟨rfl, hu1⟩; have HU1 := Lib.hid hu1; clear hu1) | (go_at_call 42; (with_reducible refine (KT.out _).mono ?_); rintro e w' ⟨rfl, rfl⟩) | (go_at_call 44; (with_reducible refine (KL.out _ (HS.out.up HU1.out)).mono ?_); rintro e w' ⟨rfl, rfl⟩))
    go_loopw [0, 3] (fun s0 s3 wr => s0 = .slice A n k ∧ s3 = .int .i64 0 ∧ Hid (Up w wr)) (fun _ _ _ => 0)
    case atStart => exact ⟨rfl, rfl, HU1⟩
    case round =>
      obtain ⟨rfl, rfl, HU⟩ := hrel
      go_wp2_with fail
      go_ret
      exact ⟨_, _, _, rfl, by omega, HS.out.up HU.out, HU.out⟩
  have h6 := hro (by omega)
  obtain ⟨y, hy⟩ : ∃ y, totB L = y := ⟨_, rfl⟩
  rw [hy] at KR q1 q2 h6 HV HRO
  have h7 : (0 : Int) < (m : Int) := by omega
  clear hv hS ei hva hla hro ht hf h4 hy HY
  have hm9 : (m : Int) ≤ 1024 := by omega
  go_enter Try.func22, Try.ntmps22
  go_wp2_with (first | (go_at_call 15; (with_reducible refine KV.out.mono ?_); rintro e w1 ⟨rfl, hu1⟩; have HU1 := Lib.hid hu1; clear hu1) | (go_at_call 42; (with_reducible refine (KT.out _).mono ?_); rintro e w' ⟨rfl, rfl⟩) | (go_at_call 44; (with_reducible refine (KL.out _ (HS.out.up HU1.out)).mono ?_); rintro e w' ⟨rfl, rfl⟩) | (go_at_call 17; (with_reducible refine (KR.out _ (HS.out.up HU1.out)).mono ?_); rintro e w2 ⟨rfl, hu2⟩; have HU2 := Lib.hid (HU1.out.trans hu2); clear hu2))
  go_loopw [0, 3] (fun s0 s3 wr => ∃ (i n' k' : Nat) (A' : Option Addr) (x : Int), s0 = .slice A' n' k' ∧ s3 = .int .i64 x ∧ i ≤ m ∧ x = (m : Int) - i ∧ n' ≤ n + i ∧ Hid (Sl wr A' n' (itB q t i L)) ∧ Hid (Up w wr)) (fun _ s3 _ => (intOf s3).toNat)
  case atStart => exact ⟨0, n, k, A, m, rfl, rfl, by omega, by omega, by omega, Lib.hid (HS.out.up HU2.out), HU2⟩
  case round =>
    obtain ⟨i, n', k', A', x, rfl, rfl, hi, hx, hn', HO, HU⟩ := hrel
    by_cases h : i < m
    · have f2 : (0 : Int) < x := by omega
      have f4 : x ≤ 1024 := by omega
      have HX := Lib.hid hx
      clear hx
      have HG := Lib.hid (by
        obtain ⟨a, b, c⟩ := HV.out i (fun _ => by omega)
        exact rput_up n' k' A' (itB q t i L) q t (totB (itB q t i L) + 1) wr HO.out (a.start htt.1 htt.2 c) (by rw [b]; omega) (by omega))
      go_wp2_with (go_at_call 45; (with_reducible refine HG.out.mono ?_); rintro e w6 ⟨A6, n6, k6, rfl, hn6, ho6, hu6⟩)
      obtain ⟨A7, k7, e7, _, hs7⟩ := ho6.sl
      cases e7
      go_roundw
      case rel => exact ⟨i + 1, n6, k6, A6, x - 1, rfl, rfl, by omega, by have := HX.out; omega, by omega, Lib.hid hs7, Lib.hid (HU.out.trans hu6)⟩
      case measure => simp [intOf]; omega
    · obtain rfl : i = m := by omega
      obtain rfl : x = 0 := by omega
      clear hx
      go_wp2_with fail
      go_ret
      exact ⟨_, _, _, rfl, by omega, HO.out, HU.out⟩

set_option maxHeartbeats 4000000 in
set_option maxRecDepth 100000 in
theorem rinsert_up (n k : Nat) (A : Option Addr) (L : List It) (q t : Int) (hn : n ≤ 50000) (w : World) (hS : Sl w A n L) :
    Calls Try.prog 20 #[.slice A n k, .int .i64 q, .int .i64 t] w fun e w' => ∃ A' n' k', e = .returned (.slice A' n' k') ∧ n' ≤ n + 1024 ∧ Sl w' A' n' (imL L q t 1) ∧ Up w w' := by
  have KV := Lib.hid (rvalid10_up n k A L q (by omega) w hS)
  have HS := Lib.hid hS
  have KT := Lib.hid (rtick_any t)
  have KL := Lib.hid (fun W (h : Sl W A n L) => rlast_any n k A L (by omega) W h)
  have KR := Lib.hid (fun W (h : Sl W A n L) => rtotal10_up n k A L (by omega) W h)
  cases hv : vaB L q with
  | false =>
    rw [imL_no (in_va hv)]
    rw [hv] at KV
    clear hv hS
    go_enter Try.func20, Try.ntmps20
    go_wp2_with (go_at_call 15; (with_reducible refine KV.out.mono ?_); rintro e w1 ⟨rfl, hu1⟩)
    go_ret
    exact ⟨_, _, _, rfl, by omega, Sl.none_, hu1⟩
  | true =>
  rw [hv] at KV
  cases ht : tickB t with
  | false =>
    rw [imL_no (in_fol (fol_no ht))]
    rw [ht] at KT
    clear hv hS ht
    go_enter Try.func20, Try.ntmps20
    go_wp2_with (first | (go_at_call 15; (with_reducible refine KV.out.mono ?_); rintro e w1 ⟨rfl, hu1⟩) | (go_at_call 42; (with_reducible refine (KT.out _).mono ?_); rintro e w' ⟨rfl, rfl⟩))
    go_ret
    exact ⟨_, _, _, rfl, by omega, Sl.none_, hu1⟩
  | true =>
  rw [ht] at KT
  by_cases h3 : t < lstZ L
  · rw [imL_no (in_fol (fol_late h3 ht))]
    generalize lstZ L = z at *
    clear hv hS ht
    go_enter Try.func20, Try.ntmps20
    go_wp2_with (first | (go_at_call 15; (with_reducible refine KV.out.mono ?_); rintro e w1 ⟨rfl, hu1⟩; have HU1 := Lib.hid hu1; clear hu1) | (go_at_call 42; (with_reducible refine (KT.out _).mono ?_); rintro e w' ⟨rfl, rfl⟩) | (go_at_call 44; (with_reducible refine (KL.out _ (HS.out.up HU1.out)).mono ?_); rintro e w' ⟨rfl, rfl⟩))
    go_ret
    exact ⟨_, _, _, rfl, by omega, Sl.none_, HU1.out⟩
  have hf := fol_yes h3 ht
  generalize lstZ L = z at *
  by_cases h4 : 1073741824 ≤ totB L
  · rw [imL_no (in_roo (roo_full (by omega) (by omega)))]
    generalize totB L = y at *
    clear hv hS ht hf
    go_enter Try.func20, Try.ntmps20
    go_wp2_with (first | (go_at_call 15; (with_reducible refine KV.out.mono ?_); rintro e w1 ⟨rfl, hu1⟩; have HU1 := Lib.hid hu1; clear hu1) | (go_at_call 42; (with_reducible refine (KT.out _).mono ?_); rintro e w' ⟨rfl, rfl⟩) | (go_at_call 44; (with_reducible refine (KL.out _ (HS.out.up HU1.out)).mono ?_); rintro e w' ⟨rfl, rfl⟩) | (go_at_call 17; (with_reducible refine (KR.out _ (HS.out.up HU1.out)).mono ?_); rintro e w2 ⟨rfl, hu2⟩; have HU2 := Lib.hid (HU1.out.trans hu2); clear hu2))
    go_ret
    exact ⟨_, _, _, rfl, by omega, Sl.none_, HU2.out⟩
  have ei : imL L q t 1 = puB q t L := imL_yes (by unfold inB; rw [hv, hf, roo_yes (by omega) (by omega) (fun _ => by omega)]; rfl)
  rw [ei]
  have hva := vaB_iff.1 hv
  obtain ⟨htt, hla⟩ := fol_all hva.as_ hf
  have HG := Lib.hid (fun W (h : Sl W A n L) => rput_up n k A L q t (totB L + 1) W h (hva.start htt.1 htt.2 hla) (by omega) (by omega))
  generalize puB q t L = Z at *
  have HT := Lib.hid h4
  generalize totB L = y at *
  clear hv hS ei hva hla ht hf
  go_enter Try.func20, Try.ntmps20
  go_wp2_with (first | (go_at_call 15; (with_reducible refine KV.out.mono ?_); rintro e w1 ⟨rfl, hu1⟩; have HU1 := Lib.hid hu1; clear hu1) | (go_at_call 42; (with_reducible refine (KT.out _).mono ?_); rintro e w' ⟨rfl, rfl⟩) | (go_at_call 44; (with_reducible refine (KL.out _ (HS.out.up HU1.out)).mono ?_); rintro e w' ⟨rfl, rfl⟩) | (go_at_call 17; (with_reducible refine (KR.out _ (HS.out.up HU1.out)).mono ?_); rintro e w2 ⟨rfl, hu2⟩; have HU2 := Lib.hid (HU1.out.trans hu2); clear hu2) | (go_at_call 45; (with_reducible refine (HG.out _ (HS.out.up HU2.out)).mono ?_); rintro e w6 ⟨A6, n6, k6, rfl, hn6, ho6, hu6⟩))
  go_ret
  obtain ⟨A7, k7, e7, _, hs7⟩ := ho6.sl
  cases e7
  exact ⟨_, _, _, rfl, by omega, hs7, HU2.out.trans hu6⟩
end Go.Proofs.Ytnhekeohbnmodaa
