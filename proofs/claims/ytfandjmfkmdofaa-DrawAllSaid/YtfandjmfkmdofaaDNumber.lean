/- Number of package draw, and of its reference. -/
import Derived.Test.YtfandjmfkmdofaaDWeight
namespace Go.Proofs.Ytfandjmfkmdofaa
open Go.RowKit

/-- What one more draw does to the number so far. -/
theorem nm_next {a P x d : Int} (a0 : 0 ≤ a) (a1 : a < P) (p2 : P * x ≤ 4611686018427387904) (x1 : 1 ≤ x) (d0 : 0 ≤ d) (d1 : d < x) :
    0 ≤ a * x ∧ a * x ≤ 4611686018427387904 ∧ 0 ≤ a * x + d ∧ a * x + d < P * x := by
  have h1 : 0 ≤ a * x := Int.mul_nonneg a0 (by omega)
  have h2 : (a + 1) * x ≤ P * x := Int.mul_le_mul_of_nonneg_right (by omega) (by omega)
  rw [Int.add_mul, Int.one_mul] at h2
  omega
theorem wtF_head {p W : Int} {L : List Int} {i : Nat} (h : i < L.length) (hW : wtF p (L.drop i) = some W) : 1 ≤ L.getD i 0 ∧ p * L.getD i 0 ≤ 4611686018427387904 ∧ wtF (p * L.getD i 0) (L.drop (i + 1)) = some W := by
  rw [drop_cons h, wtF] at hW
  split at hW
  · rename_i hx; exact ⟨hx.1, hx.2, hW⟩
  · cases hW
theorem nmO_bad {L D : List Int} (h : wtO L = none) : nmO L D = none := by unfold nmO; rw [h]; rfl
theorem nmO_len {L D : List Int} (h : D.length ≠ L.length) : nmO L D = none := by unfold nmO; rw [if_neg (fun k => h k.2)]
theorem nmO_good {L D : List Int} {W : Int} (h : wtO L = some W) (hl : D.length = L.length) : nmO L D = nmF 0 L D := by unfold nmO; rw [if_pos ⟨by rw [h]; rfl, hl⟩]

set_option maxHeartbeats 4000000 in
theorem number_any (n k : Nat) (A : Option Addr) (L : List Int) (m k' : Nat) (B : Option Addr) (D : List Int) (hz : n * 8 ≤ 140737488351232) (hin : ∀ x ∈ L, In x) (w : World) (hS : Sn w A n L) (hT : Sn w B m D) :
    Calls Try.prog 17 #[.slice A n k, .slice B m k'] w fun e w' => e = gotO (nmO L D) ∧ w = w' := by
  have KW := Lib.hid (weight_any n k A L hz hin w hS)
  cases hw : wtO L with
  | none =>
    rw [nmO_bad hw]
    rw [hw] at KW
    clear hS hT hin hw
    go_enter Try.func17, Try.ntmps17
    go_wp2_with fail
    refine KW.out.mono ?_
    rintro e w' ⟨rfl, rfl⟩
    go_wp2_with fail
    go_ret2
    exact ⟨rfl, rfl⟩
  | some W =>
  rw [hw] at KW
  by_cases hmn : m = n
  case neg =>
    have t1 : ((m : Int) != (n : Int)) = true := bne_iff_ne.2 (by omega)
    rw [nmO_len (by rw [hS.1, hT.1]; exact hmn)]
    clear hS hT hin hw
    go_enter Try.func17, Try.ntmps17
    go_wp2_with fail
    refine KW.out.mono ?_
    rintro e w' ⟨rfl, rfl⟩
    go_wp2_with fail
    go_ret2
    exact ⟨rfl, rfl⟩
  subst hmn
  rw [nmO_good hw (by rw [hS.1, hT.1])]
  obtain ⟨hl, hcell⟩ := hS
  obtain ⟨hl', hcell'⟩ := hT
  have HL := Lib.hid hl
  have HC := Lib.hid hcell
  have HL' := Lib.hid hl'
  have HC' := Lib.hid hcell'
  have HWt := Lib.hid hw
  have HI := Lib.hid hin
  clear hl hcell hl' hcell' hw hin
  generalize hr : nmF 0 L D = r
  have HR := Lib.hid hr
  clear hr
  go_enter Try.func17, Try.ntmps17
  go_wp2_with fail
  refine KW.out.mono ?_
  rintro e w' ⟨rfl, rfl⟩
  go_wp2_with fail
  go_loop [8, 27] (fun s d => ∃ (i : Nat) (a P : Int), s = .int .i64 a ∧ d = .int .i64 i ∧ i ≤ m ∧ 0 ≤ a ∧ a < P ∧ 1 ≤ P ∧ P ≤ 4611686018427387904 ∧ Hid (wtF P (L.drop i) = some W) ∧ Hid (nmF a (L.drop i) (D.drop i) = r)) (fun _ d => m - (intOf d).toNat)
  case atStart => exact ⟨0, 0, 1, rfl, rfl, Nat.zero_le _, by omega, by omega, by omega, by omega, Lib.hid (by rw [List.drop_zero]; exact HWt.out), Lib.hid (by rw [List.drop_zero, List.drop_zero]; exact HR.out)⟩
  case round =>
    obtain ⟨i, a, P, rfl, rfl, hin, a0, a1, p1, p2, HW, HN⟩ := hrel
    by_cases hi : i < m
    · obtain ⟨b, o, rfl, hc⟩ := HC.out (by omega)
      obtain ⟨b', o', rfl, hc'⟩ := HC'.out (by omega)
      have c1 : w.cell? ⟨b, o + i, none⟩ = some (.int .i64 (L.getD i 0)) := hc i hi
      have c2 : w.cell? ⟨b', o' + i, none⟩ = some (.int .i64 (D.getD i 0)) := hc' i hi
      have hil : i < L.length := by rw [HL.out]; exact hi
      have hil' : i < D.length := by rw [HL'.out]; exact hi
      obtain ⟨x1, x2, hx⟩ := wtF_head hil HW.out
      have HW1 := Lib.hid hx
      by_cases hd : 0 ≤ D.getD i 0 ∧ D.getD i 0 < L.getD i 0
      · have KD := Lib.hid (isDraw_any (D.getD i 0) (L.getD i 0) true (decide_eq_true hd))
        have HN1 := Lib.hid ((nmF_yes (a := a) hil hil' hd.1 hd.2).symm.trans HN.out)
        obtain ⟨d0, d1⟩ := hd
        obtain ⟨y0, y1, y2, y3⟩ := nm_next a0 a1 x2 x1 d0 d1
        have x3 : 1 * 1 ≤ P * L.getD i 0 := Int.mul_le_mul p1 x1 (by omega) (by omega)
        generalize L.getD i 0 = x at *
        generalize D.getD i 0 = d at *
        generalize P * x = Q at *
        have e1 : IntKind.i64.wrap (a * x) = a * x := IntWalk.i64_in _ (by omega)
        have e2 : IntKind.i64.wrap (a * x + d) = a * x + d := IntWalk.i64_in _ (by omega)
        clear hc hc' HC HC' HR HW HN hil hil' HL HL' HWt hx HI
        go_wp2_with fail
        refine (KD.out _).mono ?_
        rintro e w' ⟨rfl, rfl⟩
        go_wp2_with fail
        go_round
        case rel => exact ⟨i + 1, a * x + d, Q, by first | rfl | simp, by first | rfl | simp, by omega, by omega, by omega, by omega, by omega, HW1, HN1⟩
        case measure => simp only [intOf]; omega
      · have KD := Lib.hid (isDraw_any (D.getD i 0) (L.getD i 0) false (decide_eq_false hd))
        obtain rfl : r = none := by rw [← HN.out]; exact nmF_no hil hil' hd
        generalize L.getD i 0 = x at *
        generalize D.getD i 0 = d at *
        clear hc hc' HC HC' HR HW HN hil hil' HL HL' HWt hx HW1 hd x2 HI
        go_wp2_with fail
        refine (KD.out _).mono ?_
        rintro e w' ⟨rfl, rfl⟩
        go_wp2_with fail
        go_ret2
        exact ⟨rfl, rfl⟩
    · obtain rfl : i = m := by omega
      obtain rfl : r = some a := by rw [← HN.out]; exact nmF_end (by rw [HL.out]; exact Nat.le_refl _)
      clear HW HR HC HL HC' HL' HN HWt HI
      go_wp2_with fail
      go_ret2
      exact ⟨rfl, rfl⟩

set_option maxHeartbeats 4000000 in
theorem rnumber_any (n k : Nat) (A : Option Addr) (L : List Int) (m k' : Nat) (B : Option Addr) (D : List Int) (hz : n * 8 ≤ 140737488351232) (hin : ∀ x ∈ L, In x) (w : World) (hS : Sn w A n L) (hT : Sn w B m D) :
    Calls Try.prog 18 #[.slice A n k, .slice B m k'] w fun e w' => e = gotO (nmO L D) ∧ w = w' := by
  have KW := Lib.hid (rweight_any n k A L hz hin w hS)
  cases hw : wtO L with
  | none =>
    rw [nmO_bad hw]
    rw [hw] at KW
    clear hS hT hin hw
    go_enter Try.func18, Try.ntmps18
    go_wp2_with fail
    refine KW.out.mono ?_
    rintro e w' ⟨rfl, rfl⟩
    go_wp2_with fail
    go_ret2
    exact ⟨rfl, rfl⟩
  | some W =>
  rw [hw] at KW
  by_cases hmn : m = n
  case neg =>
    have t1 : ((m : Int) != (n : Int)) = true := bne_iff_ne.2 (by omega)
    rw [nmO_len (by rw [hS.1, hT.1]; exact hmn)]
    clear hS hT hin hw
    go_enter Try.func18, Try.ntmps18
    go_wp2_with fail
    refine KW.out.mono ?_
    rintro e w' ⟨rfl, rfl⟩
    go_wp2_with fail
    go_ret2
    exact ⟨rfl, rfl⟩
  subst hmn
  rw [nmO_good hw (by rw [hS.1, hT.1])]
  obtain ⟨hl, hcell⟩ := hS
  obtain ⟨hl', hcell'⟩ := hT
  have HL := Lib.hid hl
  have HC := Lib.hid hcell
  have HL' := Lib.hid hl'
  have HC' := Lib.hid hcell'
  have HWt := Lib.hid hw
  have HI := Lib.hid hin
  clear hl hcell hl' hcell' hw hin
  generalize hr : nmF 0 L D = r
  have HR := Lib.hid hr
  clear hr
  go_enter Try.func18, Try.ntmps18
  go_wp2_with fail
  refine KW.out.mono ?_
  rintro e w' ⟨rfl, rfl⟩
  go_wp2_with fail
  go_loop [8, 27] (fun s d => ∃ (i : Nat) (a P : Int), s = .int .i64 a ∧ d = .int .i64 i ∧ i ≤ m ∧ 0 ≤ a ∧ a < P ∧ 1 ≤ P ∧ P ≤ 4611686018427387904 ∧ Hid (wtF P (L.drop i) = some W) ∧ Hid (nmF a (L.drop i) (D.drop i) = r)) (fun _ d => m - (intOf d).toNat)
  case atStart => exact ⟨0, 0, 1, rfl, rfl, Nat.zero_le _, by omega, by omega, by omega, by omega, Lib.hid (by rw [List.drop_zero]; exact HWt.out), Lib.hid (by rw [List.drop_zero, List.drop_zero]; exact HR.out)⟩
  case round =>
    obtain ⟨i, a, P, rfl, rfl, hin, a0, a1, p1, p2, HW, HN⟩ := hrel
    by_cases hi : i < m
    · obtain ⟨b, o, rfl, hc⟩ := HC.out (by omega)
      obtain ⟨b', o', rfl, hc'⟩ := HC'.out (by omega)
      have c1 : w.cell? ⟨b, o + i, none⟩ = some (.int .i64 (L.getD i 0)) := hc i hi
      have c2 : w.cell? ⟨b', o' + i, none⟩ = some (.int .i64 (D.getD i 0)) := hc' i hi
      have hil : i < L.length := by rw [HL.out]; exact hi
      have hil' : i < D.length := by rw [HL'.out]; exact hi
      obtain ⟨x1, x2, hx⟩ := wtF_head hil HW.out
      have HW1 := Lib.hid hx
      by_cases d0 : 0 ≤ D.getD i 0
      · by_cases d1 : D.getD i 0 < L.getD i 0
        · have HN1 := Lib.hid ((nmF_yes (a := a) hil hil' d0 d1).symm.trans HN.out)
          obtain ⟨y0, y1, y2, y3⟩ := nm_next a0 a1 x2 x1 d0 d1
          have x3 : 1 * 1 ≤ P * L.getD i 0 := Int.mul_le_mul p1 x1 (by omega) (by omega)
          generalize L.getD i 0 = x at *
          generalize D.getD i 0 = d at *
          generalize P * x = Q at *
          have e1 : IntKind.i64.wrap (a * x) = a * x := IntWalk.i64_in _ (by omega)
          have e2 : IntKind.i64.wrap (a * x + d) = a * x + d := IntWalk.i64_in _ (by omega)
          clear hc hc' HC HC' HR HW HN hil hil' HL HL' HWt hx HI
          go_wp2_with fail
          go_round
          case rel => exact ⟨i + 1, a * x + d, Q, by first | rfl | simp, by first | rfl | simp, by omega, by omega, by omega, by omega, by omega, HW1, HN1⟩
          case measure => simp only [intOf]; omega
        · obtain rfl : r = none := by rw [← HN.out]; exact nmF_no hil hil' (fun h => d1 h.2)
          generalize L.getD i 0 = x at *
          generalize D.getD i 0 = d at *
          clear hc hc' HC HC' HR HW HN hil hil' HL HL' HWt hx HW1 x2 HI
          go_wp2_with fail
          go_ret2
          exact ⟨rfl, rfl⟩
      · obtain rfl : r = none := by rw [← HN.out]; exact nmF_no hil hil' (fun h => d0 h.1)
        generalize L.getD i 0 = x at *
        generalize D.getD i 0 = d at *
        clear hc hc' HC HC' HR HW HN hil hil' HL HL' HWt hx HW1 x2 HI
        go_wp2_with fail
        go_ret2
        exact ⟨rfl, rfl⟩
    · obtain rfl : i = m := by omega
      obtain rfl : r = some a := by rw [← HN.out]; exact nmF_end (by rw [HL.out]; exact Nat.le_refl _)
      clear HW HR HC HL HC' HL' HN HWt HI
      go_wp2_with fail
      go_ret2
      exact ⟨rfl, rfl⟩
end Go.Proofs.Ytfandjmfkmdofaa
