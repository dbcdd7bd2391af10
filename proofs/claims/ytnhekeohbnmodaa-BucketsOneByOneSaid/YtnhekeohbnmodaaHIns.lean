/- InsertMany and Insert of package buckets. -/
import Derived.Test.YtnhekeohbnmodaaHGrow
import Derived.Test.YtnhekeohbnmodaaHVal
namespace Go.Proofs.Ytnhekeohbnmodaa
open Go.RowKit

/-- So many insertions. -/
def itB (q t : Int) : Nat → List It → List It
  | 0, L => L
  | n + 1, L => puB q t (itB q t n L)
def inB (L : List It) (q t m : Int) : Bool := vaB L q && (folB L t && rooB L m)
def imL (L : List It) (q t m : Int) : List It := if inB L q t m = true then itB q t m.toNat L else []
theorem imL_no {L : List It} {q t m : Int} (h : inB L q t m = false) : imL L q t m = [] := by unfold imL; rw [h]; rfl
theorem imL_yes {L : List It} {q t m : Int} (h : inB L q t m = true) : imL L q t m = itB q t m.toNat L := by unfold imL; rw [if_pos h]
theorem As.lst {L : List It} (h : As L) : ∀ x ∈ L, x.1 ≤ lstZ L := by
  intro x hx
  obtain ⟨j, hj, rfl⟩ := List.mem_iff_getElem.1 hx
  unfold lstZ
  rw [gD_at (show L.length - 1 < L.length by omega)]
  rcases Nat.lt_or_ge j (L.length - 1) with g | g
  · exact List.pairwise_iff_getElem.1 h j (L.length - 1) hj (by omega) g
  · have e : j = L.length - 1 := by omega
    subst e
    exact Int.le_refl _
theorem fol_all {L : List It} {t : Int} (h : As L) (hf : folB L t = true) : (0 ≤ t ∧ t ≤ 16777216) ∧ ∀ x ∈ L, x.1 ≤ t := by
  unfold folB at hf
  rw [Bool.and_eq_true, Bool.or_eq_true, decide_eq_true_eq, decide_eq_true_eq] at hf
  refine ⟨tickB_true hf.1, fun x hx => ?_⟩
  rcases hf.2 with g | g
  · rw [List.length_eq_zero_iff.1 g] at hx; cases hx
  · exact Int.le_trans (h.lst x hx) g
theorem fol_of {L : List It} {t : Int} (h0 : 0 ≤ t) (h1 : t ≤ 16777216) (hl : ∀ x ∈ L, x.1 ≤ t) : folB L t = true := by
  unfold folB
  rw [tickB_yes h0 h1]
  by_cases h : L = []
  · subst h; rfl
  · have : L.length ≠ 0 := fun e => h (List.length_eq_zero_iff.1 e)
    rw [decide_eq_true (p := lstZ L ≤ t) (hl _ (gD_mem (by omega)))]; simp
theorem roo_true {L : List It} {m : Int} (h : rooB L m = true) : (0 ≤ m ∧ m ≤ 1024) ∧ (0 < m → totB L + m ≤ 1073741824) := by
  unfold rooB at h
  rw [Bool.and_eq_true, Bool.or_eq_true, decide_eq_true_eq, decide_eq_true_eq, decide_eq_true_eq] at h
  refine ⟨h.1, fun h0 => ?_⟩
  rcases h.2 with g | g
  · omega
  · exact g
theorem itB_va {L : List It} {q t : Int} (h : Va L q) (h0 : 0 ≤ t) (h1 : t ≤ 16777216) (hl : ∀ x ∈ L, x.1 ≤ t) : ∀ n : Nat, (0 < n → totB L + n ≤ 1073741824) → Va (itB q t n L) q ∧ totB (itB q t n L) = totB L + n ∧ ∀ x ∈ itB q t n L, x.1 ≤ t := by
  intro n
  induction n with
  | zero => intro _; exact ⟨h, by simp [itB], hl⟩
  | succ n ih =>
    intro hT
    have hT := hT (by omega)
    obtain ⟨a, b, c⟩ := ih (fun _ => by omega)
    obtain ⟨d, e, f⟩ := puB_va a h0 h1 c (by omega)
    exact ⟨d, by unfold itB; rw [e, b]; omega, f⟩

set_option maxHeartbeats 4000000 in
set_option maxRecDepth 100000 in
theorem insertMany_up (n k : Nat) (A : Option Addr) (L : List It) (q t m : Int) (hn : n ≤ 50000) (w : World) (hS : Sl w A n L) :
    Calls Try.prog 21 #[.slice A n k, .int .i64 q, .int .i64 t, .int .i64 m] w fun e w' => ∃ A' n' k', e = .returned (.slice A' n' k') ∧ n' ≤ n + 1024 ∧ OwB w w' (.slice A' n' k') n' (imL L q t m) ∧ Up w w' := by
  have KV := Lib.hid (valid10_up n k A L q (by omega) w hS)
  have HS := Lib.hid hS
  have KF := Lib.hid (fun W (h : Sl W A n L) => follows_any n k A L t (by omega) W h)
  have KR := Lib.hid (fun W (h : Sl W A n L) => hasRoom_up n k A L m (by omega) W h)
  have KC := Lib.hid (fun W (h : Sl W A n L) => clone_up n k A L (by omega) W h)
  have KT := Lib.hid (fun W (h : Sl W A n L) => tallyOf_up n k A L (by omega) W h)
  cases hv : vaB L q with
  | false =>
    rw [imL_no (by unfold inB; rw [hv]; rfl)]
    rw [hv] at KV
    clear hv hS
    go_enter Try.func21, Try.ntmps21
    go_wp2_with (go_at_call 14; (with_reducible refine KV.out.mono ?_); rintro e w1 ⟨rfl, hu1⟩)
    go_ret
    exact ⟨_, _, _, rfl, by omega, OwB.nil _ _, hu1⟩
  | true =>
  rw [hv] at KV
  cases hf : folB L t with
  | false =>
    rw [imL_no (by unfold inB; rw [hf]; simp)]
    rw [hf] at KF
    clear hv hf hS
    go_enter Try.func21, Try.ntmps21
    go_wp2_with (first | (go_at_call 14; (with_reducible refine KV.out.mono ?_); rintro e w1 ⟨rfl, hu1⟩; have HU1 := Lib.hid hu1; clear hu1) | (go_at_call 46; (with_reducible refine (KF.out _ (HS.out.up HU1.out)).mono ?_); rintro e w' ⟨rfl, rfl⟩))
    go_ret
    exact ⟨_, _, _, rfl, by omega, OwB.nil _ _, HU1.out⟩
  | true =>
  rw [hf] at KF
  cases hr : rooB L m with
  | false =>
    rw [imL_no (by unfold inB; rw [hr]; simp)]
    rw [hr] at KR
    clear hv hf hr hS
    go_enter Try.func21, Try.ntmps21
    go_wp2_with (first | (go_at_call 14; (with_reducible refine KV.out.mono ?_); rintro e w1 ⟨rfl, hu1⟩; have HU1 := Lib.hid hu1; clear hu1) | (go_at_call 46; (with_reducible refine (KF.out _ (HS.out.up HU1.out)).mono ?_); rintro e w' ⟨rfl, rfl⟩) | (go_at_call 47; (with_reducible refine (KR.out _ (HS.out.up HU1.out)).mono ?_); rintro e w2 ⟨rfl, hu2⟩; have HU2 := Lib.hid (HU1.out.trans hu2); clear hu2))
    go_ret
    exact ⟨_, _, _, rfl, by omega, OwB.nil _ _, HU2.out⟩
  | true =>
  rw [hr] at KR
  have ei : imL L q t m = itB q t m.toNat L := imL_yes (by unfold inB; rw [hv, hf, hr]; rfl)
  rw [ei]
  have hva := vaB_iff.1 hv
  obtain ⟨ht, hla⟩ := fol_all hva.as_ hf
  obtain ⟨hm, hro⟩ := roo_true hr
  have HV := Lib.hid (fun i hi => itB_va hva ht.1 ht.2 hla i hi)
  have et : taV L = .tuple #[.agg (tyL (fun j => (cn (j : Int) L : Int))).toArray, .bool true] := by
    unfold taV tyF; rw [lvB_of (orB_iff.2 ⟨hva.rg, hva.ds, hva.as_⟩)]; rfl
  rw [et] at KT
  have HRO := Lib.hid hro
  obtain ⟨m, rfl⟩ : ∃ x : Nat, m = x := ⟨m.toNat, by omega⟩
  rw [Int.toNat_natCast]
  generalize hF : (fun j : Nat => (cn (j : Int) L : Int)) = F at KT
  have HF := Lib.hid hF
  clear hv hf hr hS ei hva hla hro et hF
  go_enter Try.func21, Try.ntmps21
  go_wp2_with (first | (go_at_call 14; (with_reducible refine KV.out.mono ?_); rintro e w1 ⟨rfl, hu1⟩; have HU1 := Lib.hid hu1; clear hu1) | (go_at_call 46; (with_reducible refine (KF.out _ (HS.out.up HU1.out)).mono ?_); rintro e w' ⟨rfl, rfl⟩) | (go_at_call 47; (with_reducible refine (KR.out _ (HS.out.up HU1.out)).mono ?_); rintro e w2 ⟨rfl, hu2⟩; have HU2 := Lib.hid (HU1.out.trans hu2); clear hu2) | (go_at_call 48; (with_reducible refine (KC.out _ (HS.out.up HU2.out)).mono ?_); rintro e w3 ⟨A3, k3, rfl, ho3, hu3⟩; have HO3 := Lib.hid (ho3.weak HU2.out.size); have HU3 := Lib.hid (HU2.out.trans hu3); clear hu3 ho3) | (go_at_call 40; (with_reducible refine (KT.out _ (HS.out.up HU3.out)).mono ?_); rintro e w4 ⟨rfl, hu4⟩; have HU4 := Lib.hid (HU3.out.trans hu4); have HO4 := Lib.hid (HO3.out.of_up hu4); clear hu4) | (refine wpList_store_ty rfl (.tmp 10) (.tmp 33) rfl w4.heap.size (fun _ => 0) F rfl rfl (Ty.zero w4) ?_; intro w5 hc5 ht5; have HU5 := Lib.hid (hc5.up _ (HU4.out.alloc _ _) HU4.out.size); have HO5 := Lib.hid (HO4.out.of_up (hc5.up _ ((Up.refl w4).alloc _ _) (Nat.le_refl _))); have HT5 := Lib.hid ht5; clear hc5 ht5))
  rw [← HF.out] at HT5
  have hb := HU4.out.size
  go_loopw [9, 36] (fun s9 s36 wr => ∃ (i n' k' : Nat) (A' : Option Addr), s9 = .slice A' n' k' ∧ s36 = .int .i64 i ∧ i ≤ m ∧ n' ≤ n + i ∧ Hid (OwB w wr (.slice A' n' k') n' (itB q t i L)) ∧ Hid (Ty wr w4.heap.size (fun j => (cn (j : Int) (itB q t i L) : Int))) ∧ Hid (Up w wr)) (fun _ t _ => m - (intOf t).toNat)
  case atStart => exact ⟨0, n, _, _, rfl, rfl, by omega, by omega, HO5, HT5, HU5⟩
  case round =>
    obtain ⟨i, n', k', A', rfl, rfl, hi, hn', HO, HT, HU⟩ := hrel
    by_cases h : i < m
    · have f2 : (i : Int) < m := by omega
      have f3 : (0 : Int) ≤ i := by omega
      have HG := Lib.hid (by
        have hT := HRO.out (by omega)
        obtain ⟨a, b, c⟩ := HV.out i (fun _ => by omega)
        exact grow_up w A' n' k' w4.heap.size (itB q t i L) q t (totB (itB q t i L) + 1) wr HU.out HO.out HT.out hb (a.start ht.1 ht.2 c) (by rw [b]; omega) (by omega))
      go_wp2_with (go_at_call 49; (with_reducible refine HG.out.mono ?_); rintro e w6 ⟨A6, n6, k6, rfl, hn6, ho6, ht6, hu6⟩)
      go_roundw
      case rel => exact ⟨i + 1, n6, k6, A6, rfl, by go_num, by omega, by omega, Lib.hid ho6, Lib.hid ht6, Lib.hid hu6⟩
      case measure => simp [intOf]; omega
    · obtain rfl : i = m := by omega
      go_wp2_with fail
      go_ret
      exact ⟨_, _, _, rfl, by omega, HO.out, HU.out⟩
theorem insert_up (n k : Nat) (A : Option Addr) (L : List It) (q t : Int) (hn : n ≤ 50000) (w : World) (hS : Sl w A n L) :
    Calls Try.prog 19 #[.slice A n k, .int .i64 q, .int .i64 t] w fun e w' => ∃ A' n' k', e = .returned (.slice A' n' k') ∧ n' ≤ n + 1024 ∧ OwB w w' (.slice A' n' k') n' (imL L q t 1) ∧ Up w w' := by
  have KM := Lib.hid (insertMany_up n k A L q t 1 hn w hS)
  go_enter Try.func19, Try.ntmps19
  go_wp2_with (go_at_call 21; (with_reducible refine KM.out.mono ?_); rintro e w1 ⟨A', n', k', rfl, h1, h2, h3⟩)
  go_ret
  exact ⟨_, _, _, rfl, h1, h2, h3⟩
end Go.Proofs.Ytnhekeohbnmodaa
