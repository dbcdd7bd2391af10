/- What total and number of the reference of layer 8 return. -/
import Derived.Test.YtafkoddgefcpnabRows
import Derived.Test.YtafkoddgefcpnabZEPolyq91
namespace Go.Proofs.Ytafkoddgefcpnab
open Go.RowKit

/-- One step of total, and all of them. -/
def totS (t : Int × Int × Bool) (x : Int) (s : Bool) : Int × Int × Bool :=
  if s = true then (t.1, fit2 (t.2.1 + x), t.2.2 && fits2 (t.2.1 + x)) else (fit2 (t.1 + x), t.2.1, t.2.2 && fits2 (t.1 + x))
def totN (xs : Nat → Int) (sg : Nat → Bool) : Nat → Int × Int × Bool
  | 0 => (0, 0, true)
  | i + 1 => totS (totN xs sg i) (xs i) (sg i)
theorem totN_in2 (xs : Nat → Int) (sg : Nat → Bool) (i : Nat) : In2 (totN xs sg i).1 ∧ In2 (totN xs sg i).2.1 := by
  induction i with
  | zero => exact ⟨(⟨by decide, by decide⟩ : In2 0), (⟨by decide, by decide⟩ : In2 0)⟩
  | succ i ih =>
    simp only [totN, totS]
    split
    · exact ⟨ih.1, fit2_in2 _⟩
    · exact ⟨fit2_in2 _, ih.2⟩
/-- A slice of wide numbers, and one of bools. -/
def Sw (w : World) (A : Option Addr) (n : Nat) (xs : Nat → Int) : Prop := 0 < n → ∃ b o, A = some ⟨b, o, none⟩ ∧ ∀ j, j < n → w.cell? ⟨b, o + j * 2, none⟩ = some (.int .u64 (hiZ (xs j))) ∧ w.cell? ⟨b, o + j * 2 + 1, none⟩ = some (.int .u64 (loZ (xs j)))
def Sb (w : World) (A : Option Addr) (n : Nat) (sg : Nat → Bool) : Prop := 0 < n → ∃ b o, A = some ⟨b, o, none⟩ ∧ ∀ j, j < n → w.cell? ⟨b, o + j, none⟩ = some (.bool (sg j))
theorem Sw.up {w w' : World} {A : Option Addr} {n : Nat} {xs : Nat → Int} (h : Sw w A n xs) (hu : Up w w') : Sw w' A n xs := fun hn => by
  obtain ⟨b, o, e, hc⟩ := h hn
  exact ⟨b, o, e, fun j hj => ⟨hu.keep _ _ _ (hc j hj).1, hu.keep _ _ _ (hc j hj).2⟩⟩
theorem Sb.up {w w' : World} {A : Option Addr} {n : Nat} {sg : Nat → Bool} (h : Sb w A n sg) (hu : Up w w') : Sb w' A n sg := fun hn => by
  obtain ⟨b, o, e, hc⟩ := h hn
  exact ⟨b, o, e, fun j hj => hu.keep _ _ _ (hc j hj)⟩
/-- What the walk of total holds. -/
structure Tr (w wr : World) (p q : Int) : Prop where
  up : Up w wr
  r0 : wr.cell? ⟨w.heap.size, 0, none⟩ = some (.int .u64 0)
  r1 : wr.cell? ⟨w.heap.size, 1, none⟩ = some (.int .u64 0)
  r2 : wr.cell? ⟨w.heap.size + 1, 0, none⟩ = some (.int .u64 0)
  r3 : wr.cell? ⟨w.heap.size + 1, 1, none⟩ = some (.int .u64 0)
  p0 : wr.cell? ⟨w.heap.size + 1 + 1, 0, none⟩ = some (.int .u64 (hiZ p))
  p1 : wr.cell? ⟨w.heap.size + 1 + 1, 1, none⟩ = some (.int .u64 (loZ p))
  q0 : wr.cell? ⟨w.heap.size + 1 + 1 + 1, 0, none⟩ = some (.int .u64 (hiZ q))
  q1 : wr.cell? ⟨w.heap.size + 1 + 1 + 1, 1, none⟩ = some (.int .u64 (loZ q))
theorem Tr.keep {w w1 w2 : World} {p q : Int} (h : Tr w w1 p q) (hu : Up w1 w2) : Tr w w2 p q :=
  ⟨h.up.trans hu, hu.keep _ _ _ h.r0, hu.keep _ _ _ h.r1, hu.keep _ _ _ h.r2, hu.keep _ _ _ h.r3, hu.keep _ _ _ h.p0, hu.keep _ _ _ h.p1, hu.keep _ _ _ h.q0, hu.keep _ _ _ h.q1⟩
theorem far2e {w : World} {g b o i j : Nat} {x y v : Value} (h : w.cell? ⟨b, o, none⟩ = some v) (hn : g ≠ b) : ((w.setCell ⟨g, i, none⟩ x).setCell ⟨g, j, none⟩ y).cell? ⟨b, o, none⟩ = some v := (cell_far hn).trans ((cell_far hn).trans h)
theorem Tr.setP {w w1 : World} {p q u : Int} (h : Tr w w1 p q) : Tr w ((w1.setCell ⟨w.heap.size + 1 + 1, 0, none⟩ (.int .u64 (hiZ u))).setCell ⟨w.heap.size + 1 + 1, 1, none⟩ (.int .u64 (loZ u))) u q := by
  refine ⟨(h.up.setCell (by show w.heap.size ≤ w.heap.size + 1 + 1; omega) _).setCell (by show w.heap.size ≤ w.heap.size + 1 + 1; omega) _, far2e h.r0 (by omega), far2e h.r1 (by omega), far2e h.r2 (by omega), far2e h.r3 (by omega), ?_, ?_, far2e h.q0 (by omega), far2e h.q1 (by omega)⟩
  · rw [cell_set (cell_set h.p0)]; rfl
  · rw [cell_set (cell_set h.p1)]; rfl
theorem Tr.setQ {w w1 : World} {p q u : Int} (h : Tr w w1 p q) : Tr w ((w1.setCell ⟨w.heap.size + 1 + 1 + 1, 0, none⟩ (.int .u64 (hiZ u))).setCell ⟨w.heap.size + 1 + 1 + 1, 1, none⟩ (.int .u64 (loZ u))) p u := by
  refine ⟨(h.up.setCell (by show w.heap.size ≤ w.heap.size + 1 + 1 + 1; omega) _).setCell (by show w.heap.size ≤ w.heap.size + 1 + 1 + 1; omega) _, far2e h.r0 (by omega), far2e h.r1 (by omega), far2e h.r2 (by omega), far2e h.r3 (by omega), far2e h.p0 (by omega), far2e h.p1 (by omega), ?_, ?_⟩
  · rw [cell_set (cell_set h.q0)]; rfl
  · rw [cell_set (cell_set h.q1)]; rfl

set_option maxHeartbeats 8000000 in
set_option maxRecDepth 100000 in
theorem rtotal_up (n k1 k2 : Nat) (A B : Option Addr) (xs : Nat → Int) (sg : Nat → Bool) (hx : ∀ j, j < n → In2 (xs j)) (hn : n ≤ 1000000) (w : World) (hA : Sw w A n xs) (hB : Sb w B n sg) :
    Calls Try.prog 34 #[.slice A n k1, .slice B n k2] w fun e w' => e = .returned (.tuple #[.agg #[.int .u64 (hiZ (totN xs sg n).1), .int .u64 (loZ (totN xs sg n).1)], .agg #[.int .u64 (hiZ (totN xs sg n).2.1), .int .u64 (loZ (totN xs sg n).2.1)], .bool (totN xs sg n).2.2]) ∧ Up w w' := by
  have HA := Lib.hid hA
  have HB := Lib.hid hB
  have HX := Lib.hid hx
  clear hA hB hx
  obtain ⟨P, hP⟩ : ∃ t, t = (totN xs sg n).1 := ⟨_, rfl⟩
  obtain ⟨Q, hQ⟩ : ∃ t, t = (totN xs sg n).2.1 := ⟨_, rfl⟩
  obtain ⟨R, hR⟩ : ∃ t, t = (totN xs sg n).2.2 := ⟨_, rfl⟩
  rw [← hP, ← hQ, ← hR]
  have HP := Lib.hid hP
  have HQ := Lib.hid hQ
  have HR := Lib.hid hR
  clear hP hQ hR
  go_enter Try.func34, Try.ntmps34
  go_wp2_with fail
  go_loopw [9, 15] (fun s t wr => ∃ i : Nat, s = .bool (totN xs sg i).2.2 ∧ t = .int .i64 i ∧ i ≤ n ∧ Tr w wr (totN xs sg i).1 (totN xs sg i).2.1) (fun _ t _ => n - (intOf t).toNat)
  case atStart =>
    refine ⟨0, rfl, rfl, Nat.zero_le _, ⟨?_, by simp [go_sem], by simp [go_sem], by simp [go_sem], by simp [go_sem], by simp [go_sem, totN, hiZ], by simp [go_sem, totN, loZ], by simp [go_sem, totN, hiZ], by simp [go_sem, totN, loZ]⟩⟩
    repeat (first | exact Up.refl _ | refine Up.alloc ?_ _ _ | refine Up.setCell ?_ (by first | (simp; done) | (simp; omega) | omega) _ | refine Up.drewN ?_ _ | refine Up.drew ?_)
  case round =>
    obtain ⟨i, rfl, rfl, hin, hT⟩ := hrel
    by_cases hi : i < n
    · obtain ⟨b, o, rfl, hc⟩ := (HA.out.up hT.up) (by omega)
      obtain ⟨b', o', rfl, hc'⟩ := (HB.out.up hT.up) (by omega)
      obtain ⟨d0, d1⟩ := hc i hi
      have d2 := hc' i hi
      obtain ⟨ip, iq⟩ := totN_in2 xs sg i
      have ix := HX.out i hi
      have KP := Lib.hid (fun W => radd_up (hiZ (totN xs sg i).1) (loZ (totN xs sg i).1) (hiZ (xs i)) (loZ (xs i)) (hiZ_word ip) (loZ_word _) (hiZ_word ix) (loZ_word _) W)
      have KQ := Lib.hid (fun W => radd_up (hiZ (totN xs sg i).2.1) (loZ (totN xs sg i).2.1) (hiZ (xs i)) (loZ (xs i)) (hiZ_word iq) (loZ_word _) (hiZ_word ix) (loZ_word _) W)
      rw [val_hilo, val_hilo] at KP KQ
      have HN : Hid (totN xs sg (i + 1) = totS (totN xs sg i) (xs i) (sg i)) := Lib.hid rfl
      generalize hN : totN xs sg (i + 1) = t1 at HN
      have HT1 := Lib.hid hN
      clear hN
      generalize totN xs sg i = tt at *
      obtain ⟨p, q, ok⟩ := tt
      simp only at *
      generalize xs i = x at *
      have f2 : (i : Int) < n := by omega
      have f3 : (0 : Int) ≤ i := by omega
      have lw : w.heap.size + 1 + 1 + 1 < wr.heap.size := World.block_lt_of_cell? _ _ hT.q0
      have HT := Lib.hid hT
      have e0 := hT.p0
      have e1 := hT.p1
      have e2 := hT.q0
      have e3 := hT.q1
      have la1 : w.heap.size + 1 + 1 < wr.heap.size := by omega
      have la2 : w.heap.size + 1 + 1 < wr.heap.size + 1 := by omega
      have la3 : w.heap.size + 1 + 1 + 1 < wr.heap.size + 1 := by omega
      have lb : b' < wr.heap.size := World.block_lt_of_cell? _ _ d2
      have lb2 : b' < wr.heap.size + 1 := by omega
      clear hT hc hc' ip iq ix
      cases hs : sg i with
      | true =>
        rw [hs] at d2 HN
        have HN1 : Hid (t1 = (p, fit2 (q + x), ok && fits2 (q + x))) := Lib.hid HN.out
        clear HN KP hs
        go_wp2_with fail
        refine (KQ.out _).mono ?_
        rintro e w2 ⟨rfl, hu2⟩
        have HT2 := Lib.hid ((HT.out.keep ((Up.refl wr).alloc _ _)).keep hu2)
        have s0 := HT2.out.q0
        have s1 := HT2.out.q1
        have y0 := HT2.out.up.ownGe (show w.heap.size ≤ w.heap.size + 1 + 1 + 1 by omega) 0
        have y1 := HT2.out.up.ownGe (show w.heap.size ≤ w.heap.size + 1 + 1 + 1 by omega) 1
        clear hu2
        unfold got2
        generalize fit2 (q + x) = u at *
        generalize fits2 (q + x) = fb at *
        cases ok
        all_goals
          go_wp2_with fail
          go_roundw
          case rel => exact ⟨i + 1, by rw [HT1.out, HN1.out]; rfl, by go_num, by omega, by rw [HT1.out, HN1.out]; exact HT2.out.setQ⟩
          case measure => simp [intOf]; omega
      | false =>
        rw [hs] at d2 HN
        have HN1 : Hid (t1 = (fit2 (p + x), q, ok && fits2 (p + x))) := Lib.hid HN.out
        clear HN KQ hs
        go_wp2_with fail
        refine (KP.out _).mono ?_
        rintro e w2 ⟨rfl, hu2⟩
        have HT2 := Lib.hid ((HT.out.keep ((Up.refl wr).alloc _ _)).keep hu2)
        have s0 := HT2.out.p0
        have s1 := HT2.out.p1
        have y0 := HT2.out.up.ownGe (show w.heap.size ≤ w.heap.size + 1 + 1 by omega) 0
        have y1 := HT2.out.up.ownGe (show w.heap.size ≤ w.heap.size + 1 + 1 by omega) 1
        clear hu2
        unfold got2
        generalize fit2 (p + x) = u at *
        generalize fits2 (p + x) = fb at *
        cases ok
        all_goals
          go_wp2_with fail
          go_roundw
          case rel => exact ⟨i + 1, by rw [HT1.out, HN1.out]; rfl, by go_num, by omega, by rw [HT1.out, HN1.out]; exact HT2.out.setP⟩
          case measure => simp [intOf]; omega
    · obtain rfl : i = n := by omega
      rw [← HP.out, ← HQ.out] at hT
      rw [← HR.out]
      have e0 := hT.p0
      have e1 := hT.p1
      have e2 := hT.q0
      have e3 := hT.q1
      have r0 := hT.r0
      have r1 := hT.r1
      have r2 := hT.r2
      have r3 := hT.r3
      have z0 := hT.up.ownGe (Nat.le_refl w.heap.size) 0
      have z1 := hT.up.ownGe (Nat.le_refl w.heap.size) 1
      have z2 := hT.up.ownGe (show w.heap.size ≤ w.heap.size + 1 by omega) 0
      have z3 := hT.up.ownGe (show w.heap.size ≤ w.heap.size + 1 by omega) 1
      have HT := Lib.hid hT.up
      clear hT HP HQ HR
      go_wp2_with fail
      go_region
      all_goals
        go_wp2_with fail
        refine bodyPost_ret (v := .tuple #[.agg #[.int .u64 (hiZ P), .int .u64 (loZ P)], .agg #[.int .u64 (hiZ Q), .int .u64 (loZ Q)], .bool R]) (by simp [results, Try.results34, go_sem, r0, r1, r2, r3]) rfl ⟨?_, ?_⟩
        · rfl
        · ((repeat (first | (with_reducible exact Up.refl _) | (with_reducible exact HT.out) | (with_reducible refine Up.alloc ?_ _ _) | (with_reducible refine Up.setCell ?_ ?_ _) | (with_reducible refine Up.drewN ?_ _) | (with_reducible refine Up.drew ?_))); all_goals (first | (simp; done) | (simp; omega) | omega))

theorem and_63 {l : Int} (h0 : 0 ≤ l) (h1 : l < 18446744073709551616) : bits .and .u64 l 9223372036854775807 = l % 9223372036854775808 := by
  obtain ⟨x, rfl⟩ := Int.eq_ofNat_of_zero_le h0
  rw [show (9223372036854775807 : Int) = ((9223372036854775807 : Nat) : Int) from rfl, bits_and_u64_nat x 9223372036854775807 (by omega) (by omega)]
  have := Nat.and_two_pow_sub_one_eq_mod x 63
  rw [show (2 : Nat) ^ 63 - 1 = 9223372036854775807 from rfl, show (2 : Nat) ^ 63 = 9223372036854775808 from rfl] at this
  rw [this]; omega

set_option maxHeartbeats 8000000 in
set_option maxRecDepth 100000 in
theorem rnumber_up (p q : Int) (hp : In2 p) (hq : In2 q) (w : World) :
    Calls Try.prog 35 #[.agg #[.int .u64 (hiZ p), .int .u64 (loZ p)], .agg #[.int .u64 (hiZ q), .int .u64 (loZ q)]] w fun e w' => (∃ v, e = got v (fits (p - q)) ∧ (fits (p - q) = true → v = p - q)) ∧ Up w w' := by
  have K1 := Lib.hid (fun W => rsub_up (hiZ p) (loZ p) (hiZ q) (loZ q) (hiZ_word hp) (loZ_word p) (hiZ_word hq) (loZ_word q) W)
  have K2 := Lib.hid (fun W => rsub_up (hiZ q) (loZ q) (hiZ p) (loZ p) (hiZ_word hq) (loZ_word q) (hiZ_word hp) (loZ_word p) W)
  rw [val_hilo, val_hilo] at K1 K2
  unfold got2 at K1 K2
  unfold In2 at hp hq
  generalize hph : hiZ p = ph at *
  generalize hpl : loZ p = pl at *
  generalize hqh : hiZ q = qh at *
  generalize hql : loZ q = ql at *
  clear hph hpl hqh hql
  by_cases hs : q ≤ p
  · have h2 : In2 (p - q) := ⟨by omega, by omega⟩
    rw [fit2_yes h2, fits2_yes h2] at K1
    clear K2
    generalize hd : p - q = d at *
    have hdd : d = hiZ d * 18446744073709551616 + loZ d := by unfold hiZ loZ; omega
    have hl := loZ_word d
    have hh := hiZ_word h2
    unfold Word at hl hh
    have ha := and_63 hl.1 hl.2
    have hm0 : 0 ≤ loZ d % 9223372036854775808 := by omega
    have hm1 : loZ d % 9223372036854775808 < 9223372036854775808 := by omega
    have k1 : IntKind.i64.wrap (loZ d % 9223372036854775808) = loZ d % 9223372036854775808 := IntWalk.i64_in _ (by omega)
    have HV : Hid (fits d = true → loZ d % 9223372036854775808 = d) := Lib.hid (fun h => by have := (of_decide_eq_true h : -9223372036854775808 ≤ d ∧ d ≤ 9223372036854775807); omega)
    by_cases h0 : hiZ d = 0
    · have t0 : (hiZ d == 0) = true := by simp [h0]
      have ef : fits d = decide (loZ d < 9223372036854775808) := by
        unfold fits
        by_cases hb : loZ d < 9223372036854775808
        · rw [decide_eq_true hb]; exact decide_eq_true (by omega)
        · rw [decide_eq_false hb]; exact decide_eq_false (by omega)
      rw [ef] at HV ⊢
      generalize hiZ d = dh at *
      generalize loZ d = dl at *
      generalize dl % 9223372036854775808 = m at *
      clear hdd hd h0 ef h2 hp hq
      by_cases hb : dl < 9223372036854775808
      · rw [decide_eq_true hb] at HV ⊢
        have t1 : decide (dl < 9223372036854775808) = true := decide_eq_true hb
        go_enter Try.func35, Try.ntmps35
        go_wp2_with fail
        refine (K1.out _).mono ?_
        rintro e w1 ⟨rfl, hu1⟩
        go_wp2_with fail
        go_quiet (fail)
        go_wp2_with fail
        go_ret2
        refine ⟨⟨m, rfl, HV.out⟩, ?_⟩
        repeat (first | exact Up.refl _ | (refine Up.trans ?_ (hu1); skip) | refine Up.alloc ?_ _ _ | refine Up.setCell ?_ (by first | (simp; done) | (simp; omega) | omega) _ | refine Up.drewN ?_ _ | refine Up.drew ?_)
      · rw [decide_eq_false hb] at HV ⊢
        have t1 : decide (dl < 9223372036854775808) = false := decide_eq_false hb
        go_enter Try.func35, Try.ntmps35
        go_wp2_with fail
        refine (K1.out _).mono ?_
        rintro e w1 ⟨rfl, hu1⟩
        go_wp2_with fail
        go_quiet (fail)
        go_wp2_with fail
        go_ret2
        refine ⟨⟨m, rfl, HV.out⟩, ?_⟩
        repeat (first | exact Up.refl _ | (refine Up.trans ?_ (hu1); skip) | refine Up.alloc ?_ _ _ | refine Up.setCell ?_ (by first | (simp; done) | (simp; omega) | omega) _ | refine Up.drewN ?_ _ | refine Up.drew ?_)
    · have t0 : (hiZ d == 0) = false := by simp [h0]
      have ef : fits d = false := decide_eq_false (by omega)
      rw [ef] at HV ⊢
      generalize hiZ d = dh at *
      generalize loZ d = dl at *
      generalize dl % 9223372036854775808 = m at *
      clear hdd hd h0 ef h2 hp hq
      go_enter Try.func35, Try.ntmps35
      go_wp2_with fail
      refine (K1.out _).mono ?_
      rintro e w1 ⟨rfl, hu1⟩
      go_wp2_with fail
      go_quiet (fail)
      go_wp2_with fail
      go_ret2
      refine ⟨⟨m, rfl, HV.out⟩, ?_⟩
      repeat (first | exact Up.refl _ | (refine Up.trans ?_ (hu1); skip) | refine Up.alloc ?_ _ _ | refine Up.setCell ?_ (by first | (simp; done) | (simp; omega) | omega) _ | refine Up.drewN ?_ _ | refine Up.drew ?_)
  · have h2 : ¬ In2 (p - q) := fun h => by unfold In2 at h; omega
    have h3 : In2 (q - p) := ⟨by omega, by omega⟩
    rw [show fits2 (p - q) = false from decide_eq_false h2] at K1
    rw [fit2_yes h3, fits2_yes h3] at K2
    generalize fit2 (p - q) = fz at K1
    have ed : p - q = -(q - p) := by omega
    rw [ed]
    generalize hd : q - p = d at *
    have hdd : d = hiZ d * 18446744073709551616 + loZ d := by unfold hiZ loZ; omega
    have hl := loZ_word d
    have hh := hiZ_word h3
    unfold Word at hl hh
    have ha := and_63 hl.1 hl.2
    have hm0 : 0 ≤ loZ d % 9223372036854775808 := by omega
    have hm1 : loZ d % 9223372036854775808 < 9223372036854775808 := by omega
    have k1 : IntKind.i64.wrap (loZ d % 9223372036854775808) = loZ d % 9223372036854775808 := IntWalk.i64_in _ (by omega)
    have k2 : IntKind.i64.wrap (-(loZ d % 9223372036854775808)) = -(loZ d % 9223372036854775808) := IntWalk.i64_in _ (by omega)
    have hd1 : 1 ≤ d := by omega
    by_cases h0 : hiZ d = 0
    · have t0 : (hiZ d == 0) = true := by simp [h0]
      by_cases hx : loZ d = 9223372036854775808
      · have t1 : (loZ d == 9223372036854775808) = true := by simp [hx]
        have ef : fits (-d) = true := decide_eq_true (by omega)
        have HV : Hid (-9223372036854775808 = -d) := Lib.hid (by omega)
        rw [ef]
        generalize hiZ d = dh at *
        generalize loZ d = dl at *
        clear hdd hd h0 ef h2 h3 hp hq ed hx ha k1 k2 hm0 hm1 hs
        go_enter Try.func35, Try.ntmps35
        go_wp2_with fail
        refine (K1.out _).mono ?_
        rintro e w1 ⟨rfl, hu1⟩
        have HU1 : Hid (Up w w1) := Lib.hid (by repeat (first | exact Up.refl _ | (refine Up.trans ?_ (hu1); skip) | refine Up.alloc ?_ _ _ | refine Up.setCell ?_ (by first | (simp; done) | (simp; omega) | omega) _ | refine Up.drewN ?_ _ | refine Up.drew ?_))
        have c0 := hu1.keep w.heap.size 0 (.int .u64 ph) (by simp [go_sem])
        have c1 := hu1.keep w.heap.size 1 (.int .u64 pl) (by simp [go_sem])
        have c2 := hu1.keep (w.heap.size + 1) 0 (.int .u64 qh) (by simp [go_sem])
        have c3 := hu1.keep (w.heap.size + 1) 1 (.int .u64 ql) (by simp [go_sem])
        have l1 : w.heap.size + 1 < w1.heap.size := World.block_lt_of_cell? _ _ c2
        have l2 : w.heap.size < w1.heap.size := by omega
        clear hu1
        go_wp2_with fail
        refine (K2.out _).mono ?_
        rintro e w2 ⟨rfl, hu2⟩
        have HU2 := Lib.hid ((HU1.out.alloc _ _).trans hu2)
        clear hu2
        go_wp2_with fail
        go_ret2
        exact ⟨⟨_, rfl, fun _ => HV.out⟩, HU2.out.alloc _ _⟩
      · have t1 : (loZ d == 9223372036854775808) = false := by simp [hx]
        have ef : fits (-d) = decide (loZ d < 9223372036854775808) := by
          unfold fits
          by_cases hb : loZ d < 9223372036854775808
          · rw [decide_eq_true hb]; exact decide_eq_true (by omega)
          · rw [decide_eq_false hb]; exact decide_eq_false (by omega)
        have HV : Hid (fits (-d) = true → -(loZ d % 9223372036854775808) = -d) := Lib.hid (fun h => by have := (of_decide_eq_true h : -9223372036854775808 ≤ -d ∧ -d ≤ 9223372036854775807); omega)
        rw [ef] at HV ⊢
        cases hb : decide (loZ d < 9223372036854775808)
        all_goals
          rw [hb] at HV
          generalize hiZ d = dh at *
          generalize loZ d = dl at *
          generalize dl % 9223372036854775808 = m at *
          generalize hmm : -m = mn at *
          clear hdd hd h0 ef h2 h3 hp hq ed hx hs
          go_enter Try.func35, Try.ntmps35
          go_wp2_with fail
          refine (K1.out _).mono ?_
          rintro e w1 ⟨rfl, hu1⟩
          have HU1 : Hid (Up w w1) := Lib.hid (by repeat (first | exact Up.refl _ | (refine Up.trans ?_ (hu1); skip) | refine Up.alloc ?_ _ _ | refine Up.setCell ?_ (by first | (simp; done) | (simp; omega) | omega) _ | refine Up.drewN ?_ _ | refine Up.drew ?_))
          have c0 := hu1.keep w.heap.size 0 (.int .u64 ph) (by simp [go_sem])
          have c1 := hu1.keep w.heap.size 1 (.int .u64 pl) (by simp [go_sem])
          have c2 := hu1.keep (w.heap.size + 1) 0 (.int .u64 qh) (by simp [go_sem])
          have c3 := hu1.keep (w.heap.size + 1) 1 (.int .u64 ql) (by simp [go_sem])
          have l1 : w.heap.size + 1 < w1.heap.size := World.block_lt_of_cell? _ _ c2
          have l2 : w.heap.size < w1.heap.size := by omega
          clear hu1
          go_wp2_with fail
          refine (K2.out _).mono ?_
          rintro e w2 ⟨rfl, hu2⟩
          have HU2 := Lib.hid ((HU1.out.alloc _ _).trans hu2)
          clear hu2
          go_wp2_with fail
          go_quiet (fail)
          go_wp2_with fail
          go_ret2
          exact ⟨⟨mn, rfl, HV.out⟩, (HU2.out.alloc _ _).drewN _⟩
    · have t0 : (hiZ d == 0) = false := by simp [h0]
      have ef : fits (-d) = false := decide_eq_false (by omega)
      rw [ef]
      generalize hiZ d = dh at *
      generalize loZ d = dl at *
      generalize dl % 9223372036854775808 = m at *
      generalize hmm : -m = mn at *
      clear hdd hd h0 ef h2 h3 hp hq ed hs
      go_enter Try.func35, Try.ntmps35
      go_wp2_with fail
      refine (K1.out _).mono ?_
      rintro e w1 ⟨rfl, hu1⟩
      have HU1 : Hid (Up w w1) := Lib.hid (by repeat (first | exact Up.refl _ | (refine Up.trans ?_ (hu1); skip) | refine Up.alloc ?_ _ _ | refine Up.setCell ?_ (by first | (simp; done) | (simp; omega) | omega) _ | refine Up.drewN ?_ _ | refine Up.drew ?_))
      have c0 := hu1.keep w.heap.size 0 (.int .u64 ph) (by simp [go_sem])
      have c1 := hu1.keep w.heap.size 1 (.int .u64 pl) (by simp [go_sem])
      have c2 := hu1.keep (w.heap.size + 1) 0 (.int .u64 qh) (by simp [go_sem])
      have c3 := hu1.keep (w.heap.size + 1) 1 (.int .u64 ql) (by simp [go_sem])
      have l1 : w.heap.size + 1 < w1.heap.size := World.block_lt_of_cell? _ _ c2
      have l2 : w.heap.size < w1.heap.size := by omega
      clear hu1
      go_wp2_with fail
      refine (K2.out _).mono ?_
      rintro e w2 ⟨rfl, hu2⟩
      have HU2 := Lib.hid ((HU1.out.alloc _ _).trans hu2)
      clear hu2
      go_wp2_with fail
      go_quiet (fail)
      go_wp2_with fail
      go_ret2
      exact ⟨⟨mn, rfl, fun h => by cases h⟩, (HU2.out.alloc _ _).drewN _⟩
end Go.Proofs.Ytafkoddgefcpnab
