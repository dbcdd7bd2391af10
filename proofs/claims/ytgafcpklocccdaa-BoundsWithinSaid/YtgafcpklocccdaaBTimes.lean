/- What halves and times of the reference of package bounds return. -/
import Derived.Test.YtgafcpklocccdaaBTimesM
import Derived.Test.YtgafcpklocccdaaBBd
import Derived.Deep.RegionHeld3
import Derived.Deep.DeepCutAuto
import Derived.Deep.LoopGhost
import Derived.IntWalk
namespace Go.Proofs.Ytgafcpklocccdaa
open Go.RowKit

theorem shr32 (x : Int) : x / 2 ^ 32 = x / 4294967296 := by rw [show (2 : Int) ^ 32 = 4294967296 by decide]
set_option maxHeartbeats 4000000 in
set_option maxRecDepth 100000 in
theorem halves_up (h l : Int) (hh : Word h) (hl : Word l) (w : World) :
    Calls Try.prog 65 #[.agg #[.int .u64 h, .int .u64 l]] w fun e w' =>
      e = .returned (.agg #[.int .u64 (hf h l 0), .int .u64 (hf h l 1), .int .u64 (hf h l 2), .int .u64 (hf h l 3)]) ∧ Up w w' := by
  have e0 : bits .and .u64 l 4294967295 = l % 4294967296 := and_low hl.1 hl.2
  have e2 : bits .and .u64 h 4294967295 = h % 4294967296 := and_low hh.1 hh.2
  have H0 := Lib.hid (show hf h l 0 = l % 4294967296 from rfl)
  have H1 := Lib.hid (show hf h l 1 = l / 4294967296 from rfl)
  have H2 := Lib.hid (show hf h l 2 = h % 4294967296 from rfl)
  have H3 := Lib.hid (show hf h l 3 = h / 4294967296 from rfl)
  rw [H0.out, H1.out, H2.out, H3.out]
  obtain ⟨a1, a2⟩ := hh; obtain ⟨b1, b2⟩ := hl
  clear H0 H1 H2 H3
  go_enter Try.func65, Try.ntmps65
  go_wp2_with fail
  refine bodyPost_ret (v := .agg #[.int .u64 (l % 4294967296), .int .u64 (l / 4294967296), .int .u64 (h % 4294967296), .int .u64 (h / 4294967296)]) (by simp [results, Try.results65, go_sem]) rfl ⟨?_, ?_⟩
  · rfl
  · repeat (first | exact Up.refl _ | refine Up.alloc ?_ _ _ | refine Up.setCell ?_ (by first | (simp; done) | (simp; omega) | omega) _ | refine Up.drewN ?_ _ | refine Up.drew ?_)

/-- The cells that the walk of times holds. -/
structure Tm (w wr : World) (g k Z : Nat) (xs ys z : Nat → Int) : Prop where
  up : Up w wr
  x : ∀ i, i < 4 → wr.cell? ⟨g, i, none⟩ = some (.int .u64 (xs i))
  y : ∀ i, i < 4 → wr.cell? ⟨k, i, none⟩ = some (.int .u64 (ys i))
  z : ∀ i, i < 9 → wr.cell? ⟨Z, i, none⟩ = some (.int .u64 (z i))
  r : ∀ i, i < 4 → wr.cell? ⟨w.heap.size + 1 + 1, i, none⟩ = some (.int .u64 0)
theorem Tm.keep {w w1 w2 : World} {g k Z : Nat} {xs ys z : Nat → Int} (h : Tm w w1 g k Z xs ys z) (hu : Up w1 w2) : Tm w w2 g k Z xs ys z :=
  ⟨h.up.trans hu, fun i hi => hu.keep _ _ _ (h.x i hi), fun i hi => hu.keep _ _ _ (h.y i hi), fun i hi => hu.keep _ _ _ (h.z i hi), fun i hi => hu.keep _ _ _ (h.r i hi)⟩
theorem Tm.set {w w1 : World} {g k Z m : Nat} {xs ys z : Nat → Int} {t : Int} (h : Tm w w1 g k Z xs ys z) (h1 : w.heap.size + 1 + 1 < Z) (hg : g ≠ Z) (hk : k ≠ Z) : Tm w (w1.setCell ⟨Z, m, none⟩ (.int .u64 t)) g k Z xs ys (upd z m t) :=
  ⟨h.up.setCell (by show w.heap.size ≤ Z; omega) _, fun i hi => (cell_far (by show Z ≠ g; omega)).trans (h.x i hi), fun i hi => (cell_far (by show Z ≠ k; omega)).trans (h.y i hi),
   fun i hi => by rw [cell_set (h.z i hi)]; unfold upd; by_cases e : m = i <;> simp [e, eq_comm], fun i hi => (cell_far (by show Z ≠ w.heap.size + 1 + 1; omega)).trans (h.r i hi)⟩
theorem Tm.far {w w1 : World} {g k Z b m : Nat} {xs ys z : Nat → Int} {v : Value} (h : Tm w w1 g k Z xs ys z) (h1 : w.heap.size + 1 + 1 < b) (hg : g ≠ b) (hk : k ≠ b) (hZ : Z ≠ b) : Tm w (w1.setCell ⟨b, m, none⟩ v) g k Z xs ys z :=
  ⟨h.up.setCell (by show w.heap.size ≤ b; omega) _, fun i hi => (cell_far (by show b ≠ g; omega)).trans (h.x i hi), fun i hi => (cell_far (by show b ≠ k; omega)).trans (h.y i hi),
   fun i hi => (cell_far (by show b ≠ Z; omega)).trans (h.z i hi), fun i hi => (cell_far (by show b ≠ w.heap.size + 1 + 1; omega)).trans (h.r i hi)⟩
/-- The words that are written out, m of them so far. -/
structure Ou (w wr : World) (g k Z O : Nat) (xs ys z : Nat → Int) (m : Nat) : Prop where
  tm : Tm w wr g k Z xs ys z
  o : ∀ q, q < 4 → wr.cell? ⟨O, q, none⟩ = some (.int .u64 (if q < m then z (2 * q) + z (2 * q + 1) * 4294967296 else 0))
theorem Ou.keep {w w1 w2 : World} {g k Z O : Nat} {xs ys z : Nat → Int} {m : Nat} (h : Ou w w1 g k Z O xs ys z m) (hu : Up w1 w2) : Ou w w2 g k Z O xs ys z m :=
  ⟨h.tm.keep hu, fun q hq => hu.keep _ _ _ (h.o q hq)⟩
theorem Ou.next {w wr : World} {g k Z O : Nat} {xs ys z : Nat → Int} {m : Nat} (h : Ou w wr g k Z O xs ys z m) (h1 : w.heap.size + 1 + 1 < O) (hg : g ≠ O) (hk : k ≠ O) (hZ : Z ≠ O) :
    Ou w (wr.setCell ⟨O, m, none⟩ (.int .u64 (z (2 * m) + z (2 * m + 1) * 4294967296))) g k Z O xs ys z (m + 1) := by
  refine ⟨h.tm.far h1 hg hk hZ, fun q hq => ?_⟩
  rw [cell_set (h.o q hq)]
  by_cases e : m = q
  · rw [if_pos e, if_pos (by omega), e]
  · rw [if_neg e]
    by_cases l : q < m
    · rw [if_pos l, if_pos (by omega)]
    · rw [if_neg l, if_neg (by omega)]
theorem or_high {a b : Int} (a0 : 0 ≤ a) (a1 : a ≤ 4294967295) (b0 : 0 ≤ b) (b1 : b ≤ 4294967295) : bits .or .u64 a (b * 4294967296) = a + b * 4294967296 := by
  obtain ⟨x, rfl⟩ := Int.eq_ofNat_of_zero_le a0
  obtain ⟨y, rfl⟩ := Int.eq_ofNat_of_zero_le b0
  have e1 : ((y : Int) * 4294967296) = ((y * 4294967296 : Nat) : Int) := by omega
  rw [e1, bits_or_u64_nat x (y * 4294967296) (by omega) (by omega)]
  have e2 := Nat.shiftLeft_add_eq_or_of_lt (show x < 2 ^ 32 by omega) y
  rw [Nat.shiftLeft_eq, show 2 ^ 32 = 4294967296 from rfl] at e2
  rw [Nat.or_comm, ← e2]; omega
theorem four {w1 w2 : World} (hu : Up w1 w2) (b : Nat) (h : w1.cell? ⟨b, 0, none⟩ = some (.int .u64 0) ∧ w1.cell? ⟨b, 1, none⟩ = some (.int .u64 0) ∧ w1.cell? ⟨b, 2, none⟩ = some (.int .u64 0) ∧ w1.cell? ⟨b, 3, none⟩ = some (.int .u64 0)) : w2.cell? ⟨b, 0, none⟩ = some (.int .u64 0) ∧ w2.cell? ⟨b, 1, none⟩ = some (.int .u64 0) ∧ w2.cell? ⟨b, 2, none⟩ = some (.int .u64 0) ∧ w2.cell? ⟨b, 3, none⟩ = some (.int .u64 0) :=
  ⟨hu.keep _ _ _ h.1, hu.keep _ _ _ h.2.1, hu.keep _ _ _ h.2.2.1, hu.keep _ _ _ h.2.2.2⟩
theorem tset {w w1 : World} {L : List (Nat × Nat × Value)} {a b c d v : Value} {g q : Nat} (h : Bd w 2 L w1 ∧ w1.cell? ⟨w.heap.size, 0, none⟩ = some a ∧ w1.cell? ⟨w.heap.size, 1, none⟩ = some b ∧ w1.cell? ⟨w.heap.size + 1, 0, none⟩ = some c ∧ w1.cell? ⟨w.heap.size + 1, 1, none⟩ = some d) (hg : w.heap.size + 2 < g) :
    Bd w 2 L (w1.setCell ⟨g, q, none⟩ v) ∧ (w1.setCell ⟨g, q, none⟩ v).cell? ⟨w.heap.size, 0, none⟩ = some a ∧ (w1.setCell ⟨g, q, none⟩ v).cell? ⟨w.heap.size, 1, none⟩ = some b ∧ (w1.setCell ⟨g, q, none⟩ v).cell? ⟨w.heap.size + 1, 0, none⟩ = some c ∧ (w1.setCell ⟨g, q, none⟩ v).cell? ⟨w.heap.size + 1, 1, none⟩ = some d :=
  bset4 h hg (by omega) (by omega) (by omega) (by omega)

set_option maxHeartbeats 16000000 in
set_option maxRecDepth 100000 in
theorem times_up (ah al bh bl : Int) (h1 : Word ah) (h2 : Word al) (h3 : Word bh) (h4 : Word bl) (w : World) :
    Calls Try.prog 44 #[.agg #[.int .u64 ah, .int .u64 al], .agg #[.int .u64 bh, .int .u64 bl]] w fun e w' =>
      e = .returned (.agg #[.int .u64 (g0 (val ah al * val bh bl)), .int .u64 (g1 (val ah al * val bh bl)), .int .u64 (g2 (val ah al * val bh bl)), .int .u64 (g3 (val ah al * val bh bl))]) ∧ Up w w' := by
  have HA := Lib.hid (fun W => halves_up ah al h1 h2 W)
  have HC := Lib.hid (fun W => halves_up bh bl h3 h4 W)
  have BX := Lib.hid (fun i => hf_half h1 h2 i)
  have BY := Lib.hid (fun i => hf_half h3 h4 i)
  rw [← hf_val (h := ah) (l := al), ← hf_val (h := bh) (l := bl)]
  generalize hf ah al = xs at *
  generalize hf bh bl = ys at *
  have X := Lib.hid (show ∀ i, i < 4 → xs i = xs i from fun _ _ => rfl)
  clear h1 h2 h3 h4 X
  obtain ⟨x0, X0⟩ : ∃ t, t = xs 0 := ⟨_, rfl⟩
  obtain ⟨y0, Y0⟩ : ∃ t, t = ys 0 := ⟨_, rfl⟩
  obtain ⟨x1, X1⟩ : ∃ t, t = xs 1 := ⟨_, rfl⟩
  obtain ⟨y1, Y1⟩ : ∃ t, t = ys 1 := ⟨_, rfl⟩
  obtain ⟨x2, X2⟩ : ∃ t, t = xs 2 := ⟨_, rfl⟩
  obtain ⟨y2, Y2⟩ : ∃ t, t = ys 2 := ⟨_, rfl⟩
  obtain ⟨x3, X3⟩ : ∃ t, t = xs 3 := ⟨_, rfl⟩
  obtain ⟨y3, Y3⟩ : ∃ t, t = ys 3 := ⟨_, rfl⟩
  rw [← X0, ← X1, ← X2, ← X3] at HA
  rw [← Y0, ← Y1, ← Y2, ← Y3] at HC
  have HX0 := Lib.hid X0
  have HY0 := Lib.hid Y0
  have HX1 := Lib.hid X1
  have HY1 := Lib.hid Y1
  have HX2 := Lib.hid X2
  have HY2 := Lib.hid Y2
  have HX3 := Lib.hid X3
  have HY3 := Lib.hid Y3
  clear X0 Y0 X1 Y1 X2 Y2 X3 Y3
  go_enter Try.func44, Try.ntmps44
  go_upto_region 1 with fail
  obtain ⟨LL, hLL⟩ : ∃ X : List (Nat × Nat × Value), X = [(w.heap.size + 1 + 1, 0, .int .u64 0), (w.heap.size + 1 + 1, 1, .int .u64 0), (w.heap.size + 1 + 1, 2, .int .u64 0), (w.heap.size + 1 + 1, 3, .int .u64 0)] := ⟨_, rfl⟩
  have HB : Hid (Bd w 2 LL (((w.alloc (.cells #[.int .u64 ah, .int .u64 al] 47)).alloc (.cells #[.int .u64 bh, .int .u64 bl] 47)).alloc (.cells #[.int .u64 0, .int .u64 0, .int .u64 0, .int .u64 0] 59))) := Lib.hid (by
    rw [hLL]
    refine ⟨?_, by simp [go_sem], by simp⟩
    repeat (first | exact Up.refl _ | refine Up.alloc ?_ _ _ | refine Up.setCell ?_ (by first | (simp; done) | (simp; omega) | omega) _ | refine Up.drewN ?_ _ | refine Up.drew ?_))
  have HLL := Lib.hid hLL
  clear hLL
  have v0 : (((w.alloc (.cells #[.int .u64 ah, .int .u64 al] 47)).alloc (.cells #[.int .u64 bh, .int .u64 bl] 47)).alloc (.cells #[.int .u64 0, .int .u64 0, .int .u64 0, .int .u64 0] 59)).cell? ⟨w.heap.size, 0, none⟩ = some (.int .u64 (ah)) := by simp [go_sem]
  have v1 : (((w.alloc (.cells #[.int .u64 ah, .int .u64 al] 47)).alloc (.cells #[.int .u64 bh, .int .u64 bl] 47)).alloc (.cells #[.int .u64 0, .int .u64 0, .int .u64 0, .int .u64 0] 59)).cell? ⟨w.heap.size, 1, none⟩ = some (.int .u64 (al)) := by simp [go_sem]
  have v2 : (((w.alloc (.cells #[.int .u64 ah, .int .u64 al] 47)).alloc (.cells #[.int .u64 bh, .int .u64 bl] 47)).alloc (.cells #[.int .u64 0, .int .u64 0, .int .u64 0, .int .u64 0] 59)).cell? ⟨w.heap.size + 1, 0, none⟩ = some (.int .u64 (bh)) := by simp [go_sem]
  have v3 : (((w.alloc (.cells #[.int .u64 ah, .int .u64 al] 47)).alloc (.cells #[.int .u64 bh, .int .u64 bl] 47)).alloc (.cells #[.int .u64 0, .int .u64 0, .int .u64 0, .int .u64 0] 59)).cell? ⟨w.heap.size + 1, 1, none⟩ = some (.int .u64 (bl)) := by simp [go_sem]
  generalize hw0 : ((w.alloc (.cells #[.int .u64 ah, .int .u64 al] 47)).alloc (.cells #[.int .u64 bh, .int .u64 bl] 47)).alloc (.cells #[.int .u64 0, .int .u64 0, .int .u64 0, .int .u64 0] 59) = w0 at *
  have hs0 : w.heap.size + 1 + 1 + 1 = w0.heap.size := by rw [← hw0]; simp
  have l0 : w.heap.size + 2 < w0.heap.size := by omega
  clear hw0 hs0
  go_cut [5, 6] (fun t5 t6 wx => ∃ g k : Nat, w.heap.size + 2 < g ∧ w.heap.size + 2 < k ∧ t5 = .pointer (some ⟨g, 0, none⟩) ∧ t6 = .pointer (some ⟨k, 0, none⟩) ∧ wx.cell? ⟨g, 0, none⟩ = some (.int .u64 x0) ∧ wx.cell? ⟨g, 1, none⟩ = some (.int .u64 x1) ∧ wx.cell? ⟨g, 2, none⟩ = some (.int .u64 x2) ∧ wx.cell? ⟨g, 3, none⟩ = some (.int .u64 x3) ∧ wx.cell? ⟨k, 0, none⟩ = some (.int .u64 y0) ∧ wx.cell? ⟨k, 1, none⟩ = some (.int .u64 y1) ∧ wx.cell? ⟨k, 2, none⟩ = some (.int .u64 y2) ∧ wx.cell? ⟨k, 3, none⟩ = some (.int .u64 y3) ∧ Bd w 2 LL wx)
  case first =>
    go_region_held3 (fun w' => Bd w 2 LL w' ∧ w'.cell? ⟨w.heap.size, 0, none⟩ = some (.int .u64 (ah)) ∧ w'.cell? ⟨w.heap.size, 1, none⟩ = some (.int .u64 (al)) ∧ w'.cell? ⟨w.heap.size + 1, 0, none⟩ = some (.int .u64 (bh)) ∧ w'.cell? ⟨w.heap.size + 1, 1, none⟩ = some (.int .u64 (bl)))
      (first | (with_reducible exact bkeep4 (by assumption) (by assumption)) | (repeat (first | (with_reducible assumption) | (with_reducible refine tset ?_ (by omega)) | (with_reducible exact Hid.out (by assumption)) | (with_reducible exact ⟨HB.out, v0, v1, v2, v3⟩) | (with_reducible refine bkeep4 (Lib.hid ((Up.refl _).alloc _ _)) ?_) | (with_reducible refine bkeep4 (Lib.hid (Up.refl _).drew) ?_))))
      (first
        | (go_at_call 65; (with_reducible refine (HA.out _).mono ?_); rintro e w1 ⟨rfl, hu1⟩; have HU1 := Lib.hid hu1; have HS1 := Lib.hid (bkeep4 HU1 (by with_reducible assumption)); have hz1 := hu1.cells.2; have hs1 := hu1.size; (try simp at hs1); (try (have q1_0 : w0.heap.size < w1.heap.size := by omega)); (try (have y1_0 : ¬ w1.heap.size = w0.heap.size := by omega)); (try (have yz1_0 : ¬ w1.heap.size + 1 = w0.heap.size := by omega)); (try (have f1_0 : w1.cell? ⟨w0.heap.size, 0, none⟩ = some (.int .u64 0) ∧ w1.cell? ⟨w0.heap.size, 1, none⟩ = some (.int .u64 0) ∧ w1.cell? ⟨w0.heap.size, 2, none⟩ = some (.int .u64 0) ∧ w1.cell? ⟨w0.heap.size, 3, none⟩ = some (.int .u64 0) := by (refine four hu1 (w0.heap.size) ?_; refine ⟨?_, ?_, ?_, ?_⟩ <;> (first | (simp [go_sem]; done) | (simp [go_sem, *]; done))))); (try (have q1_1 : w0.heap.size + 1 < w1.heap.size := by omega)); (try (have y1_1 : ¬ w1.heap.size = w0.heap.size + 1 := by omega)); (try (have yz1_1 : ¬ w1.heap.size + 1 = w0.heap.size + 1 := by omega)); (try (have f1_1 : w1.cell? ⟨w0.heap.size + 1, 0, none⟩ = some (.int .u64 0) ∧ w1.cell? ⟨w0.heap.size + 1, 1, none⟩ = some (.int .u64 0) ∧ w1.cell? ⟨w0.heap.size + 1, 2, none⟩ = some (.int .u64 0) ∧ w1.cell? ⟨w0.heap.size + 1, 3, none⟩ = some (.int .u64 0) := by (refine four hu1 (w0.heap.size + 1) ?_; refine ⟨?_, ?_, ?_, ?_⟩ <;> (first | (simp [go_sem]; done) | (simp [go_sem, *]; done))))); clear hu1)
        | (go_at_call 65; (with_reducible refine (HC.out _).mono ?_); rintro e w2 ⟨rfl, hu2⟩; have HU2 := Lib.hid hu2; have HS2 := Lib.hid (bkeep4 HU2 (by with_reducible assumption)); have hz2 := hu2.cells.2; have hs2 := hu2.size; (try simp at hs2); (try (have q2_0 : w0.heap.size < w2.heap.size := by omega)); (try (have y2_0 : ¬ w2.heap.size = w0.heap.size := by omega)); (try (have yz2_0 : ¬ w2.heap.size + 1 = w0.heap.size := by omega)); (try (have f2_0 : w2.cell? ⟨w0.heap.size, 0, none⟩ = some (.int .u64 0) ∧ w2.cell? ⟨w0.heap.size, 1, none⟩ = some (.int .u64 0) ∧ w2.cell? ⟨w0.heap.size, 2, none⟩ = some (.int .u64 0) ∧ w2.cell? ⟨w0.heap.size, 3, none⟩ = some (.int .u64 0) := by (refine four hu2 (w0.heap.size) ?_; refine ⟨?_, ?_, ?_, ?_⟩ <;> (first | (simp [go_sem]; done) | (simp [go_sem, *]; done))))); (try (have q2_1 : w0.heap.size + 1 < w2.heap.size := by omega)); (try (have y2_1 : ¬ w2.heap.size = w0.heap.size + 1 := by omega)); (try (have yz2_1 : ¬ w2.heap.size + 1 = w0.heap.size + 1 := by omega)); (try (have f2_1 : w2.cell? ⟨w0.heap.size + 1, 0, none⟩ = some (.int .u64 0) ∧ w2.cell? ⟨w0.heap.size + 1, 1, none⟩ = some (.int .u64 0) ∧ w2.cell? ⟨w0.heap.size + 1, 2, none⟩ = some (.int .u64 0) ∧ w2.cell? ⟨w0.heap.size + 1, 3, none⟩ = some (.int .u64 0) := by (refine four hu2 (w0.heap.size + 1) ?_; refine ⟨?_, ?_, ?_, ?_⟩ <;> (first | (simp [go_sem]; done) | (simp [go_sem, *]; done))))); (try (have q2_2 : w1.heap.size < w2.heap.size := by omega)); (try (have y2_2 : ¬ w2.heap.size = w1.heap.size := by omega)); (try (have yz2_2 : ¬ w2.heap.size + 1 = w1.heap.size := by omega)); (try (have f2_2 : w2.cell? ⟨w1.heap.size, 0, none⟩ = some (.int .u64 0) ∧ w2.cell? ⟨w1.heap.size, 1, none⟩ = some (.int .u64 0) ∧ w2.cell? ⟨w1.heap.size, 2, none⟩ = some (.int .u64 0) ∧ w2.cell? ⟨w1.heap.size, 3, none⟩ = some (.int .u64 0) := by (refine four hu2 (w1.heap.size) ?_; refine ⟨?_, ?_, ?_, ?_⟩ <;> (first | (simp [go_sem]; done) | (simp [go_sem, *]; done))))); (try (have q2_3 : w1.heap.size + 1 < w2.heap.size := by omega)); (try (have y2_3 : ¬ w2.heap.size = w1.heap.size + 1 := by omega)); (try (have yz2_3 : ¬ w2.heap.size + 1 = w1.heap.size + 1 := by omega)); (try (have f2_3 : w2.cell? ⟨w1.heap.size + 1, 0, none⟩ = some (.int .u64 0) ∧ w2.cell? ⟨w1.heap.size + 1, 1, none⟩ = some (.int .u64 0) ∧ w2.cell? ⟨w1.heap.size + 1, 2, none⟩ = some (.int .u64 0) ∧ w2.cell? ⟨w1.heap.size + 1, 3, none⟩ = some (.int .u64 0) := by (refine four hu2 (w1.heap.size + 1) ?_; refine ⟨?_, ?_, ?_, ?_⟩ <;> (first | (simp [go_sem]; done) | (simp [go_sem, *]; done))))); clear hu2))
    all_goals
      go_wp2_with fail
      go_meet
      refine ⟨_, _, ?_, ?_, rfl, rfl, ?_, ?_, ?_, ?_, ?_, ?_, ?_, ?_, And.left (by assumption)⟩
      · omega
      · omega
      all_goals (first | (simp [go_sem, *]; done) | ((have qa : w0.heap.size < w0.heap.size + 1 + 1 := by omega); (have qb : w1.heap.size < w1.heap.size + 1 + 1 := by omega); (have qc : w2.heap.size < w2.heap.size + 1 + 1 := by omega); simp [go_sem, *]; done))
  obtain ⟨g, k, lg, lk, rfl, rfl, e0, e1, e2, e3, f0, f1, f2, f3, hB⟩ := hcut
  have lg' : g < wc.heap.size := World.block_lt_of_cell? _ _ e0
  have lk' : k < wc.heap.size := World.block_lt_of_cell? _ _ f0
  have hk := hB.kp
  rw [HLL.out] at hk
  have HT0 : Hid (Tm w (wc.alloc (.cells #[.int .u64 0, .int .u64 0, .int .u64 0, .int .u64 0, .int .u64 0, .int .u64 0, .int .u64 0, .int .u64 0, .int .u64 0] 75)) g k wc.heap.size xs ys (fun _ => 0)) := Lib.hid (by
    refine ⟨hB.up.alloc _ _, ?_, ?_, ?_, ?_⟩
    · intro i hi
      rcases (by omega : i = 0 ∨ i = 1 ∨ i = 2 ∨ i = 3) with rfl | rfl | rfl | rfl
      · exact ((Up.refl wc).alloc _ _).keep _ _ _ (by rw [e0, HX0.out])
      · exact ((Up.refl wc).alloc _ _).keep _ _ _ (by rw [e1, HX1.out])
      · exact ((Up.refl wc).alloc _ _).keep _ _ _ (by rw [e2, HX2.out])
      · exact ((Up.refl wc).alloc _ _).keep _ _ _ (by rw [e3, HX3.out])
    · intro i hi
      rcases (by omega : i = 0 ∨ i = 1 ∨ i = 2 ∨ i = 3) with rfl | rfl | rfl | rfl
      · exact ((Up.refl wc).alloc _ _).keep _ _ _ (by rw [f0, HY0.out])
      · exact ((Up.refl wc).alloc _ _).keep _ _ _ (by rw [f1, HY1.out])
      · exact ((Up.refl wc).alloc _ _).keep _ _ _ (by rw [f2, HY2.out])
      · exact ((Up.refl wc).alloc _ _).keep _ _ _ (by rw [f3, HY3.out])
    · intro i hi
      rcases (by omega : i = 0 ∨ i = 1 ∨ i = 2 ∨ i = 3 ∨ i = 4 ∨ i = 5 ∨ i = 6 ∨ i = 7 ∨ i = 8) with rfl | rfl | rfl | rfl | rfl | rfl | rfl | rfl | rfl <;> simp [go_sem]
    · intro i hi
      rcases (by omega : i = 0 ∨ i = 1 ∨ i = 2 ∨ i = 3) with rfl | rfl | rfl | rfl
      · exact ((Up.refl wc).alloc _ _).keep _ _ _ (hk (w.heap.size + 1 + 1, 0, .int .u64 0) (by simp))
      · exact ((Up.refl wc).alloc _ _).keep _ _ _ (hk (w.heap.size + 1 + 1, 1, .int .u64 0) (by simp))
      · exact ((Up.refl wc).alloc _ _).keep _ _ _ (hk (w.heap.size + 1 + 1, 2, .int .u64 0) (by simp))
      · exact ((Up.refl wc).alloc _ _).keep _ _ _ (hk (w.heap.size + 1 + 1, 3, .int .u64 0) (by simp)))
  have nZ1 : w.heap.size + 1 + 1 < wc.heap.size := by omega
  have nZ2 : g ≠ wc.heap.size := by omega
  have nZ3 : k ≠ wc.heap.size := by omega
  clear hk hB e0 e1 e2 e3 f0 f1 f2 f3 HB HLL LL
  go_wp2_with fail
  generalize hwz : wc.alloc (.cells #[.int .u64 0, .int .u64 0, .int .u64 0, .int .u64 0, .int .u64 0, .int .u64 0, .int .u64 0, .int .u64 0, .int .u64 0] 75) = wz at *
  have hsz : wc.heap.size + 1 = wz.heap.size := by rw [← hwz]; simp
  have hsz' : wc.heap.size < wz.heap.size := by omega
  clear hwz hsz
  generalize wc.heap.size = Z at *
  clear wc
  go_loopg [18] 4 (fun kk u18 wr => ∃ (i : Nat) (z : Nat → Int), kk = 4 - i ∧ i ≤ 4 ∧ u18 = .int .i64 i ∧ Tm w wr g k Z xs ys z ∧ Z < wr.heap.size ∧ Hid (∀ m, 0 ≤ z m ∧ z m ≤ 4294967295) ∧ Hid (∀ m, i + 4 ≤ m → z m = 0) ∧ Hid (hV z 9 = hV xs i * hV ys 4))
  case atStart =>
    refine ⟨0, fun _ => 0, rfl, by omega, rfl, HT0.out, hsz', Lib.hid (fun _ => ⟨Int.le_refl _, by show (0 : Int) ≤ 4294967295; decide⟩), Lib.hid (fun _ _ => rfl), Lib.hid ?_⟩
    rw [hV_zero, hV_0, Int.zero_mul]
  case round =>
    obtain ⟨i, z, rfl, hi, rfl, hT, hZ, BZ, ZZ, HE⟩ := hrel
    by_cases hi4 : i < 4
    · have HT := Lib.hid hT
      have HZ := Lib.hid hZ
      have ti : decide ((i : Int) < 4) = true := decide_eq_true (by omega)
      clear hT
      go_wp2_with fail
      go_loopg [9, 21] 4 (fun kk u9 u21 wr => ∃ (j : Nat) (c : Int) (z : Nat → Int), kk = 4 - j ∧ j ≤ 4 ∧ u21 = .int .i64 j ∧ u9 = .int .u64 c ∧ 0 ≤ c ∧ c ≤ 4294967295 ∧ Tm w wr g k Z xs ys z ∧ Z < wr.heap.size ∧ Hid (∀ m, 0 ≤ z m ∧ z m ≤ 4294967295) ∧ Hid (∀ m, i + 4 ≤ m → z m = 0) ∧ Hid (hV z 9 + c * 4294967296 ^ (i + j) = hV xs i * hV ys 4 + xs i * hV ys j * 4294967296 ^ i))
      case atStart =>
        refine ⟨0, 0, z, rfl, by omega, rfl, rfl, Int.le_refl _, by decide, HT.out, HZ.out, BZ, ZZ, Lib.hid ?_⟩
        rw [HE.out, hV_0, Int.zero_mul, Int.mul_zero, Int.zero_mul]
      case round =>
        clear HT HZ BZ ZZ HE z hZ
        obtain ⟨j, c, z, rfl, hj, rfl, rfl, c0, c1, hT, hZ, BZ, ZZ, HE⟩ := hrel
        by_cases hj4 : j < 4
        · have hz := hT.z (i + j) (by omega)
          have hx := hT.x i hi4
          have hy := hT.y j hj4
          have HT := Lib.hid hT
          have z2 := hT.up.ownGe (show w.heap.size ≤ Z by omega) (i + j)
          obtain ⟨s1, s2, s3, s4, s5, s6, s7⟩ := half_step (BX.out i) (BY.out j) (BZ.out (i + j)) ⟨c0, c1⟩
          have HS := Lib.hid (step_sum (t := z (i + j) + xs i * ys j + c) HE.out rfl (by omega))
          have ea := and_low s6 s7
          have tj : decide ((j : Int) < 4) = true := decide_eq_true (by omega)
          have hb : 0 ≤ z (i + j) + xs i * ys j + c := s6
          have q1 : 0 ≤ (z (i + j) + xs i * ys j + c) / 4294967296 := by omega
          have q2 : (z (i + j) + xs i * ys j + c) / 4294967296 ≤ 4294967295 := by omega
          have q3 : 0 ≤ (z (i + j) + xs i * ys j + c) % 4294967296 := by omega
          have q4 : (z (i + j) + xs i * ys j + c) % 4294967296 ≤ 4294967295 := by omega
          have HM : Hid (∀ m, 0 ≤ upd z (i + j) ((z (i + j) + xs i * ys j + c) % 4294967296) m ∧ upd z (i + j) ((z (i + j) + xs i * ys j + c) % 4294967296) m ≤ 4294967295) := Lib.hid (fun m => by
            by_cases e : m = i + j
            · rw [e, upd_same]; exact ⟨q3, q4⟩
            · rw [upd_other _ _ e]; exact BZ.out m)
          have HN : Hid (∀ m, i + 4 ≤ m → upd z (i + j) ((z (i + j) + xs i * ys j + c) % 4294967296) m = 0) := Lib.hid (fun m hm => by rw [upd_other _ _ (by omega)]; exact ZZ.out m hm)
          clear hT s1 s2 HE BZ ZZ
          generalize hzz : z (i + j) = zz at hz s4 s5 s6 s7 ea hb q1 q2 q3 q4
          generalize hxx : xs i = xx at hx s3 s4 s5 s6 s7 ea hb q1 q2 q3 q4
          generalize hyy : ys j = yy at hy s3 s4 s5 s6 s7 ea hb q1 q2 q3 q4
          have EZ := Lib.hid hzz
          have EX := Lib.hid hxx
          have EY := Lib.hid hyy
          have HZ := Lib.hid hZ
          clear hzz hxx hyy hZ
          have wij : IntKind.i64.wrap ((i : Int) + (j : Int)) = (i : Int) + (j : Int) := IntWalk.i64_in _ (by omega)
          have nij : 0 ≤ (i : Int) + (j : Int) := by omega
          have lij : (i : Int) + (j : Int) < 9 := by omega
          have tij : ((i : Int) + (j : Int)).toNat = i + j := by omega
          go_wp2_with fail
          go_region
          all_goals
            go_wp2_with fail
            go_roundg (4 - (j + 1))
            case measure => omega
            case rel =>
              obtain rfl := EZ.out
              obtain rfl := EX.out
              obtain rfl := EY.out
              exact ⟨j + 1, _, _, rfl, by omega, by go_num, rfl, q1, q2, (HT.out.keep (Up.refl _).drew).set nZ1 nZ2 nZ3, by simpa using HZ.out, HM, HN, HS⟩
        · obtain rfl : j = 4 := by omega
          have hz := hT.z (i + 4) (by omega)
          have h0 := ZZ.out (i + 4) (by omega)
          rw [h0] at hz
          have HT := Lib.hid hT
          have z2 := hT.up.ownGe (show w.heap.size ≤ Z by omega) (i + 4)
          have HR := Lib.hid (row_sum HE.out h0 (by omega))
          have HM : Hid (∀ m, 0 ≤ upd z (i + 4) c m ∧ upd z (i + 4) c m ≤ 4294967295) := Lib.hid (fun m => by
            by_cases e : m = i + 4
            · rw [e, upd_same]; exact ⟨c0, c1⟩
            · rw [upd_other _ _ e]; exact BZ.out m)
          have HN : Hid (∀ m, i + 1 + 4 ≤ m → upd z (i + 4) c m = 0) := Lib.hid (fun m hm => by rw [upd_other _ _ (by omega)]; exact ZZ.out m (by omega))
          have wc0 : IntKind.u64.wrap c = c := by rw [IntKind.wrap_u64]; omega
          have wij : IntKind.i64.wrap ((i : Int) + 4) = (i : Int) + 4 := IntWalk.i64_in _ (by omega)
          have nij : 0 ≤ (i : Int) + 4 := by omega
          have lij : (i : Int) + 4 < 9 := by omega
          have tij : ((i : Int) + 4).toNat = i + 4 := by omega
          have HZ := Lib.hid hZ
          clear hT h0 HE BZ ZZ hj4 hZ
          go_wp2_with fail
          go_roundg (4 - (i + 1))
          case measure => omega
          case rel => exact ⟨i + 1, _, rfl, by omega, by go_num, HT.out.set nZ1 nZ2 nZ3, by simpa using HZ.out, HM, HN, Lib.hid (HR.out.trans next_row)⟩
    · obtain rfl : i = 4 := by omega
      have h8 := ZZ.out 8 (by omega)
      have HV := Lib.hid ((z_words h8).trans HE.out)
      have HT := Lib.hid hT
      have hu := hT.up
      clear hT h8 HE ZZ hi4
      go_wp2_with fail
      have HO : Hid (Ou w (wr.alloc (.cells #[.int .u64 0, .int .u64 0, .int .u64 0, .int .u64 0] 59)) g k Z wr.heap.size xs ys z 0) := Lib.hid (by
        refine ⟨HT.out.keep ((Up.refl _).alloc _ _), ?_⟩
        intro q hq
        rw [if_neg (by omega)]
        rcases (by omega : q = 0 ∨ q = 1 ∨ q = 2 ∨ q = 3) with rfl | rfl | rfl | rfl <;> simp [go_sem])
      have nO1 : w.heap.size + 1 + 1 < wr.heap.size := by omega
      have nO2 : g ≠ wr.heap.size := by omega
      have nO3 : k ≠ wr.heap.size := by omega
      have nO4 : Z ≠ wr.heap.size := by omega
      generalize hwo : wr.alloc (.cells #[.int .u64 0, .int .u64 0, .int .u64 0, .int .u64 0] 59) = wo at *
      clear hwo hu HT
      generalize wr.heap.size = O at *
      clear hZ wr
      go_loopg [58] 4 (fun kk u58 wr => ∃ m : Nat, kk = 4 - m ∧ m ≤ 4 ∧ u58 = .int .i64 m ∧ Ou w wr g k Z O xs ys z m)
      case atStart => exact ⟨0, rfl, by omega, rfl, HO.out⟩
      case round =>
        clear HO
        obtain ⟨m, rfl, hm, rfl, hO⟩ := hrel
        by_cases hm4 : m < 4
        · have ha := hO.tm.z (2 * m) (by omega)
          have hb := hO.tm.z (2 * m + 1) (by omega)
          have hc := hO.o m hm4
          rw [if_neg (by omega)] at hc
          have z2 := hO.tm.up.ownGe (show w.heap.size ≤ O by omega) m
          have HO := Lib.hid hO
          obtain ⟨a0, a1⟩ := BZ.out (2 * m)
          obtain ⟨b0, b1⟩ := BZ.out (2 * m + 1)
          have eo := or_high a0 a1 b0 b1
          have ew : IntKind.u64.wrap (z (2 * m + 1) * 4294967296) = z (2 * m + 1) * 4294967296 := by rw [IntKind.wrap_u64]; omega
          have tm : decide ((m : Int) < 4) = true := decide_eq_true (by omega)
          generalize haa : z (2 * m) = aa at ha a0 a1 eo
          generalize hbb : z (2 * m + 1) = bb at hb b0 b1 eo ew
          have EA := Lib.hid haa
          have EB := Lib.hid hbb
          clear haa hbb hO
          have w2m : IntKind.i64.wrap (2 * (m : Int)) = 2 * (m : Int) := IntWalk.i64_in _ (by omega)
          have w2n : IntKind.i64.wrap (2 * (m : Int) + 1) = 2 * (m : Int) + 1 := IntWalk.i64_in _ (by omega)
          have n1 : 0 ≤ 2 * (m : Int) := by omega
          have n2 : 2 * (m : Int) < 9 := by omega
          have n3 : 0 ≤ 2 * (m : Int) + 1 := by omega
          have n4 : 2 * (m : Int) + 1 < 9 := by omega
          have t1 : (2 * (m : Int)).toNat = 2 * m := by omega
          have t2 : (2 * (m : Int) + 1).toNat = 2 * m + 1 := by omega
          go_wp2_with fail
          go_region
          all_goals
            go_wp2_with fail
            go_roundg (4 - (m + 1))
            case measure => omega
            case rel =>
              obtain rfl := EA.out
              obtain rfl := EB.out
              refine ⟨m + 1, rfl, by omega, by go_num, ?_⟩
              first | exact (HO.out.next nO1 nO2 nO3 nO4).keep (Up.refl _).drew | exact (HO.out.keep (Up.refl _).drew).next nO1 nO2 nO3 nO4
        · obtain rfl : m = 4 := by omega
          have o0 : wr.cell? ⟨O, 0, none⟩ = some (.int .u64 (z 0 + z 1 * 4294967296)) := (hO.o 0 (by omega)).trans (by rw [if_pos (by omega)])
          have o1 : wr.cell? ⟨O, 1, none⟩ = some (.int .u64 (z 2 + z 3 * 4294967296)) := (hO.o 1 (by omega)).trans (by rw [if_pos (by omega)])
          have o2 : wr.cell? ⟨O, 2, none⟩ = some (.int .u64 (z 4 + z 5 * 4294967296)) := (hO.o 2 (by omega)).trans (by rw [if_pos (by omega)])
          have o3 : wr.cell? ⟨O, 3, none⟩ = some (.int .u64 (z 6 + z 7 * 4294967296)) := (hO.o 3 (by omega)).trans (by rw [if_pos (by omega)])
          have r0 := hO.tm.r 0 (by omega)
          have r1 := hO.tm.r 1 (by omega)
          have r2 := hO.tm.r 2 (by omega)
          have r3 := hO.tm.r 3 (by omega)
          have zr0 := hO.tm.up.ownGe (show w.heap.size ≤ w.heap.size + 1 + 1 by omega) 0
          have zr1 := hO.tm.up.ownGe (show w.heap.size ≤ w.heap.size + 1 + 1 by omega) 1
          have zr2 := hO.tm.up.ownGe (show w.heap.size ≤ w.heap.size + 1 + 1 by omega) 2
          have zr3 := hO.tm.up.ownGe (show w.heap.size ≤ w.heap.size + 1 + 1 by omega) 3
          have HO := Lib.hid hO.tm.up
          have wo0 : Word (z 0 + z 1 * 4294967296) := by obtain ⟨p, p'⟩ := BZ.out 0; obtain ⟨q, q'⟩ := BZ.out 1; exact ⟨by omega, by omega⟩
          have wo1 : Word (z 2 + z 3 * 4294967296) := by obtain ⟨p, p'⟩ := BZ.out 2; obtain ⟨q, q'⟩ := BZ.out 3; exact ⟨by omega, by omega⟩
          have wo2 : Word (z 4 + z 5 * 4294967296) := by obtain ⟨p, p'⟩ := BZ.out 4; obtain ⟨q, q'⟩ := BZ.out 5; exact ⟨by omega, by omega⟩
          have wo3 : Word (z 6 + z 7 * 4294967296) := by obtain ⟨p, p'⟩ := BZ.out 6; obtain ⟨q, q'⟩ := BZ.out 7; exact ⟨by omega, by omega⟩
          have HG := Lib.hid (g_W4 wo0 wo1 wo2 wo3 HV.out)
          generalize z 0 + z 1 * 4294967296 = a0 at *
          generalize z 2 + z 3 * 4294967296 = a1 at *
          generalize z 4 + z 5 * 4294967296 = a2 at *
          generalize z 6 + z 7 * 4294967296 = a3 at *
          clear hO wo0 wo1 wo2 wo3 HV hm4 BZ
          go_wp2_with fail
          refine bodyPost_ret (v := .agg #[.int .u64 a0, .int .u64 a1, .int .u64 a2, .int .u64 a3]) (by simp [results, Try.results44, go_sem, r0, r1, r2, r3]) rfl ⟨?_, ?_⟩
          · obtain ⟨G0, G1, G2, G3⟩ := HG.out
            rw [← G0, ← G1, ← G2, ← G3]
          · ((repeat (first | (with_reducible exact Up.refl _) | (with_reducible exact HO.out) | (with_reducible refine Up.alloc ?_ _ _) | (with_reducible refine Up.setCell ?_ ?_ _) | (with_reducible refine Up.drewN ?_ _) | (with_reducible refine Up.drew ?_))); all_goals (first | (simp; done) | (simp; omega) | omega))

theorem times_v (x y : Int) (hx : In2 x) (hy : In2 y) (w : World) :
    Calls Try.prog 44 #[.agg #[.int .u64 (hiZ x), .int .u64 (loZ x)], .agg #[.int .u64 (hiZ y), .int .u64 (loZ y)]] w fun e w' =>
      e = .returned (.agg #[.int .u64 (g0 (x * y)), .int .u64 (g1 (x * y)), .int .u64 (g2 (x * y)), .int .u64 (g3 (x * y))]) ∧ Up w w' := by
  have h := times_up (hiZ x) (loZ x) (hiZ y) (loZ y) (hiZ_word hx) (loZ_word x) (hiZ_word hy) (loZ_word y) w
  rw [val_hilo, val_hilo] at h
  exact h

end Go.Proofs.Ytgafcpklocccdaa
