/- All of package draw: the list of all sequences. -/
import Derived.Test.YtfandjmfkmdofaaDDigits
namespace Go.Proofs.Ytfandjmfkmdofaa
open Go.RowKit

theorem rows_info : (Try.prog.info? 22).map (fun i => (i.zero, i.size, i.bytes)) = some (some (.slice none 0 0), 1, 24) := by kernel_rfl
theorem makeR_run (c : Nat) (hc : c ≤ 100000) (w : World) : (Instr.makeSlice 37 (.int .i64 (c : Int)) (.int .i64 (c : Int))).run Try.prog w =
    .ok (.slice (some ⟨w.heap.size, 0, none⟩) c c) (w.alloc (.cells (List.replicate c (.slice none 0 0)).toArray 22)) := by
  obtain ⟨i, hi, hz, hs, hb⟩ := info_parts rows_info
  have := run_make (P := Try.prog) w 37 22 i _ Try.underlying37 hi hz .i64 .i64 (c : Int) (c : Int) (by omega) (by omega) (by rw [hb]; omega) (by omega)
  rw [this, hs, Int.toNat_natCast, ← made1]
  rfl
/-- The rows up to i are the sequences of these numbers. -/
structure AlW (w wr : World) (g n c i : Nat) (L : List Int) : Prop where
  up : Up w wr
  row : ∃ cs : Array Value, Blk wr g 22 cs ∧ cs.size = c ∧ ∀ j, j < i → ∃ b, cs[j]? = some (.slice (some ⟨b, 0, none⟩) n n) ∧ g < b ∧ Bn wr b (dg L j)
theorem AlW.cell {w wr : World} {g n c i : Nat} {L : List Int} (h : AlW w wr g n c i L) {j : Nat} (hj : j < c) : ∃ v, wr.cell? ⟨g, j, none⟩ = some v := by
  obtain ⟨cs, h1, h2, _⟩ := h.row
  exact ⟨cs[j]'(by omega), by rw [Blk.cell h1]; simp [h2, hj]⟩
theorem AlW.lt {w wr : World} {g n c i : Nat} {L : List Int} (h : AlW w wr g n c i L) : g < wr.heap.size := by
  obtain ⟨cs, h1, _⟩ := h.row
  exact h1.lt
theorem AlW.next {w wr wz : World} {g n c i b : Nat} {L : List Int} (h : AlW w wr g n c i L) (hu : Up wr wz) (hg : w.heap.size ≤ g) (hi : i < c) (hb : wr.heap.size ≤ b) (hB : Bn wz b (dg L i)) :
    AlW w (wz.setCell ⟨g, i, none⟩ (.slice (some ⟨b, 0, none⟩) n n)) g n c (i + 1) L := by
  have hlt := h.lt
  obtain ⟨cs, h1, h2, h3⟩ := h.row
  refine ⟨(h.up.trans hu).setCell hg _, cs.setIfInBounds i (.slice (some ⟨b, 0, none⟩) n n), (h1.up hu).set_ _ _, by simp [h2], fun j hj => ?_⟩
  rcases Nat.lt_or_ge j i with hji | hji
  · obtain ⟨b', k1, k2, k3⟩ := h3 j hji
    exact ⟨b', by rw [Array.getElem?_setIfInBounds_ne (by omega)]; exact k1, k2, Blk.far (k3.up hu) (by show b' ≠ g; omega) _⟩
  · obtain rfl : j = i := by omega
    exact ⟨b, by rw [Array.getElem?_setIfInBounds_self_of_lt (by omega)], by omega, Blk.far hB (by show b ≠ g; omega) _⟩

set_option maxHeartbeats 4000000 in
theorem all_no (n k : Nat) (A : Option Addr) (L : List Int) (hz : n * 8 ≤ 140737488351232) (hin : ∀ x ∈ L, In x) (w : World) (hS : Sn w A n L) (h : ∀ W, wtO L = some W → 100000 < W) :
    Calls Try.prog 20 #[.slice A n k] w fun e w' => e = .returned (.slice none 0 0) ∧ Up w w' := by
  have KW := Lib.hid (weight_any n k A L hz hin w hS)
  cases hw : wtO L with
  | none =>
    rw [hw] at KW
    clear hS hin hw h
    go_enter Try.func20, Try.ntmps20
    go_wp2_with fail
    refine KW.out.mono ?_
    rintro e w' ⟨rfl, rfl⟩
    go_wp2_with fail
    go_ret
    exact ⟨rfl, Up.refl _⟩
  | some W =>
    rw [hw] at KW
    have h1 := h W hw
    clear hS hin hw h
    go_enter Try.func20, Try.ntmps20
    go_wp2_with fail
    refine KW.out.mono ?_
    rintro e w' ⟨rfl, rfl⟩
    go_wp2_with fail
    go_ret
    exact ⟨rfl, Up.refl _⟩
set_option maxHeartbeats 4000000 in
theorem all_yes (n k c : Nat) (A : Option Addr) (L : List Int) (hz : n * 8 ≤ 140737488351232) (hin : ∀ x ∈ L, In x) (w : World) (hS : Sn w A n L) (hw : wtO L = some (c : Int)) (hc : c ≤ 100000) :
    Calls Try.prog 20 #[.slice A n k] w fun e w' => ∃ g, e = .returned (.slice (some ⟨g, 0, none⟩) c c) ∧ Hid (AlW w w' g n c c L) := by
  have KW := Lib.hid (weight_any n k A L hz hin w hS)
  have mk := fun W => makeR_run c hc W
  have KG := Lib.hid (fun (W : World) (hu : Up w W) (z : Nat) (hzc : z < c) => digits_up n k A L z hz (wtO_some hw).1 (by omega) (by omega) W (hS.up hu))
  rw [hw] at KW
  have hc1 : 1 ≤ c := by have := (wtO_some hw).2.2.1; omega
  clear hS hin hw
  go_enter Try.func20, Try.ntmps20
  go_wp2_with fail
  refine KW.out.mono ?_
  rintro e w' ⟨rfl, rfl⟩
  go_wp2_with fail
  go_loopw [21] (fun d wr => ∃ i : Nat, d = .int .i64 i ∧ i ≤ c ∧ Hid (AlW w wr w.heap.size n c i L)) (fun d _ => c - (intOf d).toNat)
  case atStart => exact ⟨0, rfl, Nat.zero_le _, Lib.hid ⟨(Up.refl w).alloc _ _, _, Blk.new _ _ _, by simp, fun j hj => absurd hj (Nat.not_lt_zero _)⟩⟩
  case round =>
    obtain ⟨i, rfl, hic, HW⟩ := hrel
    by_cases hi : i < c
    · have KG1 := Lib.hid (KG.out wr HW.out.up i hi)
      have g1 : (i : Int) < c := by omega
      have g2 : (0 : Int) ≤ i := by omega
      go_wp2_with fail
      refine KG1.out.mono ?_
      rintro e wz ⟨b, rfl, hb, hB, hu⟩
      have HU := Lib.hid hu
      have HB := Lib.hid hB
      obtain ⟨old, hold⟩ := HW.out.cell hi
      have c1 := hu.keep _ _ _ hold
      have f1 := (HW.out.up.trans hu).ownGe (Nat.le_refl _) i
      clear hu hB hold
      go_wp2_with fail
      go_round
      case rel => exact ⟨i + 1, by first | rfl | simp, by omega, Lib.hid (HW.out.next HU.out (Nat.le_refl _) hi hb HB.out)⟩
      case measure => simp only [intOf]; omega
    · obtain rfl : i = c := by omega
      clear KG
      go_wp2_with fail
      go_ret
      exact ⟨w.heap.size, rfl, HW⟩
end Go.Proofs.Ytfandjmfkmdofaa
