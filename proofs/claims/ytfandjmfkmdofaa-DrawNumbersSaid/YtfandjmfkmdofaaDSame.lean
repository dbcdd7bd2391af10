/- What same and awake of the laws of layer 7 return. -/
import Derived.Test.YtfandjmfkmdofaaDDigits
namespace Go.Proofs.Ytfandjmfkmdofaa
open Go.RowKit

theorem up_drew7 {w w' : World} (h : ∃ q, w' = w.drewN q) : Up w w' := by obtain ⟨q, rfl⟩ := h; exact Up.drewN (Up.refl _) _
theorem drew_more7 {w w' : World} (h : ∃ q, w' = w.drewN q) (n : Nat) : ∃ q, w'.drewN n = w.drewN q := by obtain ⟨q, rfl⟩ := h; exact ⟨q + n, World.drewN_drewN _ _ _⟩
set_option maxHeartbeats 4000000 in
theorem same_q (n k k' : Nat) (A B : Option Addr) (L : List Int) (hz : n * 8 ≤ 140737488351232) (w : World) (hS : Sn w A n L) (hT : Sn w B n L) :
    Calls Try.prog 16 #[.slice A n k, .slice B n k'] w fun e w' => e = .returned (.bool true) ∧ ∃ q, w' = w.drewN q := by
  obtain ⟨hl, hcell⟩ := hS
  obtain ⟨_, hcell'⟩ := hT
  have HC := Lib.hid hcell
  have HC' := Lib.hid hcell'
  clear hl hcell hcell'
  go_enter Try.func16, Try.ntmps16
  go_wp2_with fail
  go_loopw [13] (fun d wr => ∃ i : Nat, d = .int .i64 i ∧ i ≤ n ∧ Hid (∃ q, wr = w.drewN q)) (fun d _ => n - (intOf d).toNat)
  case atStart => exact ⟨0, rfl, Nat.zero_le _, Lib.hid ⟨0, rfl⟩⟩
  case round =>
    obtain ⟨i, rfl, hin, HU⟩ := hrel
    by_cases hi : i < n
    · obtain ⟨b, o, rfl, hc⟩ := HC.out (by omega)
      obtain ⟨b', o', rfl, hc'⟩ := HC'.out (by omega)
      have c1 : wr.cell? ⟨b, o + i, none⟩ = some (.int .i64 (L.getD i 0)) := (up_drew7 HU.out).keep _ _ _ (hc i hi)
      have c2 : wr.cell? ⟨b', o' + i, none⟩ = some (.int .i64 (L.getD i 0)) := (up_drew7 HU.out).keep _ _ _ (hc' i hi)
      generalize L.getD i 0 = x at c1 c2
      clear hc hc' HC HC'
      go_wp2_with fail
      go_quiet (fail)
      go_wp2
      go_round
      case rel => exact ⟨i + 1, by first | rfl | simp, by omega, Lib.hid (drew_more7 HU.out _)⟩
      case measure => simp only [intOf]; omega
    · obtain rfl : i = n := by omega
      clear HC HC'
      go_wp2_with fail
      go_ret
      exact ⟨rfl, HU.out⟩

set_option maxHeartbeats 4000000 in
theorem awake7_up (w : World) : Calls Try.prog 11 #[] w fun e w' => e = .returned (.bool true) ∧ Up w w' := by
  have K := Lib.hid (fun (W : World) (g g' : Nat) (h1 : Bn W g [2, 3]) (h2 : Bn W g' [1, 2]) => number_any 2 2 (some ⟨g, 0, none⟩) [2, 3] 2 2 (some ⟨g', 0, none⟩) [1, 2] (by omega) (fun x hx => by simp at hx; rcases hx with rfl | rfl <;> exact ⟨by omega, by omega⟩) W (h1.sn rfl) (h2.sn rfl))
  have e1 : nmO [2, 3] [1, 2] = some 5 := by decide
  rw [e1] at K
  go_enter Try.func11, Try.ntmps11
  go_wp2_with fail
  refine (K.out _ w.heap.size (w.heap.size + 1) ?_ ?_).mono ?_
  · exact Blk.alloc (Blk.new _ _ _) _
  · have := Blk.new (w.alloc (.cells #[.int .i64 2, .int .i64 3] 2)) 2 #[.int .i64 1, .int .i64 2]
    simpa [Bn, nl] using this
  rintro e w' ⟨rfl, rfl⟩
  go_wp2_with fail
  go_ret
  exact ⟨rfl, by repeat (first | exact Up.refl _ | refine Up.alloc ?_ _ _ | refine Up.setCell ?_ (by first | (simp; done) | (simp; omega) | omega) _ | refine Up.drewN ?_ _ | refine Up.drew ?_)⟩
end Go.Proofs.Ytfandjmfkmdofaa
