/- Same of the reference of layer 17; few and awake of the laws. -/
import Derived.Test.YtfcknhpllhkpeaaRows
import Derived.Test.YtfcknhpllhkpeaaZUAddq77
namespace Go.Proofs.Ytfcknhpllhkpeaa
open Go.RowKit
set_option linter.unusedVariables false

theorem awk17 : nwX true 3 9 0 = (true, 3, 9, 0, [], 0) ∧ anX true 3 9 0 [] 5 = (true, 3, 9, 0, [(0, 5)], 0) ∧ akX true 3 9 0 [(0, 5)] = (5, 0) := by
  refine ⟨?_, ?_, ?_⟩
  · unfold nwX; rw [if_pos (by decide)]
  · unfold anX; rw [if_pos (show stX true 3 9 0 [] = true by decide), if_pos (by decide), if_pos (by decide)]; rfl
  · unfold akX; rw [if_pos (show stX true 3 9 0 [(0, 5)] = true by decide), if_neg (by decide)]; rfl
set_option maxHeartbeats 4000000 in
set_option maxRecDepth 100000 in
theorem awake17_up (w : World) : Calls Try.prog 12 #[] w fun e w' => e = .returned (.bool true) ∧ Up w w' := by
  have K1 := Lib.hid (fun W => (new17_up true 3 9 0 W).mono (fun e w' (h : RsX _ W e w') => by rw [awk17.1] at h; exact h.of))
  have K2 := Lib.hid (fun W A k (hk : 0 ≤ k) (hS : Sl W A 0 []) => (add17_up true 3 9 0 0 k A [] 5 (by omega) hk W hS).mono (fun e w' (h : RsX _ W e w') => by rw [awk17.2.1] at h; exact h.of))
  have K3 := Lib.hid (fun W A k (hk : 1 ≤ k) (hS : Sl W A 1 [(0, 5)]) => (ask17_up true 3 9 0 1 k A [(0, 5)] (by omega) hk W hS).mono (fun e w' h => by rw [awk17.2.2] at h; exact h))
  simp only [List.length_cons, List.length_nil, Nat.zero_add] at K1 K2 K3
  go_enter Try.func12, Try.ntmps12
  go_wp2_with (first
    | (go_at_call 9; (with_reducible refine (K1.out _).mono ?_); rintro e w1 ⟨A1, k1, rfl, hN, hS, hu⟩; have HS1 := Lib.hid hS; have HK1 := Lib.hid hN.1; have U1 := Lib.hid hu; have hl1 := hu.size; clear hN hS hu)
    | (go_at_call 16; (with_reducible refine (K2.out _ A1 k1 HK1.out (HS1.out.up ((Up.refl _).alloc _ _))).mono ?_); rintro e w2 ⟨A2, k2, rfl, hN, hS, hu⟩; have HN2 : Hid (∀ b o, A2 = some ⟨b, o, none⟩ → w1.heap.size < b) := Lib.hid (fun b o e => by have := hN.2 b o e; simp at this; omega); have HK2 := Lib.hid hN.1; have HS2 := Lib.hid hS; obtain ⟨U2, E2⟩ := hold1 w w1.heap.size hu; have z2 := fun o => U2.out.ownGe hl1 o; have hb2 : w1.heap.size < w2.heap.size := E2.2; clear hN hS hu)
    | (go_at_call 18; ((with_reducible refine (K3.out _ A2 k2 HK2.out ?_).mono ?_); · (repeat (first | (with_reducible exact HS2.out) | (with_reducible exact HS2.out.up ((Up.refl _).alloc _ _)) | (with_reducible refine Sl.off ?_ (fun b o e => by have := HN2.out b o e; omega) _)))); rintro e w3 ⟨rfl, hu⟩; obtain ⟨U3, E3⟩ := hold1 w w1.heap.size hu; clear hu))
  go_ret
  exact ⟨rfl, U3.out⟩
end Go.Proofs.Ytfcknhpllhkpeaa
