/- Advance of the reference of layer 15. -/
import Derived.Test.YtinjainclhfahaaRows
import Derived.Test.YtinjainclhfahaaZFBaseq51
import Derived.Test.YtinjainclhfahaaZGCallq94
import Derived.Test.YtinjainclhfahaaZPAddq111
import Derived.Test.YtinjainclhfahaaZPRValq114
import Derived.Test.YtinjainclhfahaaZPRowq106
namespace Go.Proofs.Ytinjainclhfahaa
open Go.RowKit
set_option linter.unusedVariables false

set_option maxHeartbeats 4000000 in
set_option maxRecDepth 100000 in
theorem radvance15_up (p l c t : Int) (n k : Nat) (A : Option Addr) (X : List Int) (hn : n ≤ 50000) (hk : n ≤ k) (hI : ∀ x ∈ X, In2 x) (w : World) (hS : SG cW w A n X) :
    Calls Try.prog 15 #[.agg #[.int .i64 p, .int .i64 l, .int .i64 c, .slice A n k], .int .i64 t] w fun e w' => RsO (advQ p l c X t) w e w' := by
  have HS := Lib.hid hS
  have KV := Lib.hid (fun W (hu : Up w W) => rvalidate15_up p l c n k A X hn hI W (hS.up hu))
  unfold stQE at KV
  have KB := Lib.hid (rback_any c t)
  unfold backE at KB
  unfold advQ
  by_cases hv : stP p l c X = true
  case neg =>
    rw [if_neg hv] at KV ⊢
    clear hv hS hI
    go_enter Try.func15, Try.ntmps15
    go_wp2_with (go_at_call 21; (with_reducible refine (KV.out _ (((Up.refl w).alloc _ _).alloc _ _)).mono ?_); rintro e w1 ⟨rfl, hu⟩; obtain ⟨U1, E1⟩ := call2 w hu; clear hu)
    refine bodyPost_ret (v := .tuple #[.agg #[.int .i64 0, .int .i64 0, .int .i64 0, .slice none 0 0], .int .i64 2]) (by simp [results, Try.results15, go_sem, E1]) rfl (Rs.no rfl ?_).t
    ((repeat (first | (with_reducible exact Up.refl _) | (with_reducible exact U1.out) | (with_reducible refine Up.alloc ?_ _ _) | (with_reducible refine Up.setCell ?_ ?_ _) | (with_reducible refine Up.drewN ?_ _) | (with_reducible refine Up.drew ?_))); all_goals (first | (simp; done) | (simp; omega) | omega))
  rw [if_pos hv] at KV ⊢
  by_cases h : t < c ∨ 16777216 < t
  case pos =>
    rw [if_pos h] at KB ⊢
    clear hv hS hI h
    go_enter Try.func15, Try.ntmps15
    go_wp2_with (first
      | (go_at_call 21; (with_reducible refine (KV.out _ (((Up.refl w).alloc _ _).alloc _ _)).mono ?_); rintro e w1 ⟨rfl, hu⟩; obtain ⟨U1, E1⟩ := call2 w hu; clear hu)
      | (go_at_call 37; (with_reducible refine (KB.out _).mono ?_); rintro e w' ⟨rfl, rfl⟩))
    refine bodyPost_ret (v := .tuple #[.agg #[.int .i64 0, .int .i64 0, .int .i64 0, .slice none 0 0], .int .i64 3]) (by simp [results, Try.results15, go_sem, E1]) rfl (Rs.no rfl ?_).t
    ((repeat (first | (with_reducible exact Up.refl _) | (with_reducible exact U1.out) | (with_reducible refine Up.alloc ?_ _ _) | (with_reducible refine Up.setCell ?_ ?_ _) | (with_reducible refine Up.drewN ?_ _) | (with_reducible refine Up.drew ?_))); all_goals (first | (simp; done) | (simp; omega) | omega))
  rw [if_neg h] at KB ⊢
  clear hv hI h
  clear hS
  go_enter Try.func15, Try.ntmps15
  go_wp2_with (first
    | (go_at_call 21; (with_reducible refine (KV.out _ (((Up.refl w).alloc _ _).alloc _ _)).mono ?_); rintro e w1 ⟨rfl, hu⟩; obtain ⟨U1, E1⟩ := call2 w hu; clear hu)
    | (go_at_call 37; (with_reducible refine (KB.out _).mono ?_); rintro e w' ⟨rfl, rfl⟩))
  refine bodyPost_ret (v := .tuple #[.agg #[.int .i64 p, .int .i64 l, .int .i64 t, .slice A n k], .int .i64 0]) (by simp [results, Try.results15, go_sem, E1]) rfl (RsO.yes rfl ?_ ?_)
  · refine SG.up (HS.out) ?_
    ((repeat (first | (with_reducible exact Up.refl _) | (with_reducible exact U1.out) | (with_reducible refine Up.alloc ?_ _ _) | (with_reducible refine Up.setCell ?_ ?_ _) | (with_reducible refine Up.drewN ?_ _) | (with_reducible refine Up.drew ?_))); all_goals (first | (simp; done) | (simp; omega) | omega))
  · ((repeat (first | (with_reducible exact Up.refl _) | (with_reducible exact U1.out) | (with_reducible refine Up.alloc ?_ _ _) | (with_reducible refine Up.setCell ?_ ?_ _) | (with_reducible refine Up.drewN ?_ _) | (with_reducible refine Up.drew ?_))); all_goals (first | (simp; done) | (simp; omega) | omega))
end Go.Proofs.Ytinjainclhfahaa
