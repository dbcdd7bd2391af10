/- Ask of package poly and of its reference. -/
import Derived.Test.YtinjainclhfahaaRows
import Derived.Test.YtinjainclhfahaaZFBaseq51
import Derived.Test.YtinjainclhfahaaZGCallq94
import Derived.Test.YtinjainclhfahaaZPAskq117
import Derived.Test.YtinjainclhfahaaZPRValq114
import Derived.Test.YtinjainclhfahaaZPRowq106
namespace Go.Proofs.Ytinjainclhfahaa
open Go.RowKit
set_option linter.unusedVariables false

set_option maxHeartbeats 4000000 in
set_option maxRecDepth 100000 in
theorem rask15_up (p l c : Int) (n k : Nat) (A : Option Addr) (X : List Int) (hn : n ≤ 50000) (hk : n ≤ k) (hI : ∀ x ∈ X, In2 x) (w : World) (hS : SG cW w A n X) :
    Calls Try.prog 19 #[.agg #[.int .i64 p, .int .i64 l, .int .i64 c, .slice A n k]] w fun e w' => e = .returned (akP p l c X) ∧ Up w w' := by
  have HS := Lib.hid hS
  have KV := Lib.hid (fun W (hu : Up w W) => rvalidate15_up p l c n k A X hn hI W (hS.up hu))
  unfold stQE at KV
  unfold akP
  by_cases hv : stP p l c X = true
  case neg =>
    rw [if_neg hv] at KV ⊢
    clear hv hS hI
    go_enter Try.func19, Try.ntmps19
    go_wp2_with (go_at_call 21; (with_reducible refine (KV.out _ (((Up.refl w).alloc _ _).alloc _ _)).mono ?_); rintro e w1 ⟨rfl, hu⟩; obtain ⟨U1, E1⟩ := call2 w hu; clear hu)
    refine bodyPost_ret (v := .tuple #[.agg #[.int .u64 0, .int .u64 0, .int .u64 0, .int .u64 0], .int .i64 2]) (by simp [results, Try.results19, go_sem, E1]) rfl ⟨rfl, ?_⟩
    ((repeat (first | (with_reducible exact Up.refl _) | (with_reducible exact U1.out) | (with_reducible refine Up.alloc ?_ _ _) | (with_reducible refine Up.setCell ?_ ?_ _) | (with_reducible refine Up.drewN ?_ _) | (with_reducible refine Up.drew ?_))); all_goals (first | (simp; done) | (simp; omega) | omega))
  rw [if_pos hv] at KV ⊢
  obtain ⟨h1, h2, h3⟩ := stP_is hS.1 hv
  obtain ⟨m, rfl⟩ : ∃ m : Nat, p = m := ⟨p.toNat, by omega⟩
  rw [Int.toNat_natCast]
  have KW := Lib.hid (fun W => rwpow_v (c - l + 1) m (by omega) (by omega) (by omega) W)
  have g1 : (m : Int) < n := by omega
  have g0 : (0 : Int) ≤ m := by omega
  have hm : m < n := by omega
  have k1 : IntKind.i64.wrap (c - l) = c - l := IntWalk.i64_in _ (by omega)
  have k2 : IntKind.i64.wrap (c - l + 1) = c - l + 1 := IntWalk.i64_in _ (by omega)
  have k3 : IntKind.u64.wrap (c - l + 1) = c - l + 1 := by rw [IntKind.wrap_u64]; omega
  obtain ⟨b, o, rfl, x0, x1⟩ := wide_at hS hm
  have hb : b < w.heap.size := World.block_lt_of_cell? _ _ x0
  generalize X.getD m 0 = x at *
  generalize (c - l + 1) ^ m = P at *
  clear hv hS hI h1 h2 h3
  go_enter Try.func19, Try.ntmps19
  go_upto_region 5 with (first
    | (go_at_call 21; (with_reducible refine (KV.out _ (((Up.refl w).alloc _ _).alloc _ _)).mono ?_); rintro e w1 ⟨rfl, hu⟩; obtain ⟨U1, E1⟩ := call2 w hu; clear hu)
    | (go_at_call 43; (with_reducible refine (KW.out _).mono ?_); rintro e w2 ⟨rfl, hu⟩; obtain ⟨U2, E2⟩ := call2 w hu; clear hu))
  refine (show ∀ ws : World, ws = _ → Code.wp _ _ _ _ ws from fun ws hws => ?_) _ rfl
  obtain ⟨Us, Es⟩ := hold3 w w.heap.size (w.heap.size + 1) w2.heap.size (Up.of_eq hws)
  have Eb := fun o => Us.out.cells.1 b o hb
  have hbc : b < ws.heap.size := by have := Us.out.size; omega
  have ng : w.heap.size + 1 < w2.heap.size := by omega
  have zc := fun o => Us.out.ownGe (Nat.le_succ w.heap.size) o
  clear hws
  go_region_held3 (KB3 w.heap.size b w2.heap.size w ws) (first | (with_reducible exact KB3.start Us) | (with_reducible exact KB3.next (by assumption) (by assumption)) | (repeat (first | (with_reducible assumption) | (with_reducible exact KB3.base Us) | (with_reducible exact KB3.start Us) | (with_reducible refine KB3.next ((Up.refl _).drewN _) ?_) | (with_reducible refine KB3.next (Up.refl _).drew ?_) | (with_reducible refine KB3.set ?_ (by omega) (by omega) (by omega) (by omega))))) (first  | fail)
  have HF := Lib.hid (KB3.to (by assumption))
  go_wp2_with fail
  refine bodyPost_ret (v := .tuple #[.agg #[.int .u64 (hiZ x), .int .u64 (loZ x), .int .u64 (hiZ P), .int .u64 (loZ P)], .int .i64 0]) (by simp [results, Try.results19, go_sem, Es, E2, E1]) rfl ⟨rfl, HF.out⟩
end Go.Proofs.Ytinjainclhfahaa
