/- Ask of package poly and of its reference. -/
import Derived.Test.YtinjainclhfahaaRows
import Derived.Test.YtinjainclhfahaaZPAddq111
namespace Go.Proofs.Ytinjainclhfahaa
open Go.RowKit
set_option linter.unusedVariables false

/-- What Ask returns. -/
def akP (p l c : Int) (X : List Int) : Value := if stP p l c X = true then .tuple #[.agg #[.int .u64 (hiZ (X.getD p.toNat 0)), .int .u64 (loZ (X.getD p.toNat 0)), .int .u64 (hiZ ((c - l + 1) ^ p.toNat)), .int .u64 (loZ ((c - l + 1) ^ p.toNat))], .int .i64 0] else .tuple #[.agg #[.int .u64 0, .int .u64 0, .int .u64 0, .int .u64 0], .int .i64 2]
set_option maxHeartbeats 4000000 in
set_option maxRecDepth 100000 in
theorem ask15_up (p l c : Int) (n k : Nat) (A : Option Addr) (X : List Int) (hn : n ≤ 50000) (hk : n ≤ k) (hI : ∀ x ∈ X, In2 x) (w : World) (hS : SG cW w A n X) :
    Calls Try.prog 18 #[.agg #[.int .i64 p, .int .i64 l, .int .i64 c, .slice A n k]] w fun e w' => e = .returned (akP p l c X) ∧ Up w w' := by
  have HS := Lib.hid hS
  have KV := Lib.hid (fun W (hu : Up w W) => validate15_up p l c n k A X hn hI W (hS.up hu))
  unfold stQE at KV
  unfold akP
  by_cases hv : stP p l c X = true
  case neg =>
    rw [if_neg hv] at KV ⊢
    clear hv hS hI
    go_enter Try.func18, Try.ntmps18
    go_wp2_with (go_at_call 20; (with_reducible refine (KV.out _ (((Up.refl w).alloc _ _).alloc _ _)).mono ?_); rintro e w1 ⟨rfl, hu⟩; obtain ⟨U1, E1⟩ := call2 w hu; clear hu)
    refine bodyPost_ret (v := .tuple #[.agg #[.int .u64 0, .int .u64 0, .int .u64 0, .int .u64 0], .int .i64 2]) (by simp [results, Try.results18, go_sem, E1]) rfl ⟨rfl, ?_⟩
    ((repeat (first | (with_reducible exact Up.refl _) | (with_reducible exact U1.out) | (with_reducible refine Up.alloc ?_ _ _) | (with_reducible refine Up.setCell ?_ ?_ _) | (with_reducible refine Up.drewN ?_ _) | (with_reducible refine Up.drew ?_))); all_goals (first | (simp; done) | (simp; omega) | omega))
  rw [if_pos hv] at KV ⊢
  obtain ⟨h1, h2, h3⟩ := stP_is hS.1 hv
  obtain ⟨m, rfl⟩ : ∃ m : Nat, p = m := ⟨p.toNat, by omega⟩
  rw [Int.toNat_natCast]
  have KW := Lib.hid (fun W => wpow_v (c - l + 1) m (by omega) (by omega) (by omega) W)
  have g1 : (m : Int) < n := by omega
  have g0 : (0 : Int) ≤ m := by omega
  have hm : m < n := by omega
  have KG := Lib.hid (gage_up m l c n k A h2.1 h2.2.1 h2.2.2)
  obtain ⟨b, o, rfl, x0, x1⟩ := wide_at hS hm
  have hb : b < w.heap.size := World.block_lt_of_cell? _ _ x0
  generalize X.getD m 0 = x at *
  generalize (c - l + 1) ^ m = P at *
  generalize c - l + 1 = g at *
  clear hv hS hI h1 h2 h3
  go_enter Try.func18, Try.ntmps18
  go_upto_region 4 with (go_at_call 20; (with_reducible refine (KV.out _ (((Up.refl w).alloc _ _).alloc _ _)).mono ?_); rintro e w1 ⟨rfl, hu⟩; obtain ⟨U1, E1⟩ := call2 w hu; clear hu)
  refine (show ∀ ws : World, ws = _ → Code.wp _ _ _ _ ws from fun ws hws => ?_) _ rfl
  obtain ⟨Us, Es⟩ := hold2 w w.heap.size (w.heap.size + 1) (Up.of_eq hws)
  clear hws
  go_cut [5, 6] (fun s t wx => ∃ g : Nat, s = .pointer (some ⟨g, 0, none⟩) ∧ t = .bool true ∧ ws.heap.size ≤ g ∧ wx.cell? ⟨g, 0, none⟩ = some (.int .u64 (hiZ P)) ∧ wx.cell? ⟨g, 1, none⟩ = some (.int .u64 (loZ P)) ∧ Hid (Up ws wx))
  case first =>
    go_region_held3 (KB1 w.heap.size ws ws) (first | (with_reducible exact KB1.start (Lib.hid (Up.refl ws))) | (with_reducible exact KB1.next (by assumption) (by assumption)) | (repeat (first | (with_reducible assumption) | (with_reducible exact Hid.out (by assumption)) | (with_reducible exact KB1.base (Lib.hid (Up.refl ws))) | (with_reducible exact KB1.start (Lib.hid (Up.refl ws))) | (with_reducible refine KB1.next ((Up.refl _).alloc _ _) ?_) | (with_reducible refine KB1.next (Up.refl _).drew ?_) | (with_reducible refine KB1.set ?_ (by first | omega | (simp; done) | (simp; omega)) (by first | omega | (simp; done) | (simp; omega)))))) (first
      | (go_at_call 40; (with_reducible refine (KG.out _).mono ?_); rintro e w1 ⟨rfl, hu1⟩; have HS1 := Lib.hid (KB1.next hu1 (by assumption)); have hc1 := hu1.cells.1; have hz1 := hu1.cells.2; have hs1 := hu1.size; (try simp at hs1); (try (have hg0_1 : ws.heap.size < w1.heap.size := by omega)))
      | (go_at_call 47; (with_reducible refine (KW.out _).mono ?_); rintro e w2 ⟨rfl, hu2⟩; have HS2 := Lib.hid (KB1.next hu2 (by assumption)); have hc2 := hu2.cells.1; have hz2 := hu2.cells.2; have hs2 := hu2.size; (try simp at hs2); (try (have hg0_2 : ws.heap.size < w2.heap.size := by omega)); (try (have hg1_2 : w1.heap.size < w2.heap.size := by omega))))
    all_goals
      go_wp2_with fail
      go_meet
      refine ⟨_, rfl, rfl, ?_, ?_, ?_, Lib.hid (KB1.to (by assumption))⟩
      · first | omega | (simp; done) | (simp; omega)
      all_goals (first | (simp [go_sem, *]; done) | (simp [go_sem]; done))
  obtain ⟨g, rfl, rfl, hg, q0, q1, HQ⟩ := hcut
  have hgc : g < wc.heap.size := World.block_lt_of_cell? _ _ q0
  obtain ⟨Uc, Ec⟩ := hold2 w w.heap.size (w.heap.size + 1) HQ.out
  have Eb := fun o => Uc.out.cells.1 b o hb
  have hbc : b < wc.heap.size := by have := Uc.out.size; omega
  have zc := fun o => Uc.out.ownGe (Nat.le_succ w.heap.size) o
  have ng : w.heap.size + 1 < g := by omega
  clear HQ
  go_wp2_with fail
  go_region_held3 (KB3 w.heap.size b g w wc) (first | (with_reducible exact KB3.start Uc) | (with_reducible exact KB3.next (by assumption) (by assumption)) | (repeat (first | (with_reducible assumption) | (with_reducible exact KB3.base Uc) | (with_reducible exact KB3.start Uc) | (with_reducible refine KB3.next ((Up.refl _).drewN _) ?_) | (with_reducible refine KB3.next (Up.refl _).drew ?_) | (with_reducible refine KB3.set ?_ (by omega) (by omega) (by omega) (by omega))))) (first  | fail)
  have HF := Lib.hid (KB3.to (by assumption))
  go_wp2_with fail
  refine bodyPost_ret (v := .tuple #[.agg #[.int .u64 (hiZ x), .int .u64 (loZ x), .int .u64 (hiZ P), .int .u64 (loZ P)], .int .i64 0]) (by simp [results, Try.results18, go_sem, Ec, Es, E1]) rfl ⟨rfl, HF.out⟩
end Go.Proofs.Ytinjainclhfahaa
