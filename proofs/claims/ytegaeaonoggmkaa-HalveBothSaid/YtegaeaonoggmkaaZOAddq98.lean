/- Advance, Add and Merge of package halve. -/
import Derived.Test.YtegaeaonoggmkaaRows
import Derived.Test.YtegaeaonoggmkaaZOAddq97
import Derived.Test.YtegaeaonoggmkaaZORowq96
namespace Go.Proofs.Ytegaeaonoggmkaa
open Go.RowKit
set_option linter.unusedVariables false

set_option maxHeartbeats 4000000 in
set_option maxRecDepth 100000 in
theorem merge16_up (now : Int) (n k : Nat) (A : Option Addr) (S : List Int) (now' : Int) (m j : Nat) (B : Option Addr) (T : List Int) (hn : n ≤ 100000) (hm : m ≤ 100000) (hI : ∀ x ∈ S, In x) (hJ : ∀ x ∈ T, In x) (hc : In now) (hc' : In now') (w : World) (hS : Sn w A n S) (hT : Sn w B m T) :
    Calls Try.prog 22 #[.agg #[.int .i64 now, .slice A n k], .agg #[.int .i64 now', .slice B m j]] w fun e w' => RsH (mgR now S now' T) w e w' := by
  have HS := Lib.hid hS
  have HT := Lib.hid hT
  have KV1 := Lib.hid (fun W (hu : Up w W) => validate16_up now n k A S hn hI hc W (hS.up hu))
  have KV2 := Lib.hid (fun W (hu : Up w W) => validate16_up now' m j B T hm hJ hc' W (hT.up hu))
  unfold stHE at KV1 KV2
  unfold mgR
  by_cases hv : stH now S = true
  case neg =>
    rw [if_neg hv] at KV1 ⊢
    clear hv hS hI hT hJ KV2
    go_enter Try.func22, Try.ntmps22
    go_wp2_with (go_at_call 20; (with_reducible refine (KV1.out _ ((((Up.refl w).alloc _ _).alloc _ _).alloc _ _)).mono ?_); rintro e w1 ⟨rfl, hu1⟩; obtain ⟨U1, E1⟩ := call3 w hu1; clear hu1)
    refine bodyPost_ret (v := .tuple #[.agg #[.int .i64 0, .slice none 0 0], .int .i64 2]) (by simp [results, Try.results22, go_sem, E1]) rfl (RsH.no rfl ?_)
    ((repeat (first | (with_reducible exact Up.refl _) | (with_reducible exact U1.out) | (with_reducible refine Up.alloc ?_ _ _) | (with_reducible refine Up.setCell ?_ ?_ _) | (with_reducible refine Up.drewN ?_ _) | (with_reducible refine Up.drew ?_))); all_goals (first | (simp; done) | (simp; omega) | omega))
  rw [if_pos hv] at KV1 ⊢
  by_cases hv2 : stH now' T = true
  case neg =>
    rw [if_neg hv2] at KV2 ⊢
    clear hv hv2 hS hI hT hJ
    go_enter Try.func22, Try.ntmps22
    go_wp2_with (first
      | (go_at_call 20; (with_reducible refine (KV1.out _ ((((Up.refl w).alloc _ _).alloc _ _).alloc _ _)).mono ?_); rintro e w1 ⟨rfl, hu1⟩; obtain ⟨U1, E1⟩ := call3 w hu1; clear hu1)
      | (go_at_call 20; (with_reducible refine (KV2.out _ U1.out).mono ?_); rintro e w2 ⟨rfl, hu2⟩; obtain ⟨U2, E2⟩ := call3 w hu2; clear hu2))
    refine bodyPost_ret (v := .tuple #[.agg #[.int .i64 0, .slice none 0 0], .int .i64 2]) (by simp [results, Try.results22, go_sem, E1, E2]) rfl (RsH.no rfl ?_)
    ((repeat (first | (with_reducible exact Up.refl _) | (with_reducible exact U2.out) | (with_reducible refine Up.alloc ?_ _ _) | (with_reducible refine Up.setCell ?_ ?_ _) | (with_reducible refine Up.drewN ?_ _) | (with_reducible refine Up.drew ?_))); all_goals (first | (simp; done) | (simp; omega) | omega))
  rw [if_pos hv2] at KV2 ⊢
  by_cases he : now = now' ∧ S.length = T.length
  case neg =>
    rw [if_neg he]
    rw [hS.1, hT.1] at he
    by_cases hp : now = now'
    case neg =>
      have t1 : (now != now') = true := by simp [hp]
      clear hv hv2 hS hI hT hJ he hp
      go_enter Try.func22, Try.ntmps22
      go_wp2_with (first
        | (go_at_call 20; (with_reducible refine (KV1.out _ ((((Up.refl w).alloc _ _).alloc _ _).alloc _ _)).mono ?_); rintro e w1 ⟨rfl, hu1⟩; obtain ⟨U1, E1⟩ := call3 w hu1; clear hu1)
        | (go_at_call 20; (with_reducible refine (KV2.out _ U1.out).mono ?_); rintro e w2 ⟨rfl, hu2⟩; obtain ⟨U2, E2⟩ := call3 w hu2; clear hu2))
      refine bodyPost_ret (v := .tuple #[.agg #[.int .i64 0, .slice none 0 0], .int .i64 1]) (by simp [results, Try.results22, go_sem, E1, E2]) rfl (RsH.no rfl ?_)
      ((repeat (first | (with_reducible exact Up.refl _) | (with_reducible exact U2.out) | (with_reducible refine Up.alloc ?_ _ _) | (with_reducible refine Up.setCell ?_ ?_ _) | (with_reducible refine Up.drewN ?_ _) | (with_reducible refine Up.drew ?_))); all_goals (first | (simp; done) | (simp; omega) | omega))
    have t1 : (now != now') = false := by simp [hp]
    have hnm : ¬ n = m := fun h => he ⟨hp, h⟩
    have t2 : ((n : Int) != (m : Int)) = true := by simp; omega
    clear hv hv2 hS hI hT hJ he hp
    go_enter Try.func22, Try.ntmps22
    go_wp2_with (first
      | (go_at_call 20; (with_reducible refine (KV1.out _ ((((Up.refl w).alloc _ _).alloc _ _).alloc _ _)).mono ?_); rintro e w1 ⟨rfl, hu1⟩; obtain ⟨U1, E1⟩ := call3 w hu1; clear hu1)
      | (go_at_call 20; (with_reducible refine (KV2.out _ U1.out).mono ?_); rintro e w2 ⟨rfl, hu2⟩; obtain ⟨U2, E2⟩ := call3 w hu2; clear hu2))
    refine bodyPost_ret (v := .tuple #[.agg #[.int .i64 0, .slice none 0 0], .int .i64 1]) (by simp [results, Try.results22, go_sem, E1, E2]) rfl (RsH.no rfl ?_)
    ((repeat (first | (with_reducible exact Up.refl _) | (with_reducible exact U2.out) | (with_reducible refine Up.alloc ?_ _ _) | (with_reducible refine Up.setCell ?_ ?_ _) | (with_reducible refine Up.drewN ?_ _) | (with_reducible refine Up.drew ?_))); all_goals (first | (simp; done) | (simp; omega) | omega))
  rw [if_pos he]
  rw [hS.1, hT.1] at he
  obtain ⟨rfl, rfl⟩ := he
  obtain ⟨h1, h2, h3⟩ := stH_is hS.1 hv
  obtain ⟨_, _, h4⟩ := stH_is hT.1 hv2
  have t1 : (now != now) = false := by simp
  have t2 : ((n : Int) != (n : Int)) = false := by simp
  have KP := Lib.hid (fun r hr W (hu : Up w W) => plus16_up n k n j A B S T hn (Nat.le_refl _) h3 h4 r hr W (hS.up hu) (hT.up hu))
  unfold PlN at KP
  rw [plH_mg (by rw [hS.1, hT.1])] at KP
  have hl : (mgH S T).length = n := by rw [mgH_len]; exact hS.1
  have hr0 : mgHB S T = (List.range n).all (fun e => decide (S.getD e 0 + T.getD e 0 ≤ 1099511627776)) := by unfold mgHB; rw [hS.1]
  have KQ := Lib.hid (KP.out (mgHB S T) hr0)
  generalize mgH S T = Z at *
  generalize mgHB S T = r at *
  have KH := Lib.hid (fun A2 n2 k2 => holding16_up now n2 k2 A2 r)
  clear KP hr0 hv hv2 hS hI hT hJ h1 h2 h3 h4
  cases r
  · rw [if_neg (by decide)]
    go_enter Try.func22, Try.ntmps22
    go_wp2_with (first
      | (go_at_call 20; (with_reducible refine (KV1.out _ ((((Up.refl w).alloc _ _).alloc _ _).alloc _ _)).mono ?_); rintro e w1 ⟨rfl, hu1⟩; obtain ⟨U1, E1⟩ := call3 w hu1; clear hu1)
      | (go_at_call 20; (with_reducible refine (KV2.out _ U1.out).mono ?_); rintro e w2 ⟨rfl, hu2⟩; obtain ⟨U2, E2⟩ := call3 w hu2; clear hu2)
      | (go_at_call 36; (with_reducible refine (KQ.out _ U2.out).mono ?_); rintro e w3 ⟨A2, n2, k2, rfl, hR2, hu⟩; have HN2 : Hid (w.heap.size + 2 < w2.heap.size) := Lib.hid (by omega); obtain ⟨U3, E3⟩ := call3 w hu; have HR2 := Lib.hid hR2; clear hu hR2)
      | (go_at_call 37; (with_reducible refine (KH.out _ _ _ _).mono ?_); rintro e w5 ⟨rfl, hu5⟩; obtain ⟨U5, E5⟩ := call3 w hu5; clear hu5))
    refine bodyPost_ret (v := .tuple #[.agg #[.int .i64 0, .slice none 0 0], .int .i64 6]) (by simp [results, Try.results22, go_sem, E1, E2, E3, E5]) rfl (RsH.no rfl ?_)
    ((repeat (first | (with_reducible exact Up.refl _) | (with_reducible exact U5.out) | (with_reducible refine Up.alloc ?_ _ _) | (with_reducible refine Up.setCell ?_ ?_ _) | (with_reducible refine Up.drewN ?_ _) | (with_reducible refine Up.drew ?_))); all_goals (first | (simp; done) | (simp; omega) | omega))
  · rw [if_pos rfl]
    go_enter Try.func22, Try.ntmps22
    go_wp2_with (first
      | (go_at_call 20; (with_reducible refine (KV1.out _ ((((Up.refl w).alloc _ _).alloc _ _).alloc _ _)).mono ?_); rintro e w1 ⟨rfl, hu1⟩; obtain ⟨U1, E1⟩ := call3 w hu1; clear hu1)
      | (go_at_call 20; (with_reducible refine (KV2.out _ U1.out).mono ?_); rintro e w2 ⟨rfl, hu2⟩; obtain ⟨U2, E2⟩ := call3 w hu2; clear hu2)
      | (go_at_call 36; (with_reducible refine (KQ.out _ U2.out).mono ?_); rintro e w3 ⟨A2, n2, k2, rfl, hR2, hu⟩; have HN2 : Hid (w.heap.size + 2 < w2.heap.size) := Lib.hid (by omega); obtain ⟨U3, E3⟩ := call3 w hu; have HR2 := Lib.hid hR2; clear hu hR2)
      | (go_at_call 37; (with_reducible refine (KH.out _ _ _ _).mono ?_); rintro e w5 ⟨rfl, hu5⟩; obtain ⟨U5, E5⟩ := call3 w hu5; have HR := Lib.hid ((HR2.out (by trivial)).2.2.up hu5); clear hu5))
    obtain ⟨rfl, hN2, _⟩ := HR2.out (by trivial)
    have HN : Hid (∀ b o, A2 = some ⟨b, o, none⟩ → w.heap.size + 2 < b) := Lib.hid (fun b o e => by have := hN2.2 b o e; have := HN2.out; omega)
    have HK := Lib.hid hN2.1
    clear hN2
    refine bodyPost_ret (v := .tuple #[.agg #[.int .i64 now, .slice A2 n2 k2], .int .i64 0]) (by simp [results, Try.results22, go_sem, E1, E2, E3, E5]) rfl (RsH.yes rfl ?_ ?_ ?_)
    · exact ⟨HK.out, fun b o e => by have := HN.out b o e; omega⟩
    · (repeat (first | (with_reducible exact HR.out) | (with_reducible refine Sn.far ?_ (fun b o e => by have := HN.out b o e; omega) _)))
    · ((repeat (first | (with_reducible exact Up.refl _) | (with_reducible exact U5.out) | (with_reducible refine Up.alloc ?_ _ _) | (with_reducible refine Up.setCell ?_ ?_ _) | (with_reducible refine Up.drewN ?_ _) | (with_reducible refine Up.drew ?_))); all_goals (first | (simp; done) | (simp; omega) | omega))
end Go.Proofs.Ytegaeaonoggmkaa
