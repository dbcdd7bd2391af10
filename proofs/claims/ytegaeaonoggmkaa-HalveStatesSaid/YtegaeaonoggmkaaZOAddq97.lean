/- Advance, Add and Merge of package halve. -/
import Derived.Test.YtegaeaonoggmkaaRows
import Derived.Test.YtegaeaonoggmkaaZORowq95
import Derived.Test.YtegaeaonoggmkaaZOValq93
namespace Go.Proofs.Ytegaeaonoggmkaa
open Go.RowKit
set_option linter.unusedVariables false

theorem one_newN (w : World) (x : Int) : Sn (w.alloc (.cells #[.int .i64 x] 2)) (some ⟨w.heap.size, 0, none⟩) 1 [x] := (show Bn (w.alloc (.cells #[.int .i64 x] 2)) w.heap.size [x] from Blk.new w _ _).sn rfl
theorem getD_memI {S : List Int} {x : Int} (h : x ∈ S) : ∃ e, e < S.length ∧ S.getD e 0 = x := by
  obtain ⟨e, he, rfl⟩ := List.getElem_of_mem h
  exact ⟨e, he, by simp [List.getD, he]⟩
theorem stH_is {now : Int} {n : Nat} {S : List Int} (hX : S.length = n) (h : stH now S = true) : (1 ≤ n ∧ n ≤ 64) ∧ (0 ≤ now ∧ now ≤ 16777216) ∧ ∀ x ∈ S, 0 ≤ x ∧ x ≤ 1099511627776 := by
  obtain ⟨h1, h2, h3⟩ := stH_iff.1 h
  refine ⟨by omega, h2, fun x hx => ?_⟩
  obtain ⟨e, he, rfl⟩ := getD_memI hx
  exact ⟨(h3 e he).1, (h3 e he).2.1⟩
set_option maxHeartbeats 4000000 in
set_option maxRecDepth 100000 in
theorem advance16_up (now : Int) (n k : Nat) (A : Option Addr) (S : List Int) (t : Int) (hn : n ≤ 100000) (hI : ∀ x ∈ S, In x) (hc : In now) (w : World) (hS : Sn w A n S) :
    Calls Try.prog 14 #[.agg #[.int .i64 now, .slice A n k], .int .i64 t] w fun e w' => RsH (avR now S t) w e w' := by
  have HS := Lib.hid hS
  have KV := Lib.hid (fun W (hu : Up w W) => validate16_up now n k A S hn hI hc W (hS.up hu))
  unfold stHE at KV
  unfold avR
  by_cases hv : stH now S = true
  case neg =>
    rw [if_neg hv] at KV ⊢
    clear hv hS hI
    go_enter Try.func14, Try.ntmps14
    go_wp2_with (go_at_call 20; (with_reducible refine (KV.out _ (((Up.refl w).alloc _ _).alloc _ _)).mono ?_); rintro e w1 ⟨rfl, hu⟩; obtain ⟨U1, E1⟩ := call2 w hu; clear hu)
    refine bodyPost_ret (v := .tuple #[.agg #[.int .i64 0, .slice none 0 0], .int .i64 2]) (by simp [results, Try.results14, go_sem, E1]) rfl (RsH.no rfl ?_)
    ((repeat (first | (with_reducible exact Up.refl _) | (with_reducible exact U1.out) | (with_reducible refine Up.alloc ?_ _ _) | (with_reducible refine Up.setCell ?_ ?_ _) | (with_reducible refine Up.drewN ?_ _) | (with_reducible refine Up.drew ?_))); all_goals (first | (simp; done) | (simp; omega) | omega))
  rw [if_pos hv] at KV ⊢
  obtain ⟨h1, h2, h3⟩ := stH_is hS.1 hv
  have ht : tickB now = true := decide_eq_true h2
  by_cases h : t < now ∨ 16777216 < t
  case pos =>
    rw [if_pos h]
    have KA := Lib.hid (fun W => advance_any now t 0 3 (by rw [if_pos ht, if_pos h]) W)
    clear hv hS hI h ht h1 h2 h3
    go_enter Try.func14, Try.ntmps14
    go_wp2_with (first
      | (go_at_call 20; (with_reducible refine (KV.out _ (((Up.refl w).alloc _ _).alloc _ _)).mono ?_); rintro e w1 ⟨rfl, hu⟩; obtain ⟨U1, E1⟩ := call2 w hu; clear hu)
      | (go_at_call 33; (with_reducible refine (KA.out _).mono ?_); rintro e w' ⟨rfl, rfl⟩))
    refine bodyPost_ret (v := .tuple #[.agg #[.int .i64 0, .slice none 0 0], .int .i64 3]) (by simp [results, Try.results14, go_sem, E1]) rfl (RsH.no rfl ?_)
    ((repeat (first | (with_reducible exact Up.refl _) | (with_reducible exact U1.out) | (with_reducible refine Up.alloc ?_ _ _) | (with_reducible refine Up.setCell ?_ ?_ _) | (with_reducible refine Up.drewN ?_ _) | (with_reducible refine Up.drew ?_))); all_goals (first | (simp; done) | (simp; omega) | omega))
  rw [if_neg h]
  have KA := Lib.hid (fun W => advance_any now t t 0 (by rw [if_pos ht, if_neg h]) W)
  have KO := Lib.hid (fun W (hu : Up w W) => older16_up n k (t - now).toNat A S h1.1 hn (by omega) W (hS.up hu))
  unfold RwN at KO
  have kw : IntKind.i64.wrap (t - now) = (((t - now).toNat : Nat) : Int) := by rw [IntKind.wrap_i64]; omega
  have hl : (avH (t - now).toNat S).length = n := by rw [avH_len]; exact hS.1
  generalize avH (t - now).toNat S = Z at *
  generalize (t - now).toNat = d at *
  clear hv hS hI h ht h1 h2 h3
  go_enter Try.func14, Try.ntmps14
  go_wp2_with (first
    | (go_at_call 20; (with_reducible refine (KV.out _ (((Up.refl w).alloc _ _).alloc _ _)).mono ?_); rintro e w1 ⟨rfl, hu⟩; obtain ⟨U1, E1⟩ := call2 w hu; clear hu)
    | (go_at_call 33; (with_reducible refine (KA.out _).mono ?_); rintro e w' ⟨rfl, rfl⟩)
    | (go_at_call 34; (with_reducible refine (KO.out _ U1.out).mono ?_); rintro e w2 ⟨A1, k1, rfl, hN, hR, hu⟩; have HR := Lib.hid hR; have HN : Hid (∀ b o, A1 = some ⟨b, o, none⟩ → w.heap.size + 1 < b) := Lib.hid (fun b o e => by have := hN.2 b o e; omega); have HK := Lib.hid hN.1; obtain ⟨U2, E2⟩ := call2 w hu; clear hu hR hN))
  refine bodyPost_ret (v := .tuple #[.agg #[.int .i64 t, .slice A1 n k1], .int .i64 0]) (by simp [results, Try.results14, go_sem, E1, E2]) rfl (RsH.yes rfl ?_ ?_ ?_)
  · exact ⟨HK.out, fun b o e => by have := HN.out b o e; omega⟩
  · (repeat (first | (with_reducible exact HR.out) | (with_reducible refine Sn.far ?_ (fun b o e => by have := HN.out b o e; omega) _)))
  · ((repeat (first | (with_reducible exact Up.refl _) | (with_reducible exact U2.out) | (with_reducible refine Up.alloc ?_ _ _) | (with_reducible refine Up.setCell ?_ ?_ _) | (with_reducible refine Up.drewN ?_ _) | (with_reducible refine Up.drew ?_))); all_goals (first | (simp; done) | (simp; omega) | omega))
set_option maxHeartbeats 4000000 in
set_option maxRecDepth 100000 in
theorem add16_up (now : Int) (n k : Nat) (A : Option Addr) (S : List Int) (v : Int) (hn : n ≤ 100000) (hI : ∀ x ∈ S, In x) (hc : In now) (w : World) (hS : Sn w A n S) :
    Calls Try.prog 16 #[.agg #[.int .i64 now, .slice A n k], .int .i64 v] w fun e w' => RsH (anR now S v) w e w' := by
  have HS := Lib.hid hS
  have KV := Lib.hid (fun W (hu : Up w W) => validate16_up now n k A S hn hI hc W (hS.up hu))
  unfold stHE at KV
  unfold anR
  by_cases hv : stH now S = true
  case neg =>
    rw [if_neg hv] at KV ⊢
    clear hv hS hI
    go_enter Try.func16, Try.ntmps16
    go_wp2_with (go_at_call 20; (with_reducible refine (KV.out _ (((Up.refl w).alloc _ _).alloc _ _)).mono ?_); rintro e w1 ⟨rfl, hu⟩; obtain ⟨U1, E1⟩ := call2 w hu; clear hu)
    refine bodyPost_ret (v := .tuple #[.agg #[.int .i64 0, .slice none 0 0], .int .i64 2]) (by simp [results, Try.results16, go_sem, E1]) rfl (RsH.no rfl ?_)
    ((repeat (first | (with_reducible exact Up.refl _) | (with_reducible exact U1.out) | (with_reducible refine Up.alloc ?_ _ _) | (with_reducible refine Up.setCell ?_ ?_ _) | (with_reducible refine Up.drewN ?_ _) | (with_reducible refine Up.drew ?_))); all_goals (first | (simp; done) | (simp; omega) | omega))
  rw [if_pos hv] at KV ⊢
  obtain ⟨h1, h2, h3⟩ := stH_is hS.1 hv
  by_cases h : v < 0 ∨ 4096 < v
  case pos =>
    rw [if_pos h]
    rcases (show v < 0 ∨ (0 ≤ v ∧ 4096 < v) by omega) with g | ⟨g0, g⟩
    all_goals
      clear hv hS hI h h1 h2 h3
      go_enter Try.func16, Try.ntmps16
      go_wp2_with (go_at_call 20; (with_reducible refine (KV.out _ (((Up.refl w).alloc _ _).alloc _ _)).mono ?_); rintro e w1 ⟨rfl, hu⟩; obtain ⟨U1, E1⟩ := call2 w hu; clear hu)
      refine bodyPost_ret (v := .tuple #[.agg #[.int .i64 0, .slice none 0 0], .int .i64 4]) (by simp [results, Try.results16, go_sem, E1]) rfl (RsH.no rfl ?_)
      ((repeat (first | (with_reducible exact Up.refl _) | (with_reducible exact U1.out) | (with_reducible refine Up.alloc ?_ _ _) | (with_reducible refine Up.setCell ?_ ?_ _) | (with_reducible refine Up.drewN ?_ _) | (with_reducible refine Up.drew ?_))); all_goals (first | (simp; done) | (simp; omega) | omega))
  rw [if_neg h]
  have f1 : decide (v < 0) = false := decide_eq_false (by omega)
  have f2 : decide (4096 < v) = false := decide_eq_false (by omega)
  have KP := Lib.hid (fun B j r hr W (hu : Up w W) hB => plus16_up n k 1 j A B S [v] hn h1.1 h3 (fun x hx => by simp at hx; omega) r hr W (hS.up hu) hB)
  unfold PlN at KP
  rw [plH_an] at KP
  have hl : (anH v S).length = n := by rw [anH_len]; exact hS.1
  have hr0 : ∀ r : Bool, r = decide (S.getD 0 0 + v ≤ 1099511627776) → r = (List.range 1).all (fun e => decide (S.getD e 0 + [v].getD e 0 ≤ 1099511627776)) := fun r e => by rw [e]; simp [List.range_succ]
  generalize anH v S = Z at *
  have HR0 := Lib.hid hr0
  have HG : Hid (1099511627776 < S.getD 0 0 + v ↔ ¬ (decide (S.getD 0 0 + v ≤ 1099511627776) = true)) := Lib.hid (by rw [decide_eq_true_iff]; omega)
  generalize S.getD 0 0 + v = y at *
  by_cases hy : 1099511627776 < y
  · rw [if_pos hy]
    have KQ := Lib.hid (fun B j W hu hB => KP.out B j false (hr0 false (by symm; exact decide_eq_false (by omega))) W hu hB)
    have KH := Lib.hid (fun A2 n2 k2 => holding16_up now n2 k2 A2 false)
    clear KP HR0 HG hr0 hv hS hI h h1 h2 h3 hy
    go_enter Try.func16, Try.ntmps16
    go_wp2_with (first
      | (go_at_call 20; (with_reducible refine (KV.out _ (((Up.refl w).alloc _ _).alloc _ _)).mono ?_); rintro e w1 ⟨rfl, hu⟩; obtain ⟨U1, E1⟩ := call2 w hu; clear hu)
      | (go_at_call 36; (with_reducible refine (KQ.out _ _ _ (U1.out.alloc _ _) (one_newN w1 v)).mono ?_); rintro e w2 ⟨A2, n2, k2, rfl, hR2, hu⟩; have HN2 : Hid (w.heap.size + 1 < w1.heap.size) := Lib.hid (by omega); obtain ⟨U2, E2⟩ := call2 w hu; have HR2 := Lib.hid hR2; clear hu hR2)
      | (go_at_call 37; (with_reducible refine (KH.out _ _ _ _).mono ?_); rintro e w5 ⟨rfl, hu5⟩; obtain ⟨U5, E5⟩ := call2 w hu5; clear hu5))
    refine bodyPost_ret (v := .tuple #[.agg #[.int .i64 0, .slice none 0 0], .int .i64 6]) (by simp [results, Try.results16, go_sem, E1, E2, E5]) rfl (RsH.no rfl ?_)
    ((repeat (first | (with_reducible exact Up.refl _) | (with_reducible exact U5.out) | (with_reducible refine Up.alloc ?_ _ _) | (with_reducible refine Up.setCell ?_ ?_ _) | (with_reducible refine Up.drewN ?_ _) | (with_reducible refine Up.drew ?_))); all_goals (first | (simp; done) | (simp; omega) | omega))
  · rw [if_neg hy]
    have KQ := Lib.hid (fun B j W hu hB => KP.out B j true (hr0 true (by symm; exact decide_eq_true (by omega))) W hu hB)
    have KH := Lib.hid (fun A2 n2 k2 => holding16_up now n2 k2 A2 true)
    clear KP HR0 HG hr0 hv hS hI h h1 h2 h3 hy
    go_enter Try.func16, Try.ntmps16
    go_wp2_with (first
      | (go_at_call 20; (with_reducible refine (KV.out _ (((Up.refl w).alloc _ _).alloc _ _)).mono ?_); rintro e w1 ⟨rfl, hu⟩; obtain ⟨U1, E1⟩ := call2 w hu; clear hu)
      | (go_at_call 36; (with_reducible refine (KQ.out _ _ _ (U1.out.alloc _ _) (one_newN w1 v)).mono ?_); rintro e w2 ⟨A2, n2, k2, rfl, hR2, hu⟩; have HN2 : Hid (w.heap.size + 1 < w1.heap.size) := Lib.hid (by omega); obtain ⟨U2, E2⟩ := call2 w hu; have HR2 := Lib.hid hR2; clear hu hR2)
      | (go_at_call 37; (with_reducible refine (KH.out _ _ _ _).mono ?_); rintro e w5 ⟨rfl, hu5⟩; obtain ⟨U5, E5⟩ := call2 w hu5; have HR := Lib.hid ((HR2.out (by trivial)).2.2.up hu5); clear hu5))
    obtain ⟨rfl, hN2, _⟩ := HR2.out (by trivial)
    have HN : Hid (∀ b o, A2 = some ⟨b, o, none⟩ → w.heap.size + 1 < b) := Lib.hid (fun b o e => by have := hN2.2 b o e; have := HN2.out; simp at *; omega)
    have HK := Lib.hid hN2.1
    clear hN2
    refine bodyPost_ret (v := .tuple #[.agg #[.int .i64 now, .slice A2 n2 k2], .int .i64 0]) (by simp [results, Try.results16, go_sem, E1, E2, E5]) rfl (RsH.yes rfl ?_ ?_ ?_)
    · exact ⟨HK.out, fun b o e => by have := HN.out b o e; omega⟩
    · (repeat (first | (with_reducible exact HR.out) | (with_reducible refine Sn.far ?_ (fun b o e => by have := HN.out b o e; omega) _)))
    · ((repeat (first | (with_reducible exact Up.refl _) | (with_reducible exact U5.out) | (with_reducible refine Up.alloc ?_ _ _) | (with_reducible refine Up.setCell ?_ ?_ _) | (with_reducible refine Up.drewN ?_ _) | (with_reducible refine Up.drew ?_))); all_goals (first | (simp; done) | (simp; omega) | omega))
end Go.Proofs.Ytegaeaonoggmkaa
