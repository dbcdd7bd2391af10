/- Advance, Add and Merge of the reference of layer 16. -/
import Derived.Test.YtegaeaonoggmkaaRows
import Derived.Test.YtegaeaonoggmkaaZDOwnq83
import Derived.Test.YtegaeaonoggmkaaZGCallq88
import Derived.Test.YtegaeaonoggmkaaZHSameq66
import Derived.Test.YtegaeaonoggmkaaZOAddq98
import Derived.Test.YtegaeaonoggmkaaZOMemq78
import Derived.Test.YtegaeaonoggmkaaZOStq49
import Derived.Test.YtegaeaonoggmkaaZOValq94
namespace Go.Proofs.Ytegaeaonoggmkaa
open Go.RowKit
set_option linter.unusedVariables false

set_option maxHeartbeats 4000000 in
set_option maxRecDepth 100000 in
theorem rmerge16_up (now : Int) (n k : Nat) (A : Option Addr) (S : List Int) (now' : Int) (m j : Nat) (B : Option Addr) (T : List Int) (hn : n ≤ 100000) (hm : m ≤ 100000) (hI : ∀ x ∈ S, In x) (hJ : ∀ x ∈ T, In x) (hc : In now) (hc' : In now') (w : World) (hS : Sn w A n S) (hT : Sn w B m T) :
    Calls Try.prog 23 #[.agg #[.int .i64 now, .slice A n k], .agg #[.int .i64 now', .slice B m j]] w fun e w' => RsH (mgR now S now' T) w e w' := by
  have HS := Lib.hid hS
  have HT := Lib.hid hT
  have KV1 := Lib.hid (fun W (hu : Up w W) => rvalidate16_up now n k A S hn hI hc W (hS.up hu))
  have KV2 := Lib.hid (fun W (hu : Up w W) => rvalidate16_up now' m j B T hm hJ hc' W (hT.up hu))
  unfold stHE at KV1 KV2
  unfold mgR
  by_cases hv : stH now S = true
  case neg =>
    rw [if_neg hv] at KV1 ⊢
    clear hv hS hI hT hJ KV2
    go_enter Try.func23, Try.ntmps23
    go_wp2_with (go_at_call 21; (with_reducible refine (KV1.out _ ((((Up.refl w).alloc _ _).alloc _ _).alloc _ _)).mono ?_); rintro e w1 ⟨rfl, hu1⟩; obtain ⟨U1, E1⟩ := call3 w hu1; clear hu1)
    refine bodyPost_ret (v := .tuple #[.agg #[.int .i64 0, .slice none 0 0], .int .i64 2]) (by simp [results, Try.results23, go_sem, E1]) rfl (RsH.no rfl ?_)
    ((repeat (first | (with_reducible exact Up.refl _) | (with_reducible exact U1.out) | (with_reducible refine Up.alloc ?_ _ _) | (with_reducible refine Up.setCell ?_ ?_ _) | (with_reducible refine Up.drewN ?_ _) | (with_reducible refine Up.drew ?_))); all_goals (first | (simp; done) | (simp; omega) | omega))
  rw [if_pos hv] at KV1 ⊢
  by_cases hv2 : stH now' T = true
  case neg =>
    rw [if_neg hv2] at KV2 ⊢
    clear hv hv2 hS hI hT hJ
    go_enter Try.func23, Try.ntmps23
    go_wp2_with (first
      | (go_at_call 21; (with_reducible refine (KV1.out _ ((((Up.refl w).alloc _ _).alloc _ _).alloc _ _)).mono ?_); rintro e w1 ⟨rfl, hu1⟩; obtain ⟨U1, E1⟩ := call3 w hu1; clear hu1)
      | (go_at_call 21; (with_reducible refine (KV2.out _ U1.out).mono ?_); rintro e w2 ⟨rfl, hu2⟩; obtain ⟨U2, E2⟩ := call3 w hu2; clear hu2))
    refine bodyPost_ret (v := .tuple #[.agg #[.int .i64 0, .slice none 0 0], .int .i64 2]) (by simp [results, Try.results23, go_sem, E1, E2]) rfl (RsH.no rfl ?_)
    ((repeat (first | (with_reducible exact Up.refl _) | (with_reducible exact U2.out) | (with_reducible refine Up.alloc ?_ _ _) | (with_reducible refine Up.setCell ?_ ?_ _) | (with_reducible refine Up.drewN ?_ _) | (with_reducible refine Up.drew ?_))); all_goals (first | (simp; done) | (simp; omega) | omega))
  rw [if_pos hv2] at KV2 ⊢
  by_cases he : now = now' ∧ S.length = T.length
  case neg =>
    rw [if_neg he]
    rw [hS.1, hT.1] at he
    by_cases hp : now = now'
    case neg =>
      have t1 : (now != now') = true := by simp [hp]
      clear hv hv2 hS hI hT hJ he hp
      go_enter Try.func23, Try.ntmps23
      go_wp2_with (first
        | (go_at_call 21; (with_reducible refine (KV1.out _ ((((Up.refl w).alloc _ _).alloc _ _).alloc _ _)).mono ?_); rintro e w1 ⟨rfl, hu1⟩; obtain ⟨U1, E1⟩ := call3 w hu1; clear hu1)
        | (go_at_call 21; (with_reducible refine (KV2.out _ U1.out).mono ?_); rintro e w2 ⟨rfl, hu2⟩; obtain ⟨U2, E2⟩ := call3 w hu2; clear hu2))
      refine bodyPost_ret (v := .tuple #[.agg #[.int .i64 0, .slice none 0 0], .int .i64 1]) (by simp [results, Try.results23, go_sem, E1, E2]) rfl (RsH.no rfl ?_)
      ((repeat (first | (with_reducible exact Up.refl _) | (with_reducible exact U2.out) | (with_reducible refine Up.alloc ?_ _ _) | (with_reducible refine Up.setCell ?_ ?_ _) | (with_reducible refine Up.drewN ?_ _) | (with_reducible refine Up.drew ?_))); all_goals (first | (simp; done) | (simp; omega) | omega))
    have t1 : (now != now') = false := by simp [hp]
    have hnm : ¬ n = m := fun h => he ⟨hp, h⟩
    have t2 : ((n : Int) != (m : Int)) = true := by simp; omega
    clear hv hv2 hS hI hT hJ he hp
    go_enter Try.func23, Try.ntmps23
    go_wp2_with (first
      | (go_at_call 21; (with_reducible refine (KV1.out _ ((((Up.refl w).alloc _ _).alloc _ _).alloc _ _)).mono ?_); rintro e w1 ⟨rfl, hu1⟩; obtain ⟨U1, E1⟩ := call3 w hu1; clear hu1)
      | (go_at_call 21; (with_reducible refine (KV2.out _ U1.out).mono ?_); rintro e w2 ⟨rfl, hu2⟩; obtain ⟨U2, E2⟩ := call3 w hu2; clear hu2))
    refine bodyPost_ret (v := .tuple #[.agg #[.int .i64 0, .slice none 0 0], .int .i64 1]) (by simp [results, Try.results23, go_sem, E1, E2]) rfl (RsH.no rfl ?_)
    ((repeat (first | (with_reducible exact Up.refl _) | (with_reducible exact U2.out) | (with_reducible refine Up.alloc ?_ _ _) | (with_reducible refine Up.setCell ?_ ?_ _) | (with_reducible refine Up.drewN ?_ _) | (with_reducible refine Up.drew ?_))); all_goals (first | (simp; done) | (simp; omega) | omega))
  rw [if_pos he]
  rw [hS.1, hT.1] at he
  obtain ⟨rfl, rfl⟩ := he
  obtain ⟨h1, h2, h3⟩ := stH_is hS.1 hv
  obtain ⟨_, _, h4⟩ := stH_is hT.1 hv2
  have t1 : (now != now) = false := by simp
  have t2 : ((n : Int) != (n : Int)) = false := by simp
  have HB : Hid (∀ e, e < n → 1099511627776 < S.getD e 0 + T.getD e 0 → (if mgHB S T = true then (now, mgH S T, 0) else noH 6 : QH) = noH 6) := Lib.hid (fun e he h => by
    rw [if_neg]
    intro q
    have := mgHB_iff.1 q e (by rw [hS.1]; exact he)
    omega)
  have HG : Hid ((∀ e, e < n → S.getD e 0 + T.getD e 0 ≤ 1099511627776) → (if mgHB S T = true then (now, mgH S T, 0) else noH 6 : QH) = (now, mgH S T, 0)) := Lib.hid (fun h => by
    rw [if_pos (mgHB_iff.2 (fun e he => h e (by rw [hS.1] at he; exact he)))])
  have HL := Lib.hid hS.1
  have HM := Lib.hid hT.1
  have H3 := Lib.hid h3
  have H4 := Lib.hid h4
  have hn6 : n ≤ 64 := by omega
  generalize (if mgHB S T = true then (now, mgH S T, 0) else noH 6 : QH) = QQ at *
  clear hv hv2 hS hI hT hJ h1 h2 h3 h4
  go_enter Try.func23, Try.ntmps23
  go_wp2_with (first
    | (go_at_call 21; (with_reducible refine (KV1.out _ ((((Up.refl w).alloc _ _).alloc _ _).alloc _ _)).mono ?_); rintro e w1 ⟨rfl, hu1⟩; obtain ⟨U1, E1⟩ := call3 w hu1; clear hu1)
    | (go_at_call 21; (with_reducible refine (KV2.out _ U1.out).mono ?_); rintro e w2 ⟨rfl, hu2⟩; obtain ⟨U2, E2⟩ := call3 w hu2; clear hu2))
  go_loopw [8, 40] (fun s u wr => ∃ (i : Nat) (A1 : Option Addr) (k1 : Nat), s = .slice A1 i k1 ∧ u = .int .i64 i ∧ i ≤ n ∧ Hid (∀ e, e < i → S.getD e 0 + T.getD e 0 ≤ 1099511627776) ∧ Hid (OwnN w2 wr (.slice A1 i k1) i (byL i (fun e => S.getD e 0 + T.getD e 0))) ∧ Hid (Up w2 wr)) (fun _ u _ => n - (intOf u).toNat)
  case atStart => exact ⟨0, none, 0, rfl, rfl, Nat.zero_le _, Lib.hid (fun e he => absurd he (Nat.not_lt_zero _)), Lib.hid (OwnN.nil _ _), Lib.hid (Up.refl _)⟩
  case round =>
    obtain ⟨i, A1, k1, rfl, rfl, hin, HP, HO, HW⟩ := hrel
    obtain ⟨Ur, Er⟩ := call3 w HW.out
    by_cases hi : i < n
    case neg =>
      obtain rfl : i = n := by omega
      have f1 : decide ((i : Int) < i) = false := decide_eq_false (by omega)
      obtain rfl := HG.out HP.out
      obtain ⟨A2, k2, e2, hk2, hS2⟩ := HO.out.sn
      injection e2 with e2 _ e3
      subst e2 e3
      have HR : Hid (Sn wr A1 i (mgH S T)) := Lib.hid (by
        have e : byL i (fun e => S.getD e 0 + T.getD e 0) = mgH S T := by unfold mgH; rw [HL.out]
        exact e ▸ hS2)
      have HN : Hid (∀ b o, A1 = some ⟨b, o, none⟩ → w.heap.size + 2 < b) := Lib.hid (fun b o e => by have := HO.out.nw b o e; omega)
      have HK := Lib.hid hk2
      clear HP HO HB HG KV1 KV2 hS2 hk2
      go_wp2_with fail
      refine bodyPost_ret (v := .tuple #[.agg #[.int .i64 now, .slice A1 i k1], .int .i64 0]) (by simp [results, Try.results23, go_sem, E1, E2, Er]) rfl (RsH.yes rfl ?_ ?_ ?_)
      · exact ⟨HK.out, fun b o e => by have := HN.out b o e; omega⟩
      · (repeat (first | (with_reducible exact HR.out) | (with_reducible refine Sn.far ?_ (fun b o e => by have := HN.out b o e; omega) _)))
      · ((repeat (first | (with_reducible exact Up.refl _) | (with_reducible exact Ur.out) | (with_reducible refine Up.alloc ?_ _ _) | (with_reducible refine Up.setCell ?_ ?_ _) | (with_reducible refine Up.drewN ?_ _) | (with_reducible refine Up.drew ?_))); all_goals (first | (simp; done) | (simp; omega) | omega))
    obtain ⟨b, o, rfl, x0⟩ := (HS.out.up Ur.out).one hi
    obtain ⟨c, p, rfl, y0⟩ := (HT.out.up Ur.out).one hi
    have hb : b < wr.heap.size := World.block_lt_of_cell? _ _ x0
    have hcb : c < wr.heap.size := World.block_lt_of_cell? _ _ y0
    have hs : 0 ≤ S.getD i 0 ∧ S.getD i 0 ≤ 1099511627776 := H3.out _ (by have := HL.out; simp [List.getD, show i < S.length by omega])
    have ht : 0 ≤ T.getD i 0 ∧ T.getD i 0 ≤ 1099511627776 := H4.out _ (by have := HM.out; simp [List.getD, show i < T.length by omega])
    have HX : Hid (1099511627776 < S.getD i 0 + T.getD i 0 → QQ = noH 6) := Lib.hid (HB.out i hi)
    have HA : Hid (S.getD i 0 + T.getD i 0 ≤ 1099511627776 → ∀ e, e < i + 1 → S.getD e 0 + T.getD e 0 ≤ 1099511627776) := Lib.hid (fun h e he => by
      rcases Nat.lt_or_ge e i with y | y
      · exact HP.out e y
      · obtain rfl : e = i := by omega
        exact h)
    obtain ⟨z, hz⟩ : ∃ z, z = S.getD i 0 + T.getD i 0 := ⟨_, rfl⟩
    obtain ⟨sx, hsx⟩ : ∃ z, z = S.getD i 0 := ⟨_, rfl⟩
    obtain ⟨tx, htx⟩ : ∃ z, z = T.getD i 0 := ⟨_, rfl⟩
    have kw : IntKind.i64.wrap (sx + tx) = z := by rw [hsx, htx, hz]; exact IntWalk.i64_in _ (by omega)
    rw [← hz] at HX HA
    rw [← hsx] at x0
    rw [← htx] at y0
    have HZ := Lib.hid hz
    have g2 : (i : Int) < n := by omega
    have g3 : (0 : Int) ≤ i := by omega
    clear HB HG HP hs ht hz hsx htx
    by_cases hov : 1099511627776 < z
    · have f2 : decide (1099511627776 < z) = true := decide_eq_true hov
      obtain rfl := HX.out hov
      clear hov
      go_wp2_with fail
      go_quiet (fail)
      go_wp2_with fail
      refine bodyPost_ret (v := .tuple #[.agg #[.int .i64 0, .slice none 0 0], .int .i64 6]) (by simp [results, Try.results23, go_sem, E1, E2, Er]) rfl (RsH.no rfl ?_)
      ((repeat (first | (with_reducible exact Up.refl _) | (with_reducible exact Ur.out) | (with_reducible refine Up.alloc ?_ _ _) | (with_reducible refine Up.setCell ?_ ?_ _) | (with_reducible refine Up.drewN ?_ _) | (with_reducible refine Up.drew ?_))); all_goals (first | (simp; done) | (simp; omega) | omega))
    · have f2 : decide (1099511627776 < z) = false := decide_eq_false hov
      have HA2 := Lib.hid (HA.out (by omega))
      clear hov HA
      go_wp2_with fail
      go_quiet (fail)
      go_upto_region 15 with fail
      refine (show ∀ ws : World, ws = _ → Code.wp _ _ _ _ ws from fun ws hws => ?_) _ rfl
      obtain ⟨Us, Es⟩ := hold5 wr w.heap.size (w.heap.size + 1) (w.heap.size + 2) b c (((Up.refl wr).drewN _).trans (Up.of_eq hws))
      clear hws
      obtain ⟨A2, k2, w3, hr, hO2, hU2⟩ := append1_run 22 w2 ws.drew A1 i k1 _ z (HO.out.of_up (Us.out.drew)) ((HW.out.trans Us.out).drew) (by omega)
      have HO2 := Lib.hid hO2
      have HU3 := Lib.hid hU2
      clear hO2 hU2
      go_region_law (refine step_append_run rfl (.tmp 56) (.tmp 68) _ rfl _ _ rfl rfl _ _ hr ?_)
      all_goals go_wp2_with fail
      all_goals go_roundw
      all_goals first
        | exact ⟨i + 1, A2, k2, rfl, by go_num, by omega, HA2, Lib.hid (by rw [byL_push, ← HZ.out]; exact HO2.out), HU3⟩
        | (simp [intOf]; omega)
end Go.Proofs.Ytegaeaonoggmkaa
