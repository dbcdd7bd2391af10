/- Advance, Add and Merge of the reference of layer 16. -/
import Derived.Test.YtegaeaonoggmkaaRows
import Derived.Test.YtegaeaonoggmkaaZGCallq89
import Derived.Test.YtegaeaonoggmkaaZOAddq97
import Derived.Test.YtegaeaonoggmkaaZOMemq79
import Derived.Test.YtegaeaonoggmkaaZOValq94
namespace Go.Proofs.Ytegaeaonoggmkaa
open Go.RowKit
set_option linter.unusedVariables false

set_option maxHeartbeats 4000000 in
set_option maxRecDepth 100000 in
theorem radvance16_up (now : Int) (n k : Nat) (A : Option Addr) (S : List Int) (t : Int) (hn : n ≤ 100000) (hI : ∀ x ∈ S, In x) (hc : In now) (w : World) (hS : Sn w A n S) :
    Calls Try.prog 15 #[.agg #[.int .i64 now, .slice A n k], .int .i64 t] w fun e w' => RsH (avR now S t) w e w' := by
  have HS := Lib.hid hS
  have KV := Lib.hid (fun W (hu : Up w W) => rvalidate16_up now n k A S hn hI hc W (hS.up hu))
  unfold stHE at KV
  have KB := Lib.hid (rback_any now t)
  unfold backE at KB
  unfold avR
  by_cases hv : stH now S = true
  case neg =>
    rw [if_neg hv] at KV ⊢
    clear hv hS hI
    go_enter Try.func15, Try.ntmps15
    go_wp2_with (go_at_call 21; (with_reducible refine (KV.out _ (((Up.refl w).alloc _ _).alloc _ _)).mono ?_); rintro e w1 ⟨rfl, hu⟩; obtain ⟨U1, E1⟩ := call2 w hu; clear hu)
    refine bodyPost_ret (v := .tuple #[.agg #[.int .i64 0, .slice none 0 0], .int .i64 2]) (by simp [results, Try.results15, go_sem, E1]) rfl (RsH.no rfl ?_)
    ((repeat (first | (with_reducible exact Up.refl _) | (with_reducible exact U1.out) | (with_reducible refine Up.alloc ?_ _ _) | (with_reducible refine Up.setCell ?_ ?_ _) | (with_reducible refine Up.drewN ?_ _) | (with_reducible refine Up.drew ?_))); all_goals (first | (simp; done) | (simp; omega) | omega))
  rw [if_pos hv] at KV ⊢
  obtain ⟨h1, h2, h3⟩ := stH_is hS.1 hv
  by_cases h : t < now ∨ 16777216 < t
  case pos =>
    rw [if_pos h] at KB ⊢
    clear hv hS hI h h1 h2 h3
    go_enter Try.func15, Try.ntmps15
    go_wp2_with (first
      | (go_at_call 21; (with_reducible refine (KV.out _ (((Up.refl w).alloc _ _).alloc _ _)).mono ?_); rintro e w1 ⟨rfl, hu⟩; obtain ⟨U1, E1⟩ := call2 w hu; clear hu)
      | (go_at_call 35; (with_reducible refine (KB.out _).mono ?_); rintro e w' ⟨rfl, rfl⟩))
    refine bodyPost_ret (v := .tuple #[.agg #[.int .i64 0, .slice none 0 0], .int .i64 3]) (by simp [results, Try.results15, go_sem, E1]) rfl (RsH.no rfl ?_)
    ((repeat (first | (with_reducible exact Up.refl _) | (with_reducible exact U1.out) | (with_reducible refine Up.alloc ?_ _ _) | (with_reducible refine Up.setCell ?_ ?_ _) | (with_reducible refine Up.drewN ?_ _) | (with_reducible refine Up.drew ?_))); all_goals (first | (simp; done) | (simp; omega) | omega))
  rw [if_neg h] at KB ⊢
  have HL := Lib.hid hS.1
  have mk := fun W => makeN_run_ n (by omega) W
  obtain ⟨d, hd⟩ : ∃ z, z = (t - now).toNat := ⟨_, rfl⟩
  rw [← hd]
  have HD : Hid (t - now = d) := Lib.hid (by omega)
  have hnt : 0 ≤ now ∧ t ≤ 16777216 ∧ now ≤ t := by omega
  have hn6 : n ≤ 64 := by omega
  clear hv hS hI h h1 h2 h3 hd
  go_enter Try.func15, Try.ntmps15
  go_wp2_with (first
    | (go_at_call 21; (with_reducible refine (KV.out _ (((Up.refl w).alloc _ _).alloc _ _)).mono ?_); rintro e w1 ⟨rfl, hu⟩; obtain ⟨U1, E1⟩ := call2 w hu; clear hu)
    | (go_at_call 35; (with_reducible refine (KB.out _).mono ?_); rintro e w' ⟨rfl, rfl⟩))
  go_loopw [33] (fun u wr => ∃ (i : Nat) (M : List Int), u = .int .i64 i ∧ i ≤ n ∧ Hid (∀ e, e < n → M.getD e 0 = if d ≤ e ∧ e - d < i then S.getD (e - d) 0 else 0) ∧ Hid (Sn wr (some ⟨w1.heap.size, 0, none⟩) n M) ∧ w1.heap.size < wr.heap.size ∧ Hid (Up w1 wr)) (fun u _ => n - (intOf u).toNat)
  case atStart =>
    refine ⟨0, List.replicate n 0, rfl, Nat.zero_le _, Lib.hid (fun e he => ?_), Lib.hid (madeN_row w1 n), by simp, Lib.hid ((Up.refl w1).alloc _ _)⟩
    rw [if_neg (by omega)]
    simp [List.getD, he]
  case round =>
    obtain ⟨i, M, rfl, hin, HE, HO, hwr, HW⟩ := hrel
    obtain ⟨Ur, Er⟩ := call2 w HW.out
    by_cases hi : i < n
    case neg =>
      obtain rfl : i = n := by omega
      have f1 : decide ((i : Int) < i) = false := decide_eq_false (by omega)
      have HZ : Hid (Sn wr (some ⟨w1.heap.size, 0, none⟩) i (avH d S)) := Lib.hid (by
        have e : M = avH d S := by
          unfold avH
          rw [HL.out]
          refine filled HO.out.1 (fun e he => ?_)
          rw [HE.out e he]
          by_cases q : d ≤ e
          · rw [if_pos ⟨q, by omega⟩, if_pos q]
          · rw [if_neg (fun z => q z.1), if_neg q]
        exact e ▸ HO.out)
      have HN : Hid (∀ b o, (some ⟨w1.heap.size, 0, none⟩ : Option Addr) = some ⟨b, o, none⟩ → w.heap.size + 1 < b) := Lib.hid (fun b o e => by injection e with e; injection e with e; omega)
      have HK : Hid (i ≤ i) := Lib.hid (Nat.le_refl _)
      clear HE KV KB mk HD hnt
      go_wp2_with fail
      refine bodyPost_ret (v := .tuple #[.agg #[.int .i64 t, .slice (some ⟨w1.heap.size, 0, none⟩) i i], .int .i64 0]) (by simp [results, Try.results15, go_sem, E1, Er]) rfl (RsH.yes rfl ?_ ?_ ?_)
      · exact ⟨HK.out, fun b o e => by have := HN.out b o e; omega⟩
      · (repeat (first | (with_reducible exact HZ.out) | (with_reducible refine Sn.far ?_ (fun b o e => by have := HN.out b o e; omega) _)))
      · ((repeat (first | (with_reducible exact Up.refl _) | (with_reducible exact Ur.out) | (with_reducible refine Up.alloc ?_ _ _) | (with_reducible refine Up.setCell ?_ ?_ _) | (with_reducible refine Up.drewN ?_ _) | (with_reducible refine Up.drew ?_))); all_goals (first | (simp; done) | (simp; omega) | omega))
    have i1 : IntKind.i64.wrap ((i : Int) + t) = (i : Int) + t := IntWalk.i64_in _ (by omega)
    obtain ⟨q, hq⟩ : ∃ z, z = i + d := ⟨_, rfl⟩
    have i2 : IntKind.i64.wrap ((i : Int) + t - now) = (q : Int) := by have hd1 := HD.out; rw [show (i : Int) + t - now = q by omega]; exact IntWalk.i64_in _ (by omega)
    obtain ⟨b, o, rfl, x0⟩ := ((HS.out.up Ur.out)).one hi
    have hb : b < wr.heap.size := World.block_lt_of_cell? _ _ x0
    have g2 : (i : Int) < n := by omega
    have g3 : (0 : Int) ≤ i := by omega
    have g5 : (0 : Int) ≤ q := by omega
    by_cases hqn : q < n
    case neg =>
      have f2 : decide ((q : Int) < n) = false := decide_eq_false (by omega)
      have f3 : decide (q < n) = false := decide_eq_false hqn
      have HE2 : Hid (∀ e, e < n → M.getD e 0 = if d ≤ e ∧ e - d < i + 1 then S.getD (e - d) 0 else 0) := Lib.hid (fun e he => by
        rw [HE.out e he]
        by_cases z : d ≤ e ∧ e - d < i
        · rw [if_pos z, if_pos ⟨z.1, by omega⟩]
        · rw [if_neg z, if_neg (by omega)])
      clear HE HD hnt hq
      generalize S.getD i 0 = a at *
      go_wp2_with fail
      go_roundw
      case rel => exact ⟨i + 1, M, by go_num, by omega, HE2, HO, hwr, HW⟩
      case measure => simp [intOf]; omega
    obtain ⟨b2, o2, e2, r0⟩ := HO.out.one hqn
    injection e2 with e2
    injection e2 with e2 e3
    subst e2 e3
    simp only [Nat.zero_add] at r0
    have hz := fun p => Ur.out.ownGe (show w.heap.size ≤ w1.heap.size by have := U1.out.size; omega) p
    have f2 : decide ((q : Int) < n) = true := decide_eq_true (by omega)
    have f3 : decide (q < n) = true := decide_eq_true hqn
    have g4 : (q : Int) < n := by omega
    have HE2 : Hid (∀ e, e < n → (M.set q (S.getD i 0)).getD e 0 = if d ≤ e ∧ e - d < i + 1 then S.getD (e - d) 0 else 0) := Lib.hid (fun e he => by
      rw [getD_put M q e _ (by rw [HO.out.1]; exact hqn)]
      by_cases y : q = e
      · subst y
        rw [if_pos rfl, if_pos ⟨by omega, by omega⟩, show q - d = i by omega]
      · rw [if_neg y, HE.out e he]
        by_cases z : d ≤ e ∧ e - d < i
        · rw [if_pos z, if_pos ⟨z.1, by omega⟩]
        · rw [if_neg z, if_neg (by omega)])
    have HO2 := Lib.hid (HO.out.put (x := S.getD i 0) hqn)
    have HW2 : Hid (Up w1 (wr.setCell ⟨w1.heap.size, q, none⟩ (.int .i64 (S.getD i 0)))) := Lib.hid (HW.out.setCell (Nat.le_refl _) _)
    clear HE HD hnt hq
    obtain ⟨a, ha⟩ : ∃ z, z = S.getD i 0 := ⟨_, rfl⟩
    rw [← ha] at x0 HE2 HO2 HW2
    clear ha
    go_wp2_with fail
    go_roundw
    case rel => exact ⟨i + 1, M.set q a, by go_num, by omega, HE2, Lib.hid (by simpa using HO2.out), by simpa using hwr, HW2⟩
    case measure => simp [intOf]; omega
set_option maxHeartbeats 4000000 in
set_option maxRecDepth 100000 in
theorem radd16_up (now : Int) (n k : Nat) (A : Option Addr) (S : List Int) (v : Int) (hn : n ≤ 100000) (hI : ∀ x ∈ S, In x) (hc : In now) (w : World) (hS : Sn w A n S) :
    Calls Try.prog 17 #[.agg #[.int .i64 now, .slice A n k], .int .i64 v] w fun e w' => RsH (anR now S v) w e w' := by
  have HS := Lib.hid hS
  have KV := Lib.hid (fun W (hu : Up w W) => rvalidate16_up now n k A S hn hI hc W (hS.up hu))
  unfold stHE at KV
  have KL := Lib.hid (rvalue_any v)
  unfold anR
  by_cases hv : stH now S = true
  case neg =>
    rw [if_neg hv] at KV ⊢
    clear hv hS hI
    go_enter Try.func17, Try.ntmps17
    go_wp2_with (go_at_call 21; (with_reducible refine (KV.out _ (((Up.refl w).alloc _ _).alloc _ _)).mono ?_); rintro e w1 ⟨rfl, hu⟩; obtain ⟨U1, E1⟩ := call2 w hu; clear hu)
    refine bodyPost_ret (v := .tuple #[.agg #[.int .i64 0, .slice none 0 0], .int .i64 2]) (by simp [results, Try.results17, go_sem, E1]) rfl (RsH.no rfl ?_)
    ((repeat (first | (with_reducible exact Up.refl _) | (with_reducible exact U1.out) | (with_reducible refine Up.alloc ?_ _ _) | (with_reducible refine Up.setCell ?_ ?_ _) | (with_reducible refine Up.drewN ?_ _) | (with_reducible refine Up.drew ?_))); all_goals (first | (simp; done) | (simp; omega) | omega))
  rw [if_pos hv] at KV ⊢
  obtain ⟨h1, h2, h3⟩ := stH_is hS.1 hv
  by_cases h : v < 0 ∨ 4096 < v
  case pos =>
    rw [if_pos h]
    by_cases g : v < 0
    case pos =>
      have f1 : decide (v < 0) = true := decide_eq_true g
      clear hv hS hI h h1 h2 h3
      go_enter Try.func17, Try.ntmps17
      go_wp2_with (go_at_call 21; (with_reducible refine (KV.out _ (((Up.refl w).alloc _ _).alloc _ _)).mono ?_); rintro e w1 ⟨rfl, hu⟩; obtain ⟨U1, E1⟩ := call2 w hu; clear hu)
      refine bodyPost_ret (v := .tuple #[.agg #[.int .i64 0, .slice none 0 0], .int .i64 4]) (by simp [results, Try.results17, go_sem, E1]) rfl (RsH.no rfl ?_)
      ((repeat (first | (with_reducible exact Up.refl _) | (with_reducible exact U1.out) | (with_reducible refine Up.alloc ?_ _ _) | (with_reducible refine Up.setCell ?_ ?_ _) | (with_reducible refine Up.drewN ?_ _) | (with_reducible refine Up.drew ?_))); all_goals (first | (simp; done) | (simp; omega) | omega))
    have f1 : decide (v < 0) = false := decide_eq_false g
    rw [show valueB v = false from decide_eq_false (by omega)] at KL
    clear hv hS hI h h1 h2 h3
    go_enter Try.func17, Try.ntmps17
    go_wp2_with (first
      | (go_at_call 21; (with_reducible refine (KV.out _ (((Up.refl w).alloc _ _).alloc _ _)).mono ?_); rintro e w1 ⟨rfl, hu⟩; obtain ⟨U1, E1⟩ := call2 w hu; clear hu)
      | (go_at_call 38; (with_reducible refine (KL.out _).mono ?_); rintro e w' ⟨rfl, rfl⟩))
    refine bodyPost_ret (v := .tuple #[.agg #[.int .i64 0, .slice none 0 0], .int .i64 4]) (by simp [results, Try.results17, go_sem, E1]) rfl (RsH.no rfl ?_)
    ((repeat (first | (with_reducible exact Up.refl _) | (with_reducible exact U1.out) | (with_reducible refine Up.alloc ?_ _ _) | (with_reducible refine Up.setCell ?_ ?_ _) | (with_reducible refine Up.drewN ?_ _) | (with_reducible refine Up.drew ?_))); all_goals (first | (simp; done) | (simp; omega) | omega))
  rw [if_neg h]
  have f1 : decide (v < 0) = false := decide_eq_false (by omega)
  rw [show valueB v = true from decide_eq_true (by omega)] at KL
  obtain ⟨b, o, rfl, s0⟩ := hS.one (show 0 < n by omega)
  rw [Nat.add_zero] at s0
  have hs0 : 0 ≤ S.getD 0 0 ∧ S.getD 0 0 ≤ 1099511627776 := h3 _ (by have := hS.1; simp [List.getD, show 0 < S.length by omega])
  have HL := Lib.hid hS.1
  have hbw : b < w.heap.size := World.block_lt_of_cell? _ _ s0
  obtain ⟨a, ha⟩ : ∃ z, z = S.getD 0 0 := ⟨_, rfl⟩
  rw [← ha] at s0 hs0 ⊢
  have Ha := Lib.hid ha
  obtain ⟨y, hy⟩ : ∃ z, z = a + v := ⟨_, rfl⟩
  rw [← hy]
  have kw : IntKind.i64.wrap (a + v) = y := by rw [hy]; exact IntWalk.i64_in _ (by omega)
  have Hy := Lib.hid hy
  have hn1 : 0 < n := by omega
  have hn6 : n ≤ 64 := by omega
  have n0 : (0 : Int) < n := by omega
  clear hv hS hI h h1 h2 h3 ha hy hs0
  by_cases hov : 1099511627776 < y
  case pos =>
    rw [if_pos hov]
    have f2 : decide (1099511627776 < y) = true := decide_eq_true hov
    clear hov
    go_enter Try.func17, Try.ntmps17
    go_upto_region 6 with (first
      | (go_at_call 21; (with_reducible refine (KV.out _ (((Up.refl w).alloc _ _).alloc _ _)).mono ?_); rintro e w1 ⟨rfl, hu⟩; obtain ⟨U1, E1⟩ := call2 w hu; clear hu)
      | (go_at_call 38; (with_reducible refine (KL.out _).mono ?_); rintro e w' ⟨rfl, rfl⟩))
    have x0 := U1.out.keep _ _ _ s0
    go_wp2_with fail
    refine bodyPost_ret (v := .tuple #[.agg #[.int .i64 0, .slice none 0 0], .int .i64 6]) (by simp [results, Try.results17, go_sem, E1]) rfl (RsH.no rfl ?_)
    ((repeat (first | (with_reducible exact Up.refl _) | (with_reducible exact U1.out) | (with_reducible refine Up.alloc ?_ _ _) | (with_reducible refine Up.setCell ?_ ?_ _) | (with_reducible refine Up.drewN ?_ _) | (with_reducible refine Up.drew ?_))); all_goals (first | (simp; done) | (simp; omega) | omega))
  rw [if_neg hov]
  have f2 : decide (1099511627776 < y) = false := decide_eq_false hov
  clear hov
  go_enter Try.func17, Try.ntmps17
  go_upto_region 6 with (first
    | (go_at_call 21; (with_reducible refine (KV.out _ (((Up.refl w).alloc _ _).alloc _ _)).mono ?_); rintro e w1 ⟨rfl, hu⟩; obtain ⟨U1, E1⟩ := call2 w hu; clear hu)
    | (go_at_call 38; (with_reducible refine (KL.out _).mono ?_); rintro e w' ⟨rfl, rfl⟩))
  have x0 := U1.out.keep _ _ _ s0
  go_upto_region 8 with fail
  have hO : OwnN w1 (w1.alloc (.cells #[] 2)) (.slice (some ⟨w1.heap.size, 0, none⟩) 0 0) 0 [] := ownN_empty rfl (Nat.le_refl _)
  obtain ⟨v', w2, hr, h1, h2⟩ := appendN_run 22 w1 (w1.alloc (.cells #[] 2)) _ 0 [] hO ((Up.refl w1).alloc _ _) (some ⟨b, o, none⟩) n k S (HS.out.up (U1.out.alloc _ _)) hn1 (by omega)
  simp only [Nat.zero_add, List.nil_append] at hr h1
  obtain ⟨A2, k2, rfl, hk2, hS2⟩ := h1.sn
  have hNw := h1.nw
  obtain ⟨b2, o2, rfl, r0⟩ := hS2.one hn1
  have hge : w1.heap.size ≤ b2 := hNw b2 o2 rfl
  rw [Nat.add_zero] at r0
  rw [← Ha.out] at r0
  obtain ⟨U2, E2⟩ := call2 w h2
  have hz := fun p => U2.out.ownGe (show w.heap.size ≤ b2 by have := U1.out.size; omega) p
  have HN : Hid (∀ b o, (some ⟨b2, o2, none⟩ : Option Addr) = some ⟨b, o, none⟩ → w.heap.size + 1 < b) := Lib.hid (fun b o e => by injection e with e; injection e with e; omega)
  have HK := Lib.hid hk2
  have hl : (anH v S).length = n := by rw [anH_len]; exact HL.out
  have hne1 : w.heap.size + 1 ≠ b2 := by omega
  have hne0 : w.heap.size ≠ b2 := by omega
  have HR : Hid (Sn (w2.setCell ⟨b2, o2, none⟩ (.int .i64 y)) (some ⟨b2, o2, none⟩) n (anH v S)) := Lib.hid (by
    have e : S.set 0 y = anH v S := by
      unfold anH
      rw [HL.out]
      refine filled (by rw [List.length_set]; exact HL.out) (fun e he => ?_)
      rw [getD_put S 0 e y (by rw [HL.out]; exact hn1)]
      by_cases z : e = 0
      · subst z; rw [if_pos rfl, if_pos rfl, Hy.out, Ha.out]
      · rw [if_neg (fun q => z q.symm), if_neg z]
    have := hS2.put (x := y) hn1
    rw [Nat.add_zero, e] at this
    exact this)
  have HU3 : Hid (Up w (w2.setCell ⟨b2, o2, none⟩ (.int .i64 y))) := Lib.hid (U2.out.setCell (by have := U1.out.size; show w.heap.size ≤ b2; omega) _)
  clear h1 h2 hO hS2 hNw s0 x0 Ha Hy HL KV KL HS hk2
  go_wp2_with (refine wpList_append_run (o := ⟨some 33, _, _, _, _, _⟩) rfl (.tmp 30) (.tmp 32) _ rfl _ _ rfl rfl _ _ hr ?_)
  refine bodyPost_ret (v := .tuple #[.agg #[.int .i64 now, .slice (some ⟨b2, o2, none⟩) n k2], .int .i64 0]) (by simp [results, Try.results17, go_sem, E1, E2]) rfl (RsH.yes rfl ?_ ?_ ?_)
  · exact ⟨HK.out, fun b o e => by have := HN.out b o e; omega⟩
  · (repeat (first | (with_reducible exact HR.out) | (with_reducible refine Sn.far ?_ (fun b o e => by have := HN.out b o e; omega) _)))
  · ((repeat (first | (with_reducible exact Up.refl _) | (with_reducible exact HU3.out) | (with_reducible refine Up.alloc ?_ _ _) | (with_reducible refine Up.setCell ?_ ?_ _) | (with_reducible refine Up.drewN ?_ _) | (with_reducible refine Up.drew ?_))); all_goals (first | (simp; done) | (simp; omega) | omega))
end Go.Proofs.Ytegaeaonoggmkaa
