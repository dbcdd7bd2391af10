/- Texts of these claims, one after the other. -/
import Derived.Test.YtafkoddgefcpnaaRows
import Derived.Test.YtafkoddgefcpnaaZKMaq257
import Derived.Test.YtafkoddgefcpnaaZKNewq195
import Derived.Test.YtafkoddgefcpnaaZWGcdq215
namespace Go.Proofs.Ytafkoddgefcpnaa
open Go.RowKit
set_option linter.unusedVariables false

set_option maxHeartbeats 4000000 in
set_option maxRecDepth 100000 in
theorem add13_good (g v q c now seq d : Int) (n k : Nat) (A : Option Addr) (X : List Mrk) (hn : n ≤ 50000) (hk : n ≤ k) (hv : stM g v q c now seq X = true) (hd : valG g d) (hf : fuM c seq X = false) (w : World) (hS : SG cM w A n X) :
    Calls Try.prog 26 #[.agg #[.int .i64 g, .int .i64 v, .int .i64 q, .int .i64 c, .int .i64 now, .int .i64 seq, .slice A n k], .int .i64 d] w fun e w' => ∃ A' n' k', e = .returned (.tuple #[.agg #[.int .i64 g, .int .i64 v, .int .i64 q, .int .i64 c, .int .i64 now, .int .i64 (seq + 1), .slice A' n' k'], .int .i64 0]) ∧ n' ≤ n + 1 ∧ n' ≤ k' ∧ Nw w A' ∧ Up w w' ∧ SG cM w' A' n' (adM g q seq now d X) := by
  have HL := Lib.hid hS.1
  have KV := Lib.hid (fun W (h : SG cM W A n X) => validate13_up g v q c now seq n k A X hn W h)
  rw [stME_yes hv] at KV
  have HS := Lib.hid hS
  have HQ : Hid (1 ≤ q ∧ q ≤ 64) := Lib.hid (mayC_true (stM_may hv)).2
  have HD : Hid (∀ j, j < n → bdM (X.getD j mk0)) := Lib.hid (by
    obtain ⟨hm, hx, _⟩ := stM_true hv
    obtain ⟨g1, g2, hc, g4⟩ := mayC_facts (mayM_true hm).2
    obtain ⟨hs2, hok⟩ := mrkB_true hx
    exact fun j hj => (hok j (by rw [hS.1]; exact hj)).bd hc.2 hs2.2)
  have HI : Hid (∀ j, j < n + 1 → bdG g ((inM (seq + 1) now d X).getD j mk0)) := Lib.hid (by
    obtain ⟨hm, hx, _⟩ := stM_true hv
    obtain ⟨hg, hm2⟩ := mayM_true hm
    obtain ⟨g1, g2, hc, g4⟩ := mayC_facts hm2
    obtain ⟨hs2, hok⟩ := mrkB_true hx
    intro j hj
    refine ⟨inM_bd hg hc.2 hs2.2 hok hd (by rw [hS.1]; exact hj), ?_⟩
    by_cases hjn : j < n
    · rw [inM_get (by rw [hS.1]; exact hjn)]
      obtain ⟨_, _, _, ⟨l1, l2⟩, ⟨l3, l4⟩, _⟩ := HD.out j hjn
      obtain ⟨d1, d2, _⟩ := hd
      show In (min _ d) ∧ In (max _ d)
      have p1 := min_b l1 l2 d1 d2
      have p2 := min_b l3 l4 d1 d2
      exact ⟨⟨by omega, by omega⟩, ⟨by omega, by omega⟩⟩
    · obtain rfl : j = X.length := by rw [hS.1]; omega
      rw [inM_last]
      obtain ⟨d1, d2, _⟩ := hd
      exact ⟨⟨by show _ ≤ d; omega, by show d ≤ _; omega⟩, ⟨by show _ ≤ d; omega, by show d ≤ _; omega⟩⟩)
  have HAN : Hid (∀ i j, i ≤ j → j < n + 1 → ofZ g ((inM (seq + 1) now d X).getD j mk0) ≤ ofZ g ((inM (seq + 1) now d X).getD i mk0)) := Lib.hid (by
    obtain ⟨hm, hx, _⟩ := stM_true hv
    obtain ⟨hs2, hok⟩ := mrkB_true hx
    exact fun i j hij hj => inM_anti (mayM_true hm).1 hok hd hij (by rw [hS.1]; exact hj))
  have KN := Lib.hid (nearness_up g q)
  have hs2 : 0 ≤ seq ∧ seq ≤ 1099511627776 := (mrkB_true (stM_true hv).2.1).1
  have hg := (mayM_true (stM_true hv).1).1
  have KA := Lib.hid (fun (b1 a1 : Nat) W (hu : Up w W) (hb : W.cell? ⟨b1, 0, none⟩ = some (.int .i64 q)) (ha : W.cell? ⟨a1, 0, none⟩ = some (.int .i64 g)) => madd_good (clM g q) (bdG g) b1 a1 g v q c now seq d n k A X hn hg hd hf hs2 HD.out HI.out (fun i p j _ h1 h2 h => clM_anti HQ.out.1 (HAN.out p j h1 h2) h) W (near_rule b1 a1 g q HQ.out W hb ha) (hS.up hu))
  have HZ : Hid (prL (clM g q) (n + 1) (inM (seq + 1) now d X) = adM g q seq now d X) := Lib.hid (by rw [← HL.out]; rfl)
  rw [HZ.out] at KA
  clear HZ HD HI HAN HQ hS hv hd hf hs2 hg
  generalize adM g q seq now d X = Z at *
  go_enter Try.func26, Try.ntmps26
  go_upto_region 4 with (go_at_call 22; (with_reducible refine (KV.out _ (HS.out.up (((Up.refl w).alloc _ _).alloc _ _))).mono ?_); rintro e w1 ⟨rfl, hu⟩; have HU1 := Lib.hid ((((Up.refl w).alloc #[.int .i64 g, .int .i64 v, .int .i64 q, .int .i64 c, .int .i64 now, .int .i64 seq, .slice A n k] 26).alloc #[.int .i64 0, .int .i64 0, .int .i64 0, .int .i64 0, .int .i64 0, .int .i64 0, .slice none 0 0] 26).trans hu); have c00 := hu.keep (w.heap.size) 0 (.int .i64 g) (by simp [go_sem]); have c01 := hu.keep (w.heap.size) 1 (.int .i64 v) (by simp [go_sem]); have c02 := hu.keep (w.heap.size) 2 (.int .i64 q) (by simp [go_sem]); have c03 := hu.keep (w.heap.size) 3 (.int .i64 c) (by simp [go_sem]); have c04 := hu.keep (w.heap.size) 4 (.int .i64 now) (by simp [go_sem]); have c05 := hu.keep (w.heap.size) 5 (.int .i64 seq) (by simp [go_sem]); have c06 := hu.keep (w.heap.size) 6 (.slice A n k) (by simp [go_sem]); have c10 := hu.keep (w.heap.size + 1) 0 (.int .i64 0) (by simp [go_sem]); have c11 := hu.keep (w.heap.size + 1) 1 (.int .i64 0) (by simp [go_sem]); have c12 := hu.keep (w.heap.size + 1) 2 (.int .i64 0) (by simp [go_sem]); have c13 := hu.keep (w.heap.size + 1) 3 (.int .i64 0) (by simp [go_sem]); have c14 := hu.keep (w.heap.size + 1) 4 (.int .i64 0) (by simp [go_sem]); have c15 := hu.keep (w.heap.size + 1) 5 (.int .i64 0) (by simp [go_sem]); have c16 := hu.keep (w.heap.size + 1) 6 (.slice none 0 0) (by simp [go_sem]); have z00 := HU1.out.ownGe (g := w.heap.size) (Nat.le_refl _) 0; have z01 := HU1.out.ownGe (g := w.heap.size) (Nat.le_refl _) 1; have z02 := HU1.out.ownGe (g := w.heap.size) (Nat.le_refl _) 2; have z03 := HU1.out.ownGe (g := w.heap.size) (Nat.le_refl _) 3; have z04 := HU1.out.ownGe (g := w.heap.size) (Nat.le_refl _) 4; have z05 := HU1.out.ownGe (g := w.heap.size) (Nat.le_refl _) 5; have z06 := HU1.out.ownGe (g := w.heap.size) (Nat.le_refl _) 6; have z10 := HU1.out.ownGe (g := w.heap.size + 1) (by omega) 0; have z11 := HU1.out.ownGe (g := w.heap.size + 1) (by omega) 1; have z12 := HU1.out.ownGe (g := w.heap.size + 1) (by omega) 2; have z13 := HU1.out.ownGe (g := w.heap.size + 1) (by omega) 3; have z14 := HU1.out.ownGe (g := w.heap.size + 1) (by omega) 4; have z15 := HU1.out.ownGe (g := w.heap.size + 1) (by omega) 5; have z16 := HU1.out.ownGe (g := w.heap.size + 1) (by omega) 6; have hlt : w.heap.size + 1 < w1.heap.size := World.block_lt_of_cell? _ _ c10; have hlt0 : w.heap.size < w1.heap.size := Nat.lt_of_succ_lt hlt; clear hu)
  have HSS : Hid (Up w w1 ∧ w1.cell? ⟨w.heap.size, 0, none⟩ = some (.int .i64 g) ∧ w1.cell? ⟨w.heap.size, 1, none⟩ = some (.int .i64 v) ∧ w1.cell? ⟨w.heap.size, 2, none⟩ = some (.int .i64 q) ∧ w1.cell? ⟨w.heap.size, 3, none⟩ = some (.int .i64 c) ∧ w1.cell? ⟨w.heap.size, 4, none⟩ = some (.int .i64 now) ∧ w1.cell? ⟨w.heap.size, 5, none⟩ = some (.int .i64 seq) ∧ w1.cell? ⟨w.heap.size, 6, none⟩ = some (.slice A n k)) := Lib.hid ⟨HU1.out, c00, c01, c02, c03, c04, c05, c06⟩
  clear c00 c01 c02 c03 c04 c05 c06
  go_wp2_with fail
  refine wp_region_held_drew (S := fun w' => Up w w' ∧ w'.cell? ⟨w.heap.size, 0, none⟩ = some (.int .i64 g) ∧ w'.cell? ⟨w.heap.size, 1, none⟩ = some (.int .i64 v) ∧ w'.cell? ⟨w.heap.size, 2, none⟩ = some (.int .i64 q) ∧ w'.cell? ⟨w.heap.size, 3, none⟩ = some (.int .i64 c) ∧ w'.cell? ⟨w.heap.size, 4, none⟩ = some (.int .i64 now) ∧ w'.cell? ⟨w.heap.size, 5, none⟩ = some (.int .i64 seq) ∧ w'.cell? ⟨w.heap.size, 6, none⟩ = some (.slice A n k)) (by kernel_rfl) ?hB475 (fun hHeld => ?_)
  case hB475 => (with_reducible exact keepK7 (Lib.hid (Up.refl _).drew) HSS.out)
  refine wpAnyH_take (i := 0) (oi := ⟨_, _, _, _, _, _⟩) (v := ?v476) rfl (by kernel_rfl) (by kernel_rfl) (by kernel_rfl) (fun _ _ _ h => h) (Or.inl ⟨by rfl, ?hy476⟩) (by assumption) ?_
  case hy476 => (intro w hSw; (try dsimp only at hSw); go_simp; (try (with_reducible rfl)))
  (try simp only [Act.put, List.setIfInBounds_toArray, List.set_cons_zero, List.set_cons_succ])
  refine wpAnyH_take (i := 1) (oi := ⟨_, _, _, _, _, _⟩) (v := ?v477) rfl (by kernel_rfl) (by kernel_rfl) (by kernel_rfl) (fun _ _ _ h => h) (Or.inl ⟨by rfl, ?hy477⟩) (by assumption) ?_
  case hy477 => (intro w hSw; (try dsimp only at hSw); go_simp; (try (with_reducible rfl)))
  (try simp only [Act.put, List.setIfInBounds_toArray, List.set_cons_zero, List.set_cons_succ])
  refine wpAnyH_take (i := 2) (oi := ⟨_, _, _, _, _, _⟩) (v := ?v478) rfl (by kernel_rfl) (by kernel_rfl) (by kernel_rfl) (fun _ _ _ h => h) (Or.inl ⟨by rfl, ?hy478⟩) (by assumption) ?_
  case hy478 => (intro w hSw; (try dsimp only at hSw); go_simp; (try (with_reducible rfl)))
  (try simp only [Act.put, List.setIfInBounds_toArray, List.set_cons_zero, List.set_cons_succ])
  refine wpAnyH_take (i := 3) (oi := ⟨_, _, _, _, _, _⟩) (v := ?v479) rfl (by kernel_rfl) (by kernel_rfl) (by kernel_rfl) (fun _ _ _ h => h) (Or.inl ⟨by rfl, ?hy479⟩) (by assumption) ?_
  case hy479 => (intro w hSw; (try dsimp only at hSw); go_simp; (try (with_reducible rfl)))
  (try simp only [Act.put, List.setIfInBounds_toArray, List.set_cons_zero, List.set_cons_succ])
  refine wpAnyH_take (i := 4) (oi := ⟨_, _, _, _, _, _⟩) (v := ?v480) rfl (by kernel_rfl) (by kernel_rfl) (by kernel_rfl) (fun _ _ _ h => h) (Or.inl ⟨by rfl, ?hy480⟩) (by assumption) ?_
  case hy480 => (intro w hSw; (try dsimp only at hSw); go_simp; (try (with_reducible rfl)))
  (try simp only [Act.put, List.setIfInBounds_toArray, List.set_cons_zero, List.set_cons_succ])
  refine wpAnyH_take (i := 5) (oi := ⟨_, _, _, _, _, _⟩) (v := ?v481) rfl (by kernel_rfl) (by kernel_rfl) (by kernel_rfl) (fun _ _ _ h => h) (Or.inl ⟨by rfl, ?hy481⟩) (by assumption) ?_
  case hy481 => (intro w hSw; (try dsimp only at hSw); go_simp; (try (with_reducible rfl)))
  (try simp only [Act.put, List.setIfInBounds_toArray, List.set_cons_zero, List.set_cons_succ])
  refine wpAnyH_ready (rs := [6]) (by kernel_rfl) (by simp) ?_
  refine AllReadyH.cons (o := ⟨_, _, _, _, _, _⟩) rfl (fun K hK => ?_) AllReadyH.nil
  go_simp
  (go_at_call 65; (with_reducible refine (KN.out _).mono ?_); rintro e w3 ⟨xa, xb, rfl, hu, cb, ca⟩; have HU3 := Lib.hid hu; have HX3 := Lib.hid (keepK7 HU3 hHeld); have CB := Lib.hid cb; have CA := Lib.hid ca; have c10 := hu.keep _ _ _ c10; have c11 := hu.keep _ _ _ c11; have c12 := hu.keep _ _ _ c12; have c13 := hu.keep _ _ _ c13; have c14 := hu.keep _ _ _ c14; have c15 := hu.keep _ _ _ c15; have c16 := hu.keep _ _ _ c16; have hlt3 := World.block_lt_of_cell? _ _ c10; clear hu cb ca)
  (try go_wp2_with fail)
  refine hK.out _ _ ?hB482 (fun hHeld => ?_)
  case hB482 => (with_reducible exact HX3.out)
  clear hK K
  (try simp only [Act.put, List.setIfInBounds_toArray, List.set_cons_zero, List.set_cons_succ])
  refine wpAnyH_ready (rs := [7]) (by kernel_rfl) (by simp) ?_
  refine AllReadyH.cons (o := ⟨_, _, _, _, _, _⟩) rfl (fun K hK => ?_) AllReadyH.nil
  go_simp
  (go_at_call 72; (with_reducible refine (KA.out xb xa _ hHeld.1 CB.out CA.out).mono ?_); rintro e w4 ⟨A5, n5, k5, rfl, hn5, hk5, hnw, hu, hM⟩; have HU4 := Lib.hid hu; have HX4 := Lib.hid (keepK7 HU4 hHeld); have c10 := hu.keep _ _ _ c10; have c11 := hu.keep _ _ _ c11; have c12 := hu.keep _ _ _ c12; have c13 := hu.keep _ _ _ c13; have c14 := hu.keep _ _ _ c14; have c15 := hu.keep _ _ _ c15; have c16 := hu.keep _ _ _ c16; have z10 := HX4.out.1.ownGe (g := w.heap.size + 1) (by omega) 0; have z11 := HX4.out.1.ownGe (g := w.heap.size + 1) (by omega) 1; have z12 := HX4.out.1.ownGe (g := w.heap.size + 1) (by omega) 2; have z13 := HX4.out.1.ownGe (g := w.heap.size + 1) (by omega) 3; have z14 := HX4.out.1.ownGe (g := w.heap.size + 1) (by omega) 4; have z15 := HX4.out.1.ownGe (g := w.heap.size + 1) (by omega) 5; have z16 := HX4.out.1.ownGe (g := w.heap.size + 1) (by omega) 6; have hlt4 := World.block_lt_of_cell? _ _ c10; have HM5 := Lib.hid hM; have HNW := Lib.hid hnw; have hsz := HX3.out.1.size; clear hM hnw; clear hu)
  (try go_wp2_with fail)
  refine hK.out _ _ ?hB483 (fun hHeld => ?_)
  case hB483 => (with_reducible exact HX4.out)
  clear hK K
  (try simp only [Act.put, List.setIfInBounds_toArray, List.set_cons_zero, List.set_cons_succ])
  refine wpAnyH_take (i := 8) (oi := ⟨_, _, _, _, _, _⟩) (v := ?v484) rfl (by kernel_rfl) (by kernel_rfl) (by kernel_rfl) (fun _ _ _ h => h) (Or.inl ⟨by rfl, ?hy484⟩) (by assumption) ?_
  case hy484 => (intro w hSw; (try dsimp only at hSw); go_simp; (try (with_reducible rfl)))
  (try simp only [Act.put, List.setIfInBounds_toArray, List.set_cons_zero, List.set_cons_succ])
  refine wpAnyH_take (i := 9) (oi := ⟨_, _, _, _, _, _⟩) (v := ?v485) rfl (by kernel_rfl) (by kernel_rfl) (by kernel_rfl) (fun _ _ _ h => h) (Or.inl ⟨by rfl, ?hy485⟩) (by assumption) ?_
  case hy485 => (intro w hSw; (try dsimp only at hSw); go_simp; (try (with_reducible rfl)))
  (try simp only [Act.put, List.setIfInBounds_toArray, List.set_cons_zero, List.set_cons_succ])
  refine wpAnyH_ready (rs := [10]) (by kernel_rfl) (by simp) ?_
  refine AllReadyH.cons (o := ⟨_, _, _, _, _, _⟩) rfl (fun K hK => ?_) AllReadyH.nil
  go_simp
  refine hK.out _ _ ?hB486 (fun hHeld => ?_)
  case hB486 => (with_reducible exact set7K7 hHeld (by omega) (by omega))
  clear hK K
  (try simp only [Act.put, List.setIfInBounds_toArray, List.set_cons_zero, List.set_cons_succ])
  refine wpAnyH_take (i := 11) (oi := ⟨_, _, _, _, _, _⟩) (v := ?v487) rfl (by kernel_rfl) (by kernel_rfl) (by kernel_rfl) (fun _ _ _ h => h) (Or.inl ⟨by rfl, ?hy487⟩) (by assumption) ?_
  case hy487 => (intro w hSw; (try dsimp only at hSw); go_simp; (try (with_reducible rfl)))
  (try simp only [Act.put, List.setIfInBounds_toArray, List.set_cons_zero, List.set_cons_succ])
  refine wpAnyH_done (by kernel_rfl) ?_ _
  clear hHeld HX3
  go_wp2_with fail
  refine bodyPost_ret (v := .tuple #[.agg #[.int .i64 g, .int .i64 v, .int .i64 q, .int .i64 c, .int .i64 now, .int .i64 (seq + 1), .slice A5 n5 k5], .int .i64 0]) (by simp [results, Try.results26, go_sem, c10, c11, c12, c13, c14, c15, c16]) rfl ⟨A5, n5, k5, rfl, hn5, hk5, fun b_ o_ h_ => Nat.le_trans hsz (HNW.out b_ o_ h_), ?_, ?_⟩
  · exact HX4.out.1.set7 (by omega)
  · exact HM5.out.off7 (fun b_ o_ h_ => by have := HNW.out b_ o_ h_; omega) _ _ _ _ _ _ _

end Go.Proofs.Ytafkoddgefcpnaa

namespace Go.Proofs.Ytafkoddgefcpnaa
open Go.RowKit
set_option linter.unusedVariables false

theorem awkM_st0 : stM 1 9 1 100 0 0 ([] : List Mrk) = true := by decide
theorem awkM_st1 : stM 1 9 1 100 0 1 ([⟨1, 0, 1, 1, 1, 1, 1⟩] : List Mrk) = true := by decide
theorem awkM_st2 : stM 1 9 1 100 0 2 ([⟨1, 0, 2, 2, 2, 1, 1⟩, ⟨2, 0, 1, 1, 1, 1, 1⟩] : List Mrk) = true := by decide
theorem awkM_st3 : stM 1 9 1 100 0 3 ([⟨1, 0, 3, 3, 3, 1, 1⟩, ⟨2, 0, 2, 2, 2, 1, 1⟩, ⟨3, 0, 1, 1, 1, 1, 1⟩] : List Mrk) = true := by decide
theorem awkM_ad0 : adM 1 1 0 0 1 ([] : List Mrk) = ([⟨1, 0, 1, 1, 1, 1, 1⟩] : List Mrk) := rfl
theorem awkM_fu0 : fuM 100 0 ([] : List Mrk) = false := by decide
theorem awkM_ad1 : adM 1 1 1 0 1 ([⟨1, 0, 1, 1, 1, 1, 1⟩] : List Mrk) = ([⟨1, 0, 2, 2, 2, 1, 1⟩, ⟨2, 0, 1, 1, 1, 1, 1⟩] : List Mrk) := rfl
theorem awkM_fu1 : fuM 100 1 ([⟨1, 0, 1, 1, 1, 1, 1⟩] : List Mrk) = false := by decide
theorem awkM_ad2 : adM 1 1 2 0 1 ([⟨1, 0, 2, 2, 2, 1, 1⟩, ⟨2, 0, 1, 1, 1, 1, 1⟩] : List Mrk) = ([⟨1, 0, 3, 3, 3, 1, 1⟩, ⟨2, 0, 2, 2, 2, 1, 1⟩, ⟨3, 0, 1, 1, 1, 1, 1⟩] : List Mrk) := rfl
theorem awkM_fu2 : fuM 100 2 ([⟨1, 0, 2, 2, 2, 1, 1⟩, ⟨2, 0, 1, 1, 1, 1, 1⟩] : List Mrk) = false := by decide
theorem awkM_ad3 : adM 1 1 3 0 1 ([⟨1, 0, 3, 3, 3, 1, 1⟩, ⟨2, 0, 2, 2, 2, 1, 1⟩, ⟨3, 0, 1, 1, 1, 1, 1⟩] : List Mrk) = ([⟨1, 0, 4, 4, 4, 1, 1⟩, ⟨3, 0, 2, 2, 2, 1, 1⟩, ⟨4, 0, 1, 1, 1, 1, 1⟩] : List Mrk) := rfl
theorem awkM_fu3 : fuM 100 3 ([⟨1, 0, 3, 3, 3, 1, 1⟩, ⟨2, 0, 2, 2, 2, 1, 1⟩, ⟨3, 0, 1, 1, 1, 1, 1⟩] : List Mrk) = false := by decide
theorem awkM_val : valG 1 1 := by decide
theorem awkM_new (W : World) : Calls Try.prog 13 #[.int .i64 1, .int .i64 9, .int .i64 1, .int .i64 100, .int .i64 0] W fun e w' => e = .returned (.tuple #[.agg #[.int .i64 1, .int .i64 9, .int .i64 1, .int .i64 100, .int .i64 0, .int .i64 0, .slice none 0 0], .int .i64 0]) ∧ Up W w' :=
  new13_yes 1 9 1 100 0 (by decide) W
theorem awkM_add0 (W : World) (A : Option Addr) (k : Nat) (hk : 0 ≤ k) (hS : SG cM W A 0 ([] : List Mrk)) : Calls Try.prog 26 #[.agg #[.int .i64 1, .int .i64 9, .int .i64 1, .int .i64 100, .int .i64 0, .int .i64 0, .slice A 0 k], .int .i64 1] W fun e w' => ∃ A' k', e = .returned (.tuple #[.agg #[.int .i64 1, .int .i64 9, .int .i64 1, .int .i64 100, .int .i64 0, .int .i64 1, .slice A' 1 k'], .int .i64 0]) ∧ 1 ≤ k' ∧ Nw W A' ∧ Up W w' ∧ SG cM w' A' 1 ([⟨1, 0, 1, 1, 1, 1, 1⟩] : List Mrk) :=
  (add13_good 1 9 1 100 0 0 1 0 k A _ (by omega) hk awkM_st0 awkM_val awkM_fu0 W hS).mono (fun _ _ ⟨A', n', k', h1, _, hk', h3, h4, h5⟩ => by
    rw [awkM_ad0] at h5
    obtain rfl : n' = 1 := h5.1.symm
    exact ⟨A', k', h1, hk', h3, h4, h5⟩)
theorem awkM_add1 (W : World) (A : Option Addr) (k : Nat) (hk : 1 ≤ k) (hS : SG cM W A 1 ([⟨1, 0, 1, 1, 1, 1, 1⟩] : List Mrk)) : Calls Try.prog 26 #[.agg #[.int .i64 1, .int .i64 9, .int .i64 1, .int .i64 100, .int .i64 0, .int .i64 1, .slice A 1 k], .int .i64 1] W fun e w' => ∃ A' k', e = .returned (.tuple #[.agg #[.int .i64 1, .int .i64 9, .int .i64 1, .int .i64 100, .int .i64 0, .int .i64 2, .slice A' 2 k'], .int .i64 0]) ∧ 2 ≤ k' ∧ Nw W A' ∧ Up W w' ∧ SG cM w' A' 2 ([⟨1, 0, 2, 2, 2, 1, 1⟩, ⟨2, 0, 1, 1, 1, 1, 1⟩] : List Mrk) :=
  (add13_good 1 9 1 100 0 1 1 1 k A _ (by omega) hk awkM_st1 awkM_val awkM_fu1 W hS).mono (fun _ _ ⟨A', n', k', h1, _, hk', h3, h4, h5⟩ => by
    rw [awkM_ad1] at h5
    obtain rfl : n' = 2 := h5.1.symm
    exact ⟨A', k', h1, hk', h3, h4, h5⟩)
theorem awkM_add2 (W : World) (A : Option Addr) (k : Nat) (hk : 2 ≤ k) (hS : SG cM W A 2 ([⟨1, 0, 2, 2, 2, 1, 1⟩, ⟨2, 0, 1, 1, 1, 1, 1⟩] : List Mrk)) : Calls Try.prog 26 #[.agg #[.int .i64 1, .int .i64 9, .int .i64 1, .int .i64 100, .int .i64 0, .int .i64 2, .slice A 2 k], .int .i64 1] W fun e w' => ∃ A' k', e = .returned (.tuple #[.agg #[.int .i64 1, .int .i64 9, .int .i64 1, .int .i64 100, .int .i64 0, .int .i64 3, .slice A' 3 k'], .int .i64 0]) ∧ 3 ≤ k' ∧ Nw W A' ∧ Up W w' ∧ SG cM w' A' 3 ([⟨1, 0, 3, 3, 3, 1, 1⟩, ⟨2, 0, 2, 2, 2, 1, 1⟩, ⟨3, 0, 1, 1, 1, 1, 1⟩] : List Mrk) :=
  (add13_good 1 9 1 100 0 2 1 2 k A _ (by omega) hk awkM_st2 awkM_val awkM_fu2 W hS).mono (fun _ _ ⟨A', n', k', h1, _, hk', h3, h4, h5⟩ => by
    rw [awkM_ad2] at h5
    obtain rfl : n' = 3 := h5.1.symm
    exact ⟨A', k', h1, hk', h3, h4, h5⟩)
theorem awkM_add3 (W : World) (A : Option Addr) (k : Nat) (hk : 3 ≤ k) (hS : SG cM W A 3 ([⟨1, 0, 3, 3, 3, 1, 1⟩, ⟨2, 0, 2, 2, 2, 1, 1⟩, ⟨3, 0, 1, 1, 1, 1, 1⟩] : List Mrk)) : Calls Try.prog 26 #[.agg #[.int .i64 1, .int .i64 9, .int .i64 1, .int .i64 100, .int .i64 0, .int .i64 3, .slice A 3 k], .int .i64 1] W fun e w' => ∃ A' k', e = .returned (.tuple #[.agg #[.int .i64 1, .int .i64 9, .int .i64 1, .int .i64 100, .int .i64 0, .int .i64 4, .slice A' 3 k'], .int .i64 0]) ∧ 3 ≤ k' ∧ Nw W A' ∧ Up W w' ∧ SG cM w' A' 3 ([⟨1, 0, 4, 4, 4, 1, 1⟩, ⟨3, 0, 2, 2, 2, 1, 1⟩, ⟨4, 0, 1, 1, 1, 1, 1⟩] : List Mrk) :=
  (add13_good 1 9 1 100 0 3 1 3 k A _ (by omega) hk awkM_st3 awkM_val awkM_fu3 W hS).mono (fun _ _ ⟨A', n', k', h1, _, hk', h3, h4, h5⟩ => by
    rw [awkM_ad3] at h5
    obtain rfl : n' = 3 := h5.1.symm
    exact ⟨A', k', h1, hk', h3, h4, h5⟩)
/-- What awake holds ahead of the round i. -/
def AwK (w0 W : World) (p i : Nat) : Prop :=
  ∃ (A : Option Addr) (n k : Nat) (X : List Mrk), (i = 0 ∧ n = 0 ∧ X = [] ∨ i = 1 ∧ n = 1 ∧ X = ([⟨1, 0, 1, 1, 1, 1, 1⟩] : List Mrk) ∨ i = 2 ∧ n = 2 ∧ X = ([⟨1, 0, 2, 2, 2, 1, 1⟩, ⟨2, 0, 1, 1, 1, 1, 1⟩] : List Mrk) ∨ i = 3 ∧ n = 3 ∧ X = ([⟨1, 0, 3, 3, 3, 1, 1⟩, ⟨2, 0, 2, 2, 2, 1, 1⟩, ⟨3, 0, 1, 1, 1, 1, 1⟩] : List Mrk) ∨ i = 4 ∧ n = 3 ∧ X = ([⟨1, 0, 4, 4, 4, 1, 1⟩, ⟨3, 0, 2, 2, 2, 1, 1⟩, ⟨4, 0, 1, 1, 1, 1, 1⟩] : List Mrk)) ∧ n ≤ k ∧ SG cM W A n X ∧ (∀ b o, A = some ⟨b, o, none⟩ → b ≠ p) ∧ Up w0 W ∧ W.cell? ⟨p, 0, none⟩ = some (.int .i64 1) ∧ W.cell? ⟨p, 1, none⟩ = some (.int .i64 9) ∧ W.cell? ⟨p, 2, none⟩ = some (.int .i64 1) ∧ W.cell? ⟨p, 3, none⟩ = some (.int .i64 100) ∧ W.cell? ⟨p, 4, none⟩ = some (.int .i64 0) ∧ W.cell? ⟨p, 5, none⟩ = some (.int .i64 i) ∧ W.cell? ⟨p, 6, none⟩ = some (.slice A n k)
theorem awkM_step (i n : Nat) (X : List Mrk) (h : i = 0 ∧ n = 0 ∧ X = [] ∨ i = 1 ∧ n = 1 ∧ X = ([⟨1, 0, 1, 1, 1, 1, 1⟩] : List Mrk) ∨ i = 2 ∧ n = 2 ∧ X = ([⟨1, 0, 2, 2, 2, 1, 1⟩, ⟨2, 0, 1, 1, 1, 1, 1⟩] : List Mrk) ∨ i = 3 ∧ n = 3 ∧ X = ([⟨1, 0, 3, 3, 3, 1, 1⟩, ⟨2, 0, 2, 2, 2, 1, 1⟩, ⟨3, 0, 1, 1, 1, 1, 1⟩] : List Mrk)) (W : World) (A : Option Addr) (k : Nat) (hk : n ≤ k) (hS : SG cM W A n X) : Calls Try.prog 26 #[.agg #[.int .i64 1, .int .i64 9, .int .i64 1, .int .i64 100, .int .i64 0, .int .i64 i, .slice A n k], .int .i64 1] W fun e w' => ∃ A' n' k' X', e = .returned (.tuple #[.agg #[.int .i64 1, .int .i64 9, .int .i64 1, .int .i64 100, .int .i64 0, .int .i64 ((i : Int) + 1), .slice A' n' k'], .int .i64 0]) ∧ (i = 0 ∧ n' = 1 ∧ X' = ([⟨1, 0, 1, 1, 1, 1, 1⟩] : List Mrk) ∨ i = 1 ∧ n' = 2 ∧ X' = ([⟨1, 0, 2, 2, 2, 1, 1⟩, ⟨2, 0, 1, 1, 1, 1, 1⟩] : List Mrk) ∨ i = 2 ∧ n' = 3 ∧ X' = ([⟨1, 0, 3, 3, 3, 1, 1⟩, ⟨2, 0, 2, 2, 2, 1, 1⟩, ⟨3, 0, 1, 1, 1, 1, 1⟩] : List Mrk) ∨ i = 3 ∧ n' = 3 ∧ X' = ([⟨1, 0, 4, 4, 4, 1, 1⟩, ⟨3, 0, 2, 2, 2, 1, 1⟩, ⟨4, 0, 1, 1, 1, 1, 1⟩] : List Mrk)) ∧ n' ≤ k' ∧ Nw W A' ∧ Up W w' ∧ SG cM w' A' n' X' := by
  rcases h with ⟨rfl, rfl, rfl⟩ | ⟨rfl, rfl, rfl⟩ | ⟨rfl, rfl, rfl⟩ | ⟨rfl, rfl, rfl⟩
  · exact (awkM_add0 W A k hk hS).mono (fun _ _ ⟨A', k', h1, h2, h3, h4, h5⟩ => ⟨A', 1, k', _, h1, by simp, h2, h3, h4, h5⟩)
  · exact (awkM_add1 W A k hk hS).mono (fun _ _ ⟨A', k', h1, h2, h3, h4, h5⟩ => ⟨A', 2, k', _, h1, by simp, h2, h3, h4, h5⟩)
  · exact (awkM_add2 W A k hk hS).mono (fun _ _ ⟨A', k', h1, h2, h3, h4, h5⟩ => ⟨A', 3, k', _, h1, by simp, h2, h3, h4, h5⟩)
  · exact (awkM_add3 W A k hk hS).mono (fun _ _ ⟨A', k', h1, h2, h3, h4, h5⟩ => ⟨A', 3, k', _, h1, by simp, h2, h3, h4, h5⟩)

set_option maxHeartbeats 16000000 in
set_option maxRecDepth 100000 in
theorem awake13_up (w : World) : Calls Try.prog 20 #[] w fun e w' => e = .returned (.bool true) ∧ Up w w' := by
  have K1 := Lib.hid awkM_new
  go_enter Try.func20, Try.ntmps20
  go_wp2_with (go_at_call 13; (with_reducible refine (K1.out _).mono ?_); rintro e w1 ⟨rfl, hu⟩; have HU1 := Lib.hid hu; clear hu)
  have HR0 : Hid (AwK w (w1.alloc (.cells #[.int .i64 1, .int .i64 9, .int .i64 1, .int .i64 100, .int .i64 0, .int .i64 0, .slice none 0 0] 26)) w1.heap.size 0) := Lib.hid ⟨none, 0, 0, [], Or.inl ⟨rfl, rfl, rfl⟩, Nat.le_refl _, SG.none_, (fun _ _ e => by cases e), HU1.out.alloc _ _, by simp [go_sem], by simp [go_sem], by simp [go_sem], by simp [go_sem], by simp [go_sem], by simp [go_sem], by simp [go_sem]⟩
  have hp : w.heap.size ≤ w1.heap.size := HU1.out.size
  generalize w1.heap.size = p at *
  clear HU1 K1
  go_loopw [2, 3] (fun s t wr => ∃ i : Nat, s = .int .i64 0 ∧ t = .int .i64 i ∧ i ≤ 4 ∧ Hid (AwK w wr p i)) (fun _ t _ => 4 - (intOf t).toNat)
  case atStart => exact ⟨0, rfl, rfl, Nat.zero_le _, HR0⟩
  case round =>
    obtain ⟨i, rfl, rfl, hi, HQ⟩ := hrel
    obtain ⟨A, n, k, X, hX, hk, hS, hoff, hU, x0, x1, x2, x3, x4, x5, x6⟩ := HQ.out
    have HS := Lib.hid hS
    have HU := Lib.hid hU
    by_cases hlt : i < 4
    · have K2 := Lib.hid (fun W (h : SG cM W A n X) => awkM_step i n X (by
        rcases hX with h | h | h | h | h
        · exact Or.inl h
        · exact Or.inr (Or.inl h)
        · exact Or.inr (Or.inr (Or.inl h))
        · exact Or.inr (Or.inr (Or.inr h))
        · exact absurd h.1 (by omega)) W A k hk h)
      have f2 : (i : Int) < 4 := by omega
      have hpl : p < wr.heap.size := World.block_lt_of_cell? _ _ x0
      clear hX HQ hS hU hoff
      go_wp2_with (go_at_call 26; (with_reducible refine (K2.out _ HS.out).mono ?_); rintro e w2 ⟨A2, n2, k2, X2, rfl, hX2, hk2, hn2, hu, hS2⟩; have HX2 := Lib.hid hX2; have HS2 := Lib.hid hS2; have HN2 := Lib.hid (hn2.off hpl); have HU2 := Lib.hid (HU.out.trans hu); have f0_ := HU2.out.ownGe (g := p) hp 0; have f1_ := HU2.out.ownGe (g := p) hp 1; have f2_ := HU2.out.ownGe (g := p) hp 2; have f3_ := HU2.out.ownGe (g := p) hp 3; have f4_ := HU2.out.ownGe (g := p) hp 4; have f5_ := HU2.out.ownGe (g := p) hp 5; have f6_ := HU2.out.ownGe (g := p) hp 6; have y0 := hu.keep _ _ _ x0; have y1 := hu.keep _ _ _ x1; have y2 := hu.keep _ _ _ x2; have y3 := hu.keep _ _ _ x3; have y4 := hu.keep _ _ _ x4; have y5 := hu.keep _ _ _ x5; have y6 := hu.keep _ _ _ x6; clear hu hS2 hn2 hX2 x0 x1 x2 x3 x4 x5 x6)
      go_roundw
      case rel =>
        obtain ⟨z0, z1, z2, z3, z4, z5, z6⟩ := cells7 (v0 := .int .i64 1) (v1 := .int .i64 9) (v2 := .int .i64 1) (v3 := .int .i64 100) (v4 := .int .i64 0) (v5 := .int .i64 ((i : Int) + 1)) (v6 := .slice A2 n2 k2) y0 y1 y2 y3 y4 y5 y6
        exact ⟨i + 1, rfl, by go_num, by omega, Lib.hid ⟨A2, n2, k2, X2, by
          rcases HX2.out with ⟨h1, h2⟩ | ⟨h1, h2⟩ | ⟨h1, h2⟩ | ⟨h1, h2⟩
          · exact Or.inr (Or.inl ⟨by omega, h2⟩)
          · exact Or.inr (Or.inr (Or.inl ⟨by omega, h2⟩))
          · exact Or.inr (Or.inr (Or.inr (Or.inl ⟨by omega, h2⟩)))
          · exact Or.inr (Or.inr (Or.inr (Or.inr ⟨by omega, h2⟩))), hk2, HS2.out.off7 HN2.out _ _ _ _ _ _ _, HN2.out, HU2.out.set7 hp, z0, z1, z2, z3, z4, by rw [z5]; simp, z6⟩⟩
      case measure => simp [intOf]; omega
    · obtain rfl : i = 4 := by omega
      obtain ⟨rfl, rfl⟩ : n = 3 ∧ X = ([⟨1, 0, 4, 4, 4, 1, 1⟩, ⟨3, 0, 2, 2, 2, 1, 1⟩, ⟨4, 0, 1, 1, 1, 1, 1⟩] : List Mrk) := by
        rcases hX with h | h | h | h | h
        · exact absurd h.1 (by omega)
        · exact absurd h.1 (by omega)
        · exact absurd h.1 (by omega)
        · exact absurd h.1 (by omega)
        · exact h.2
      obtain ⟨b, o, rfl, d0, d1, d2, d3, d4, d5, d6⟩ := mrk_at hS mk0 (show 1 < 3 by omega)
      simp at d2
      clear hX HQ hS hU hoff
      go_wp2
      go_ret
      exact ⟨rfl, HU.out⟩
end Go.Proofs.Ytafkoddgefcpnaa
