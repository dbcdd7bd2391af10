/- Advance of package smooth and of its reference. -/
import Derived.Test.YtchikndofpkjmaaRows
import Derived.Test.YtchikndofpkjmaaZKFnRq163
namespace Go.Proofs.Ytchikndofpkjmaa
open Go.RowKit
set_option linter.unusedVariables false

theorem stM_tick {g v q c now seq : Int} {X : List Mrk} (h : stM g v q c now seq X = true) : tickB now = true := (mayB_true (mayC_true (stM_may h)).1).1

set_option maxHeartbeats 4000000 in
set_option maxRecDepth 100000 in
theorem adv13_good (g v q c now seq td : Int) (n k : Nat) (A : Option Addr) (X : List Mrk) (hn : n ≤ 50000) (hk : n ≤ k) (hv : stM g v q c now seq X = true) (h1 : now ≤ td) (h2 : td ≤ 16777216) (w : World) (hS : SG cM w A n X) :
    Calls Try.prog 21 #[.agg #[.int .i64 g, .int .i64 v, .int .i64 q, .int .i64 c, .int .i64 now, .int .i64 seq, .slice A n k], .int .i64 td] w fun e w' => ∃ A' n' k', e = .returned (.tuple #[.agg #[.int .i64 g, .int .i64 v, .int .i64 q, .int .i64 c, .int .i64 td, .int .i64 seq, .slice A' n' k'], .int .i64 0]) ∧ n' ≤ n ∧ n' ≤ k' ∧ Nw w A' ∧ Up w w' ∧ SG cM w' A' n' (drM td v X) := by
  have KV := Lib.hid (fun W (h : SG cM W A n X) => validate13_up g v q c now seq n k A X hn W h)
  rw [stME_yes hv] at KV
  have HS := Lib.hid hS
  have KB := Lib.hid (fun W => advance_any now td td 0 (adv_yes (stM_tick hv) h1 h2) W)
  have HZ0 : Hid (drL (fun m => liveB td v m.t) X = drM td v X) := Lib.hid rfl
  clear hS hv h1 h2
  generalize drM td v X = Z at *
  have KL := Lib.hid (fun (P : Mrk) => isLive13_up g v q c td seq n k A P.sq P.t P.n P.s P.q P.lo P.hi)
  go_enter Try.func21, Try.ntmps21
  go_upto_region 8 with (first | (go_at_call 50; (with_reducible refine (KB.out _).mono ?_); rintro e w2 ⟨rfl, rfl⟩) | (go_at_call 19; (with_reducible refine (KV.out _ (HS.out.up (((Up.refl w).alloc _ _).alloc _ _))).mono ?_); rintro e w1 ⟨rfl, hu⟩; have HU1 := Lib.hid ((((Up.refl w).alloc #[.int .i64 g, .int .i64 v, .int .i64 q, .int .i64 c, .int .i64 now, .int .i64 seq, .slice A n k] 26).alloc #[.int .i64 0, .int .i64 0, .int .i64 0, .int .i64 0, .int .i64 0, .int .i64 0, .slice none 0 0] 26).trans hu); have c00 := hu.keep (w.heap.size) 0 (.int .i64 g) (by simp [go_sem]); have c01 := hu.keep (w.heap.size) 1 (.int .i64 v) (by simp [go_sem]); have c02 := hu.keep (w.heap.size) 2 (.int .i64 q) (by simp [go_sem]); have c03 := hu.keep (w.heap.size) 3 (.int .i64 c) (by simp [go_sem]); have c04 := hu.keep (w.heap.size) 4 (.int .i64 now) (by simp [go_sem]); have c05 := hu.keep (w.heap.size) 5 (.int .i64 seq) (by simp [go_sem]); have c06 := hu.keep (w.heap.size) 6 (.slice A n k) (by simp [go_sem]); have c10 := hu.keep (w.heap.size + 1) 0 (.int .i64 0) (by simp [go_sem]); have c11 := hu.keep (w.heap.size + 1) 1 (.int .i64 0) (by simp [go_sem]); have c12 := hu.keep (w.heap.size + 1) 2 (.int .i64 0) (by simp [go_sem]); have c13 := hu.keep (w.heap.size + 1) 3 (.int .i64 0) (by simp [go_sem]); have c14 := hu.keep (w.heap.size + 1) 4 (.int .i64 0) (by simp [go_sem]); have c15 := hu.keep (w.heap.size + 1) 5 (.int .i64 0) (by simp [go_sem]); have c16 := hu.keep (w.heap.size + 1) 6 (.slice none 0 0) (by simp [go_sem]); have z00 := HU1.out.ownGe (g := w.heap.size) (Nat.le_refl _) 0; have z01 := HU1.out.ownGe (g := w.heap.size) (Nat.le_refl _) 1; have z02 := HU1.out.ownGe (g := w.heap.size) (Nat.le_refl _) 2; have z03 := HU1.out.ownGe (g := w.heap.size) (Nat.le_refl _) 3; have z04 := HU1.out.ownGe (g := w.heap.size) (Nat.le_refl _) 4; have z05 := HU1.out.ownGe (g := w.heap.size) (Nat.le_refl _) 5; have z06 := HU1.out.ownGe (g := w.heap.size) (Nat.le_refl _) 6; have z10 := HU1.out.ownGe (g := w.heap.size + 1) (by omega) 0; have z11 := HU1.out.ownGe (g := w.heap.size + 1) (by omega) 1; have z12 := HU1.out.ownGe (g := w.heap.size + 1) (by omega) 2; have z13 := HU1.out.ownGe (g := w.heap.size + 1) (by omega) 3; have z14 := HU1.out.ownGe (g := w.heap.size + 1) (by omega) 4; have z15 := HU1.out.ownGe (g := w.heap.size + 1) (by omega) 5; have z16 := HU1.out.ownGe (g := w.heap.size + 1) (by omega) 6; have hlt : w.heap.size + 1 < w1.heap.size := World.block_lt_of_cell? _ _ c10; have hlt0 : w.heap.size < w1.heap.size := Nat.lt_of_succ_lt hlt; clear hu))
  refine (show ∀ W2 : World, W2 = _ → Code.wp _ _ _ _ W2 from fun W2 hW2 => ?_) _ rfl
  have U2 : Up w W2 := by rw [hW2]; exact HU1.out.setCell (Nat.le_refl _) _
  have b0 : W2.cell? ⟨w.heap.size, 0, none⟩ = some (.int .i64 g) := by rw [hW2]; simp [go_sem, c00]
  have b1 : W2.cell? ⟨w.heap.size, 1, none⟩ = some (.int .i64 v) := by rw [hW2]; simp [go_sem, c01]
  have b2 : W2.cell? ⟨w.heap.size, 2, none⟩ = some (.int .i64 q) := by rw [hW2]; simp [go_sem, c02]
  have b3 : W2.cell? ⟨w.heap.size, 3, none⟩ = some (.int .i64 c) := by rw [hW2]; simp [go_sem, c03]
  have b4 : W2.cell? ⟨w.heap.size, 4, none⟩ = some (.int .i64 td) := by rw [hW2]; simp [go_sem, c04]
  have b5 : W2.cell? ⟨w.heap.size, 5, none⟩ = some (.int .i64 seq) := by rw [hW2]; simp [go_sem, c05]
  have b6 : W2.cell? ⟨w.heap.size, 6, none⟩ = some (.slice A n k) := by rw [hW2]; simp [go_sem, c06]
  have r0 : W2.cell? ⟨w.heap.size + 1, 0, none⟩ = some (.int .i64 0) := by rw [hW2]; simp [go_sem, c10]
  have r1 : W2.cell? ⟨w.heap.size + 1, 1, none⟩ = some (.int .i64 0) := by rw [hW2]; simp [go_sem, c11]
  have r2 : W2.cell? ⟨w.heap.size + 1, 2, none⟩ = some (.int .i64 0) := by rw [hW2]; simp [go_sem, c12]
  have r3 : W2.cell? ⟨w.heap.size + 1, 3, none⟩ = some (.int .i64 0) := by rw [hW2]; simp [go_sem, c13]
  have r4 : W2.cell? ⟨w.heap.size + 1, 4, none⟩ = some (.int .i64 0) := by rw [hW2]; simp [go_sem, c14]
  have r5 : W2.cell? ⟨w.heap.size + 1, 5, none⟩ = some (.int .i64 0) := by rw [hW2]; simp [go_sem, c15]
  have r6 : W2.cell? ⟨w.heap.size + 1, 6, none⟩ = some (.slice none 0 0) := by rw [hW2]; simp [go_sem, c16]
  clear hW2 HU1 KV KB hlt hlt0 c00 c01 c02 c03 c04 c05 c06 c10 c11 c12 c13 c14 c15 c16 z00 z01 z02 z03 z04 z05 z06 z10 z11 z12 z13 z14 z15 z16
  have HW0 : Hid (Up w W2 ∧ W2.cell? ⟨w.heap.size, 0, none⟩ = some (.int .i64 g) ∧ W2.cell? ⟨w.heap.size, 1, none⟩ = some (.int .i64 v) ∧ W2.cell? ⟨w.heap.size, 2, none⟩ = some (.int .i64 q) ∧ W2.cell? ⟨w.heap.size, 3, none⟩ = some (.int .i64 c) ∧ W2.cell? ⟨w.heap.size, 4, none⟩ = some (.int .i64 td) ∧ W2.cell? ⟨w.heap.size, 5, none⟩ = some (.int .i64 seq) ∧ W2.cell? ⟨w.heap.size, 6, none⟩ = some (.slice A n k) ∧ W2.cell? ⟨(w.heap.size + 1), 0, none⟩ = some (.int .i64 0) ∧ W2.cell? ⟨(w.heap.size + 1), 1, none⟩ = some (.int .i64 0) ∧ W2.cell? ⟨(w.heap.size + 1), 2, none⟩ = some (.int .i64 0) ∧ W2.cell? ⟨(w.heap.size + 1), 3, none⟩ = some (.int .i64 0) ∧ W2.cell? ⟨(w.heap.size + 1), 4, none⟩ = some (.int .i64 0) ∧ W2.cell? ⟨(w.heap.size + 1), 5, none⟩ = some (.int .i64 0) ∧ W2.cell? ⟨(w.heap.size + 1), 6, none⟩ = some (.slice none 0 0)) := Lib.hid ⟨U2, b0, b1, b2, b3, b4, b5, b6, r0, r1, r2, r3, r4, r5, r6⟩
  go_wp2_with fail
  clear U2 b0 b1 b2 b3 b4 b5 b6 r0 r1 r2 r3 r4 r5 r6
  go_loopw [8] (fun t8 wr => ∃ (m kk : Nat) (B : Option Addr) (R : List Mrk), t8 = .slice B m kk ∧ m ≤ kk ∧ m ≤ n ∧ Hid (SG cM w B m R) ∧ Hid (drL (fun m => liveB td v m.t) R = Z) ∧ Hid (Up w wr ∧ wr.cell? ⟨w.heap.size, 0, none⟩ = some (.int .i64 g) ∧ wr.cell? ⟨w.heap.size, 1, none⟩ = some (.int .i64 v) ∧ wr.cell? ⟨w.heap.size, 2, none⟩ = some (.int .i64 q) ∧ wr.cell? ⟨w.heap.size, 3, none⟩ = some (.int .i64 c) ∧ wr.cell? ⟨w.heap.size, 4, none⟩ = some (.int .i64 td) ∧ wr.cell? ⟨w.heap.size, 5, none⟩ = some (.int .i64 seq) ∧ wr.cell? ⟨w.heap.size, 6, none⟩ = some (.slice A n k) ∧ wr.cell? ⟨(w.heap.size + 1), 0, none⟩ = some (.int .i64 0) ∧ wr.cell? ⟨(w.heap.size + 1), 1, none⟩ = some (.int .i64 0) ∧ wr.cell? ⟨(w.heap.size + 1), 2, none⟩ = some (.int .i64 0) ∧ wr.cell? ⟨(w.heap.size + 1), 3, none⟩ = some (.int .i64 0) ∧ wr.cell? ⟨(w.heap.size + 1), 4, none⟩ = some (.int .i64 0) ∧ wr.cell? ⟨(w.heap.size + 1), 5, none⟩ = some (.int .i64 0) ∧ wr.cell? ⟨(w.heap.size + 1), 6, none⟩ = some (.slice none 0 0))) (fun t8 _ => lnS t8)
  case atStart => exact ⟨n, k, A, X, rfl, hk, Nat.le_refl _, HS, HZ0, HW0⟩
  case round =>
    clear HW0
    obtain ⟨m, kk, B, R, rfl, hmk, hmn, HR, HZ, HW⟩ := hrel
    obtain ⟨u7, b0, b1, b2, b3, b4, b5, b6, r0, r1, r2, r3, r4, r5, r6⟩ := HW.out
    by_cases h1 : 1 < m
    · obtain ⟨a, T, e1, e2⟩ := list_two HR.out.1 h1
      have hc := HR.out.cut cM_len (k := 1) (cap := kk) (by omega) hmk
      obtain ⟨b, o, rfl, d0, d1, d2, d3, d4, d5, d6⟩ := mrk_at (HR.out.up u7) mk0 h1
      have HC : Hid (SG cM w (some ⟨b, o + 7, none⟩) (m - 1) (R.drop 1)) := Lib.hid (by
        rw [if_neg (show ¬ kk = 1 by omega)] at hc
        simpa [add_at] using hc)
      have hrun := sliceM_run (some ⟨b, o, none⟩) m kk (by omega)
      have HE : Hid (liveB td v (R.getD 1 mk0).t = false → drL (fun m => liveB td v m.t) (R.drop 1) = Z) := Lib.hid (fun h => by
        rw [← HZ.out, e2]; conv => rhs; rw [e1]
        exact (drL_two h).symm)
      have HE2 : Hid (liveB td v (R.getD 1 mk0).t = true → R = Z) := Lib.hid (fun h => by
        rw [← HZ.out]; conv => rhs; rw [e1]
        rw [drL_stop h]; exact e1)
      clear e1 e2 hc
      have KJ := Lib.hid (KL.out (R.getD 1 mk0))
      generalize R.getD 1 mk0 = M1 at *
      obtain ⟨sq, t, nn, s, qq, lo, hi⟩ := M1
      simp only at d0 d1 d2 d3 d4 d5 d6 HE HE2 KJ
      have z1 : (1 : Int) < m := by omega
      have z2 : ¬ ((m : Int) = 1) := by omega
      have z3 : ((m : Int) == 1) = false := beq_eq_false_iff_ne.2 z2
      simp only [Nat.one_mul] at d0 d1 d2 d3 d4 d5 d6
      have HSS : Hid (Up w wr ∧ wr.cell? ⟨w.heap.size, 0, none⟩ = some (.int .i64 g) ∧ wr.cell? ⟨w.heap.size, 1, none⟩ = some (.int .i64 v) ∧ wr.cell? ⟨w.heap.size, 2, none⟩ = some (.int .i64 q) ∧ wr.cell? ⟨w.heap.size, 3, none⟩ = some (.int .i64 c) ∧ wr.cell? ⟨w.heap.size, 4, none⟩ = some (.int .i64 td) ∧ wr.cell? ⟨w.heap.size, 5, none⟩ = some (.int .i64 seq) ∧ wr.cell? ⟨w.heap.size, 6, none⟩ = some (.slice A n k) ∧ wr.cell? ⟨(w.heap.size + 1), 0, none⟩ = some (.int .i64 0) ∧ wr.cell? ⟨(w.heap.size + 1), 1, none⟩ = some (.int .i64 0) ∧ wr.cell? ⟨(w.heap.size + 1), 2, none⟩ = some (.int .i64 0) ∧ wr.cell? ⟨(w.heap.size + 1), 3, none⟩ = some (.int .i64 0) ∧ wr.cell? ⟨(w.heap.size + 1), 4, none⟩ = some (.int .i64 0) ∧ wr.cell? ⟨(w.heap.size + 1), 5, none⟩ = some (.int .i64 0) ∧ wr.cell? ⟨(w.heap.size + 1), 6, none⟩ = some (.slice none 0 0) ∧ wr.cell? ⟨b, o + 7, none⟩ = some (.int .i64 sq) ∧ wr.cell? ⟨b, o + 7 + 1, none⟩ = some (.int .i64 t) ∧ wr.cell? ⟨b, o + 7 + 2, none⟩ = some (.int .i64 nn) ∧ wr.cell? ⟨b, o + 7 + 3, none⟩ = some (.int .i64 s) ∧ wr.cell? ⟨b, o + 7 + 4, none⟩ = some (.int .i64 qq) ∧ wr.cell? ⟨b, o + 7 + 5, none⟩ = some (.int .i64 lo) ∧ wr.cell? ⟨b, o + 7 + 6, none⟩ = some (.int .i64 hi)) := Lib.hid ⟨u7, b0, b1, b2, b3, b4, b5, b6, r0, r1, r2, r3, r4, r5, r6, d0, d1, d2, d3, d4, d5, d6⟩
      clear u7 b0 b1 b2 b3 b4 b5 b6 r0 r1 r2 r3 r4 r5 r6 d0 d1 d2 d3 d4 d5 d6
      cases hl : liveB td v t with
      | false =>
        have HE := Lib.hid (HE.out hl)
        rw [hl] at KJ
        clear hl HE2
        go_wp2_with fail
        refine wp_region_held_drew (S := fun w' => Up w w' ∧ w'.cell? ⟨w.heap.size, 0, none⟩ = some (.int .i64 g) ∧ w'.cell? ⟨w.heap.size, 1, none⟩ = some (.int .i64 v) ∧ w'.cell? ⟨w.heap.size, 2, none⟩ = some (.int .i64 q) ∧ w'.cell? ⟨w.heap.size, 3, none⟩ = some (.int .i64 c) ∧ w'.cell? ⟨w.heap.size, 4, none⟩ = some (.int .i64 td) ∧ w'.cell? ⟨w.heap.size, 5, none⟩ = some (.int .i64 seq) ∧ w'.cell? ⟨w.heap.size, 6, none⟩ = some (.slice A n k) ∧ w'.cell? ⟨(w.heap.size + 1), 0, none⟩ = some (.int .i64 0) ∧ w'.cell? ⟨(w.heap.size + 1), 1, none⟩ = some (.int .i64 0) ∧ w'.cell? ⟨(w.heap.size + 1), 2, none⟩ = some (.int .i64 0) ∧ w'.cell? ⟨(w.heap.size + 1), 3, none⟩ = some (.int .i64 0) ∧ w'.cell? ⟨(w.heap.size + 1), 4, none⟩ = some (.int .i64 0) ∧ w'.cell? ⟨(w.heap.size + 1), 5, none⟩ = some (.int .i64 0) ∧ w'.cell? ⟨(w.heap.size + 1), 6, none⟩ = some (.slice none 0 0) ∧ w'.cell? ⟨b, o + 7, none⟩ = some (.int .i64 sq) ∧ w'.cell? ⟨b, o + 7 + 1, none⟩ = some (.int .i64 t) ∧ w'.cell? ⟨b, o + 7 + 2, none⟩ = some (.int .i64 nn) ∧ w'.cell? ⟨b, o + 7 + 3, none⟩ = some (.int .i64 s) ∧ w'.cell? ⟨b, o + 7 + 4, none⟩ = some (.int .i64 qq) ∧ w'.cell? ⟨b, o + 7 + 5, none⟩ = some (.int .i64 lo) ∧ w'.cell? ⟨b, o + 7 + 6, none⟩ = some (.int .i64 hi)) (by kernel_rfl) ?hB616 (fun hHeld => ?_)
        case hB616 => (first | (with_reducible assumption) | (with_reducible exact keepK21 (Lib.hid (Up.refl _).drew) HSS.out) | (with_reducible exact HX3.out))
        refine wpAnyH_take (i := 0) (oi := ⟨_, _, _, _, _, _⟩) (v := ?v617) rfl (by kernel_rfl) (by kernel_rfl) (by kernel_rfl) (fun _ _ _ h => h) (Or.inl ⟨by rfl, ?hy617⟩) (by assumption) ?_
        case hy617 => (intro w hSw; (try dsimp only at hSw); go_simp; (try (with_reducible rfl)))
        (try simp only [Act.put, List.setIfInBounds_toArray, List.set_cons_zero, List.set_cons_succ])
        refine wpAnyH_take (i := 1) (oi := ⟨_, _, _, _, _, _⟩) (v := ?v618) rfl (by kernel_rfl) (by kernel_rfl) (by kernel_rfl) (fun _ _ _ h => h) (Or.inl ⟨by rfl, ?hy618⟩) (by assumption) ?_
        case hy618 => (intro w hSw; (try dsimp only at hSw); go_simp; (try (with_reducible rfl)))
        (try simp only [Act.put, List.setIfInBounds_toArray, List.set_cons_zero, List.set_cons_succ])
        refine wpAnyH_take (i := 2) (oi := ⟨_, _, _, _, _, _⟩) (v := ?v619) rfl (by kernel_rfl) (by kernel_rfl) (by kernel_rfl) (fun _ _ _ h => h) (Or.inl ⟨by rfl, ?hy619⟩) (by assumption) ?_
        case hy619 => (intro w hSw; (try dsimp only at hSw); go_simp; (try (with_reducible rfl)))
        (try simp only [Act.put, List.setIfInBounds_toArray, List.set_cons_zero, List.set_cons_succ])
        refine wpAnyH_take (i := 3) (oi := ⟨_, _, _, _, _, _⟩) (v := ?v620) rfl (by kernel_rfl) (by kernel_rfl) (by kernel_rfl) (fun _ _ _ h => h) (Or.inl ⟨by rfl, ?hy620⟩) (by assumption) ?_
        case hy620 => (intro w hSw; (try dsimp only at hSw); go_simp; (try (with_reducible rfl)))
        (try simp only [Act.put, List.setIfInBounds_toArray, List.set_cons_zero, List.set_cons_succ])
        refine wpAnyH_take (i := 4) (oi := ⟨_, _, _, _, _, _⟩) (v := ?v621) rfl (by kernel_rfl) (by kernel_rfl) (by kernel_rfl) (fun _ _ _ h => h) (Or.inl ⟨by rfl, ?hy621⟩) (by assumption) ?_
        case hy621 => (intro w hSw; (try dsimp only at hSw); go_simp; (try (with_reducible rfl)))
        (try simp only [Act.put, List.setIfInBounds_toArray, List.set_cons_zero, List.set_cons_succ])
        refine wpAnyH_take (i := 5) (oi := ⟨_, _, _, _, _, _⟩) (v := ?v622) rfl (by kernel_rfl) (by kernel_rfl) (by kernel_rfl) (fun _ _ _ h => h) (Or.inl ⟨by rfl, ?hy622⟩) (by assumption) ?_
        case hy622 => (intro w hSw; (try dsimp only at hSw); go_simp; (try (with_reducible rfl)))
        (try simp only [Act.put, List.setIfInBounds_toArray, List.set_cons_zero, List.set_cons_succ])
        refine wpAnyH_take (i := 6) (oi := ⟨_, _, _, _, _, _⟩) (v := ?v623) rfl (by kernel_rfl) (by kernel_rfl) (by kernel_rfl) (fun _ _ _ h => h) (Or.inl ⟨by rfl, ?hy623⟩) (by assumption) ?_
        case hy623 => (intro w hSw; (try dsimp only at hSw); go_simp; (try (with_reducible rfl)))
        (try simp only [Act.put, List.setIfInBounds_toArray, List.set_cons_zero, List.set_cons_succ])
        refine wpAnyH_take (i := 7) (oi := ⟨_, _, _, _, _, _⟩) (v := ?v624) rfl (by kernel_rfl) (by kernel_rfl) (by kernel_rfl) (fun _ _ _ h => h) (Or.inl ⟨by rfl, ?hy624⟩) (by assumption) ?_
        case hy624 => (intro w hSw; (try dsimp only at hSw); go_simp; (try (with_reducible rfl)))
        (try simp only [Act.put, List.setIfInBounds_toArray, List.set_cons_zero, List.set_cons_succ])
        refine wpAnyH_ready (rs := [8]) (by kernel_rfl) (by simp) ?_
        refine AllReadyH.cons (o := ⟨_, _, _, _, _, _⟩) rfl (fun K hK => ?_) AllReadyH.nil
        go_simp
        (go_at_call 51; (with_reducible refine (KJ.out _).mono ?_); rintro e w3 ⟨rfl, hu⟩; have HU3 := Lib.hid hu; have HX3 := Lib.hid (keepK21 HU3 hHeld); clear hu)
        (try go_wp2_with fail)
        refine hK.out _ _ ?hB625 (fun hHeld => ?_)
        case hB625 => (first | (with_reducible assumption) | (with_reducible exact keepK21 (Lib.hid (Up.refl _).drew) HSS.out) | (with_reducible exact HX3.out))
        clear hK K
        (try simp only [Act.put, List.setIfInBounds_toArray, List.set_cons_zero, List.set_cons_succ])
        refine wpAnyH_take (i := 9) (oi := ⟨_, _, _, _, _, _⟩) (v := ?v626) rfl (by kernel_rfl) (by kernel_rfl) (by kernel_rfl) (fun _ _ _ h => h) (Or.inl ⟨by rfl, ?hy626⟩) (by assumption) ?_
        case hy626 => (intro w hSw; (try dsimp only at hSw); go_simp; (try (with_reducible rfl)))
        (try simp only [Act.put, List.setIfInBounds_toArray, List.set_cons_zero, List.set_cons_succ])
        refine wpAnyH_take (i := 10) (oi := ⟨_, _, _, _, _, _⟩) (v := ?v627) rfl (by kernel_rfl) (by kernel_rfl) (by kernel_rfl) (fun _ _ _ h => h) (Or.inl ⟨by rfl, ?hy627⟩) (by assumption) ?_
        case hy627 => (intro w hSw; (try dsimp only at hSw); go_simp; (try (with_reducible rfl)))
        (try simp only [Act.put, List.setIfInBounds_toArray, List.set_cons_zero, List.set_cons_succ])
        refine wpAnyH_done (by kernel_rfl) ?_ _
        obtain ⟨u8, b0, b1, b2, b3, b4, b5, b6, r0, r1, r2, r3, r4, r5, r6, _⟩ := hHeld
        (repeat clear ‹Up w _ ∧ _›)
        have HWn := Lib.hid (And.intro u8 (And.intro b0 (And.intro b1 (And.intro b2 (And.intro b3 (And.intro b4 (And.intro b5 (And.intro b6 (And.intro r0 (And.intro r1 (And.intro r2 (And.intro r3 (And.intro r4 (And.intro r5 r6))))))))))))))
        clear u8 b0 b1 b2 b3 b4 b5 b6 r0 r1 r2 r3 r4 r5 r6
        go_wp2_with fail
        go_roundw
        case rel => exact ⟨m - 1, kk - 1, some ⟨b, o + 7, none⟩, R.drop 1, rfl, by omega, by omega, HC, HE, HWn⟩
        case measure => simp [lnS]; omega
      | true =>
        obtain rfl : R = Z := HE2.out hl
        rw [hl] at KJ
        clear hl HE hrun
        go_wp2_with fail
        refine wp_region_held_drew (S := fun w' => Up w w' ∧ w'.cell? ⟨w.heap.size, 0, none⟩ = some (.int .i64 g) ∧ w'.cell? ⟨w.heap.size, 1, none⟩ = some (.int .i64 v) ∧ w'.cell? ⟨w.heap.size, 2, none⟩ = some (.int .i64 q) ∧ w'.cell? ⟨w.heap.size, 3, none⟩ = some (.int .i64 c) ∧ w'.cell? ⟨w.heap.size, 4, none⟩ = some (.int .i64 td) ∧ w'.cell? ⟨w.heap.size, 5, none⟩ = some (.int .i64 seq) ∧ w'.cell? ⟨w.heap.size, 6, none⟩ = some (.slice A n k) ∧ w'.cell? ⟨(w.heap.size + 1), 0, none⟩ = some (.int .i64 0) ∧ w'.cell? ⟨(w.heap.size + 1), 1, none⟩ = some (.int .i64 0) ∧ w'.cell? ⟨(w.heap.size + 1), 2, none⟩ = some (.int .i64 0) ∧ w'.cell? ⟨(w.heap.size + 1), 3, none⟩ = some (.int .i64 0) ∧ w'.cell? ⟨(w.heap.size + 1), 4, none⟩ = some (.int .i64 0) ∧ w'.cell? ⟨(w.heap.size + 1), 5, none⟩ = some (.int .i64 0) ∧ w'.cell? ⟨(w.heap.size + 1), 6, none⟩ = some (.slice none 0 0) ∧ w'.cell? ⟨b, o + 7, none⟩ = some (.int .i64 sq) ∧ w'.cell? ⟨b, o + 7 + 1, none⟩ = some (.int .i64 t) ∧ w'.cell? ⟨b, o + 7 + 2, none⟩ = some (.int .i64 nn) ∧ w'.cell? ⟨b, o + 7 + 3, none⟩ = some (.int .i64 s) ∧ w'.cell? ⟨b, o + 7 + 4, none⟩ = some (.int .i64 qq) ∧ w'.cell? ⟨b, o + 7 + 5, none⟩ = some (.int .i64 lo) ∧ w'.cell? ⟨b, o + 7 + 6, none⟩ = some (.int .i64 hi)) (by kernel_rfl) ?hB634 (fun hHeld => ?_)
        case hB634 => (first | (with_reducible assumption) | (with_reducible exact keepK21 (Lib.hid (Up.refl _).drew) HSS.out) | (with_reducible exact HX3.out))
        refine wpAnyH_take (i := 0) (oi := ⟨_, _, _, _, _, _⟩) (v := ?v635) rfl (by kernel_rfl) (by kernel_rfl) (by kernel_rfl) (fun _ _ _ h => h) (Or.inl ⟨by rfl, ?hy635⟩) (by assumption) ?_
        case hy635 => (intro w hSw; (try dsimp only at hSw); go_simp; (try (with_reducible rfl)))
        (try simp only [Act.put, List.setIfInBounds_toArray, List.set_cons_zero, List.set_cons_succ])
        refine wpAnyH_take (i := 1) (oi := ⟨_, _, _, _, _, _⟩) (v := ?v636) rfl (by kernel_rfl) (by kernel_rfl) (by kernel_rfl) (fun _ _ _ h => h) (Or.inl ⟨by rfl, ?hy636⟩) (by assumption) ?_
        case hy636 => (intro w hSw; (try dsimp only at hSw); go_simp; (try (with_reducible rfl)))
        (try simp only [Act.put, List.setIfInBounds_toArray, List.set_cons_zero, List.set_cons_succ])
        refine wpAnyH_take (i := 2) (oi := ⟨_, _, _, _, _, _⟩) (v := ?v637) rfl (by kernel_rfl) (by kernel_rfl) (by kernel_rfl) (fun _ _ _ h => h) (Or.inl ⟨by rfl, ?hy637⟩) (by assumption) ?_
        case hy637 => (intro w hSw; (try dsimp only at hSw); go_simp; (try (with_reducible rfl)))
        (try simp only [Act.put, List.setIfInBounds_toArray, List.set_cons_zero, List.set_cons_succ])
        refine wpAnyH_take (i := 3) (oi := ⟨_, _, _, _, _, _⟩) (v := ?v638) rfl (by kernel_rfl) (by kernel_rfl) (by kernel_rfl) (fun _ _ _ h => h) (Or.inl ⟨by rfl, ?hy638⟩) (by assumption) ?_
        case hy638 => (intro w hSw; (try dsimp only at hSw); go_simp; (try (with_reducible rfl)))
        (try simp only [Act.put, List.setIfInBounds_toArray, List.set_cons_zero, List.set_cons_succ])
        refine wpAnyH_take (i := 4) (oi := ⟨_, _, _, _, _, _⟩) (v := ?v639) rfl (by kernel_rfl) (by kernel_rfl) (by kernel_rfl) (fun _ _ _ h => h) (Or.inl ⟨by rfl, ?hy639⟩) (by assumption) ?_
        case hy639 => (intro w hSw; (try dsimp only at hSw); go_simp; (try (with_reducible rfl)))
        (try simp only [Act.put, List.setIfInBounds_toArray, List.set_cons_zero, List.set_cons_succ])
        refine wpAnyH_take (i := 5) (oi := ⟨_, _, _, _, _, _⟩) (v := ?v640) rfl (by kernel_rfl) (by kernel_rfl) (by kernel_rfl) (fun _ _ _ h => h) (Or.inl ⟨by rfl, ?hy640⟩) (by assumption) ?_
        case hy640 => (intro w hSw; (try dsimp only at hSw); go_simp; (try (with_reducible rfl)))
        (try simp only [Act.put, List.setIfInBounds_toArray, List.set_cons_zero, List.set_cons_succ])
        refine wpAnyH_take (i := 6) (oi := ⟨_, _, _, _, _, _⟩) (v := ?v641) rfl (by kernel_rfl) (by kernel_rfl) (by kernel_rfl) (fun _ _ _ h => h) (Or.inl ⟨by rfl, ?hy641⟩) (by assumption) ?_
        case hy641 => (intro w hSw; (try dsimp only at hSw); go_simp; (try (with_reducible rfl)))
        (try simp only [Act.put, List.setIfInBounds_toArray, List.set_cons_zero, List.set_cons_succ])
        refine wpAnyH_take (i := 7) (oi := ⟨_, _, _, _, _, _⟩) (v := ?v642) rfl (by kernel_rfl) (by kernel_rfl) (by kernel_rfl) (fun _ _ _ h => h) (Or.inl ⟨by rfl, ?hy642⟩) (by assumption) ?_
        case hy642 => (intro w hSw; (try dsimp only at hSw); go_simp; (try (with_reducible rfl)))
        (try simp only [Act.put, List.setIfInBounds_toArray, List.set_cons_zero, List.set_cons_succ])
        refine wpAnyH_ready (rs := [8]) (by kernel_rfl) (by simp) ?_
        refine AllReadyH.cons (o := ⟨_, _, _, _, _, _⟩) rfl (fun K hK => ?_) AllReadyH.nil
        go_simp
        (go_at_call 51; (with_reducible refine (KJ.out _).mono ?_); rintro e w3 ⟨rfl, hu⟩; have HU3 := Lib.hid hu; have HX3 := Lib.hid (keepK21 HU3 hHeld); clear hu)
        (try go_wp2_with fail)
        refine hK.out _ _ ?hB643 (fun hHeld => ?_)
        case hB643 => (first | (with_reducible assumption) | (with_reducible exact keepK21 (Lib.hid (Up.refl _).drew) HSS.out) | (with_reducible exact HX3.out))
        clear hK K
        (try simp only [Act.put, List.setIfInBounds_toArray, List.set_cons_zero, List.set_cons_succ])
        refine wpAnyH_take (i := 9) (oi := ⟨_, _, _, _, _, _⟩) (v := ?v644) rfl (by kernel_rfl) (by kernel_rfl) (by kernel_rfl) (fun _ _ _ h => h) (Or.inl ⟨by rfl, ?hy644⟩) (by assumption) ?_
        case hy644 => (intro w hSw; (try dsimp only at hSw); go_simp; (try (with_reducible rfl)))
        (try simp only [Act.put, List.setIfInBounds_toArray, List.set_cons_zero, List.set_cons_succ])
        refine wpAnyH_take (i := 10) (oi := ⟨_, _, _, _, _, _⟩) (v := ?v645) rfl (by kernel_rfl) (by kernel_rfl) (by kernel_rfl) (fun _ _ _ h => h) (Or.inl ⟨by rfl, ?hy645⟩) (by assumption) ?_
        case hy645 => (intro w hSw; (try dsimp only at hSw); go_simp; (try (with_reducible rfl)))
        (try simp only [Act.put, List.setIfInBounds_toArray, List.set_cons_zero, List.set_cons_succ])
        refine wpAnyH_done (by kernel_rfl) ?_ _
        obtain ⟨u8, b0, b1, b2, b3, b4, b5, b6, r0, r1, r2, r3, r4, r5, r6, _⟩ := hHeld
        (repeat clear ‹Up w _ ∧ _›)
        have HSS := Lib.hid (And.intro u8 (And.intro b0 (And.intro b1 (And.intro b2 (And.intro b3 (And.intro b4 (And.intro b5 (And.intro b6 (And.intro r0 (And.intro r1 (And.intro r2 (And.intro r3 (And.intro r4 (And.intro r5 r6))))))))))))))
        clear u8 b0 b1 b2 b3 b4 b5 b6 r0 r1 r2 r3 r4 r5 r6 HU3
        go_wp2_with fail
        refine wp_region_held_drew (S := fun w' => Up w w' ∧ w'.cell? ⟨w.heap.size, 0, none⟩ = some (.int .i64 g) ∧ w'.cell? ⟨w.heap.size, 1, none⟩ = some (.int .i64 v) ∧ w'.cell? ⟨w.heap.size, 2, none⟩ = some (.int .i64 q) ∧ w'.cell? ⟨w.heap.size, 3, none⟩ = some (.int .i64 c) ∧ w'.cell? ⟨w.heap.size, 4, none⟩ = some (.int .i64 td) ∧ w'.cell? ⟨w.heap.size, 5, none⟩ = some (.int .i64 seq) ∧ w'.cell? ⟨w.heap.size, 6, none⟩ = some (.slice A n k) ∧ w'.cell? ⟨(w.heap.size + 1), 0, none⟩ = some (.int .i64 0) ∧ w'.cell? ⟨(w.heap.size + 1), 1, none⟩ = some (.int .i64 0) ∧ w'.cell? ⟨(w.heap.size + 1), 2, none⟩ = some (.int .i64 0) ∧ w'.cell? ⟨(w.heap.size + 1), 3, none⟩ = some (.int .i64 0) ∧ w'.cell? ⟨(w.heap.size + 1), 4, none⟩ = some (.int .i64 0) ∧ w'.cell? ⟨(w.heap.size + 1), 5, none⟩ = some (.int .i64 0) ∧ w'.cell? ⟨(w.heap.size + 1), 6, none⟩ = some (.slice none 0 0)) (by kernel_rfl) ?hB628 (fun hHeld => ?_)
        case hB628 => (first | (with_reducible assumption) | (with_reducible exact keepK14 (Lib.hid (Up.refl _).drew) HSS.out))
        refine wpAnyH_take (i := 0) (oi := ⟨_, _, _, _, _, _⟩) (v := ?v629) rfl (by kernel_rfl) (by kernel_rfl) (by kernel_rfl) (fun _ _ _ h => h) (Or.inl ⟨by rfl, ?hy629⟩) (by assumption) ?_
        case hy629 => (intro w hSw; (try dsimp only at hSw); go_simp; (try (with_reducible rfl)))
        (try simp only [Act.put, List.setIfInBounds_toArray, List.set_cons_zero, List.set_cons_succ])
        refine wpAnyH_take (i := 1) (oi := ⟨_, _, _, _, _, _⟩) (v := ?v630) rfl (by kernel_rfl) (by kernel_rfl) (by kernel_rfl) (fun _ _ _ h => h) (Or.inl ⟨by rfl, ?hy630⟩) (by assumption) ?_
        case hy630 => (intro w hSw; (try dsimp only at hSw); go_simp; (try (with_reducible rfl)))
        (try simp only [Act.put, List.setIfInBounds_toArray, List.set_cons_zero, List.set_cons_succ])
        refine wpAnyH_take (i := 2) (oi := ⟨_, _, _, _, _, _⟩) (v := ?v631) rfl (by kernel_rfl) (by kernel_rfl) (by kernel_rfl) (fun _ _ _ h => h) (Or.inl ⟨by rfl, ?hy631⟩) (by assumption) ?_
        case hy631 => (intro w hSw; (try dsimp only at hSw); go_simp; (try (with_reducible rfl)))
        (try simp only [Act.put, List.setIfInBounds_toArray, List.set_cons_zero, List.set_cons_succ])
        refine wpAnyH_take (i := 3) (oi := ⟨_, _, _, _, _, _⟩) (v := ?v632) rfl (by kernel_rfl) (by kernel_rfl) (by kernel_rfl) (fun _ _ _ h => h) (Or.inl ⟨by rfl, ?hy632⟩) (by assumption) ?_
        case hy632 => (intro w hSw; (try dsimp only at hSw); go_simp; (try (with_reducible rfl)))
        (try simp only [Act.put, List.setIfInBounds_toArray, List.set_cons_zero, List.set_cons_succ])
        refine wpAnyH_take (i := 4) (oi := ⟨_, _, _, _, _, _⟩) (v := undef) rfl (by kernel_rfl) (by kernel_rfl) (by kernel_rfl) (fun _ _ _ h => h) (Or.inr ⟨by rfl, rfl⟩) (by assumption) ?_
        (try simp only [Act.put, List.setIfInBounds_toArray, List.set_cons_zero, List.set_cons_succ])
        refine wpAnyH_take (i := 5) (oi := ⟨_, _, _, _, _, _⟩) (v := undef) rfl (by kernel_rfl) (by kernel_rfl) (by kernel_rfl) (fun _ _ _ h => h) (Or.inr ⟨by rfl, rfl⟩) (by assumption) ?_
        (try simp only [Act.put, List.setIfInBounds_toArray, List.set_cons_zero, List.set_cons_succ])
        refine wpAnyH_take (i := 6) (oi := ⟨_, _, _, _, _, _⟩) (v := undef) rfl (by kernel_rfl) (by kernel_rfl) (by kernel_rfl) (fun _ _ _ h => h) (Or.inr ⟨by rfl, rfl⟩) (by assumption) ?_
        (try simp only [Act.put, List.setIfInBounds_toArray, List.set_cons_zero, List.set_cons_succ])
        refine wpAnyH_take (i := 7) (oi := ⟨_, _, _, _, _, _⟩) (v := undef) rfl (by kernel_rfl) (by kernel_rfl) (by kernel_rfl) (fun _ _ _ h => h) (Or.inr ⟨by rfl, rfl⟩) (by assumption) ?_
        (try simp only [Act.put, List.setIfInBounds_toArray, List.set_cons_zero, List.set_cons_succ])
        refine wpAnyH_take (i := 8) (oi := ⟨_, _, _, _, _, _⟩) (v := undef) rfl (by kernel_rfl) (by kernel_rfl) (by kernel_rfl) (fun _ _ _ h => h) (Or.inr ⟨by rfl, rfl⟩) (by assumption) ?_
        (try simp only [Act.put, List.setIfInBounds_toArray, List.set_cons_zero, List.set_cons_succ])
        refine wpAnyH_take (i := 9) (oi := ⟨_, _, _, _, _, _⟩) (v := undef) rfl (by kernel_rfl) (by kernel_rfl) (by kernel_rfl) (fun _ _ _ h => h) (Or.inr ⟨by rfl, rfl⟩) (by assumption) ?_
        (try simp only [Act.put, List.setIfInBounds_toArray, List.set_cons_zero, List.set_cons_succ])
        refine wpAnyH_take (i := 10) (oi := ⟨_, _, _, _, _, _⟩) (v := ?v633) rfl (by kernel_rfl) (by kernel_rfl) (by kernel_rfl) (fun _ _ _ h => h) (Or.inl ⟨by rfl, ?hy633⟩) (by assumption) ?_
        case hy633 => (intro w hSw; (try dsimp only at hSw); go_simp; (try (with_reducible rfl)))
        (try simp only [Act.put, List.setIfInBounds_toArray, List.set_cons_zero, List.set_cons_succ])
        refine wpAnyH_done (by kernel_rfl) ?_ _
        obtain ⟨u8, b0, b1, b2, b3, b4, b5, b6, r0, r1, r2, r3, r4, r5, r6⟩ := hHeld
        (repeat clear ‹Up w _ ∧ _›)
        go_upto_region 13 with fail
        have hltW := World.block_lt_of_cell? _ _ r0
        obtain ⟨A2, k2, w2, hr, hO2, hU2⟩ := appendM 24 _ _ (.slice none 0 0) 0 [] (OG.nil _ _ _) (Up.refl _) (some ⟨b, o, none⟩) m kk R (HR.out.up u8) (by omega)
        simp only [Nat.zero_add, List.nil_append] at hr hO2
        have UU := u8.trans hU2
        have c00 := hU2.keep _ _ _ b0
        have c01 := hU2.keep _ _ _ b1
        have c02 := hU2.keep _ _ _ b2
        have c03 := hU2.keep _ _ _ b3
        have c04 := hU2.keep _ _ _ b4
        have c05 := hU2.keep _ _ _ b5
        have c06 := hU2.keep _ _ _ b6
        have c10 := hU2.keep _ _ _ r0
        have c11 := hU2.keep _ _ _ r1
        have c12 := hU2.keep _ _ _ r2
        have c13 := hU2.keep _ _ _ r3
        have c14 := hU2.keep _ _ _ r4
        have c15 := hU2.keep _ _ _ r5
        have c16 := hU2.keep _ _ _ r6
        have z06 := UU.ownGe (g := w.heap.size) (Nat.le_refl _) 6
        have z10 := UU.ownGe (g := w.heap.size + 1) (by omega) 0
        have z11 := UU.ownGe (g := w.heap.size + 1) (by omega) 1
        have z12 := UU.ownGe (g := w.heap.size + 1) (by omega) 2
        have z13 := UU.ownGe (g := w.heap.size + 1) (by omega) 3
        have z14 := UU.ownGe (g := w.heap.size + 1) (by omega) 4
        have z15 := UU.ownGe (g := w.heap.size + 1) (by omega) 5
        have z16 := UU.ownGe (g := w.heap.size + 1) (by omega) 6
        have UU := Lib.hid UU
        have HO2 := Lib.hid hO2
        have hlt := World.block_lt_of_cell? _ _ c10
        clear hO2 hU2 u8 b0 b1 b2 b3 b4 b5 b6 r0 r1 r2 r3 r4 r5 r6
        (repeat clear ‹Up w _ ∧ _›)
        go_wp2_with (refine wpList_append_run (o := ⟨some 55, _, _, _, _, _⟩) rfl (.const (.slice none 0 0)) (.tmp 54) _ rfl (.slice none 0 0) (.slice (some ⟨b, o, none⟩) m kk) rfl rfl _ _ hr ?_)
        have HNW := OG.nw HO2.out
        refine bodyPost_ret (v := .tuple #[.agg #[.int .i64 g, .int .i64 v, .int .i64 q, .int .i64 c, .int .i64 td, .int .i64 seq, .slice A2 m k2], .int .i64 0]) (by simp [results, Try.results21, go_sem, c10, c11, c12, c13, c14, c15, c16]) rfl ⟨A2, m, k2, rfl, by omega, (OG.sg HO2.out).1, fun b_ o_ h_ => by have := HNW b_ o_ h_; omega, ?_, ?_⟩
        · exact (UU.out.setCell (Nat.le_refl _) _).set7 (by omega)
        · exact ((OG.sg HO2.out).2.off (fun b_ o_ h_ => by have := HNW b_ o_ h_; omega) _).off7 (fun b_ o_ h_ => by have := HNW b_ o_ h_; omega) _ _ _ _ _ _ _
    · by_cases h2 : m = 1
      · subst h2
        have HE : Hid (drL (fun m => liveB td v m.t) [R.getD 0 mk0] = Z) := Lib.hid (by rw [← list_one HR.out.1]; exact HZ.out)
        have HE2 : Hid (R = [R.getD 0 mk0]) := Lib.hid (list_one HR.out.1)
        have HE3 : Hid (liveB td v (R.getD 0 mk0).t = false → Z = []) := Lib.hid (fun h => by rw [← HE.out, drL_one, h]; rfl)
        have HE4 : Hid (liveB td v (R.getD 0 mk0).t = true → Z = R) := Lib.hid (fun h => by rw [← HE.out, drL_one, h, if_pos rfl]; exact HE2.out.symm)
        obtain ⟨b, o, rfl, d0, d1, d2, d3, d4, d5, d6⟩ := mrk_at (HR.out.up u7) mk0 Nat.zero_lt_one
        have KJ := Lib.hid (KL.out (R.getD 0 mk0))
        clear HE HE2 d0 d1 d2 d3 d4 d5 d6
        have HD := Lib.hid (fun W (h : Up w W) => mrk_prev (HR.out.up h) Nat.zero_lt_one)
        generalize R.getD 0 mk0 = M1 at *
        obtain ⟨sq, t, nn, s, qq, lo, hi⟩ := M1
        simp only [Nat.zero_mul, Nat.add_zero] at HD
        simp only at HE3 HE4 KJ
        have HSS : Hid (Up w wr ∧ wr.cell? ⟨w.heap.size, 0, none⟩ = some (.int .i64 g) ∧ wr.cell? ⟨w.heap.size, 1, none⟩ = some (.int .i64 v) ∧ wr.cell? ⟨w.heap.size, 2, none⟩ = some (.int .i64 q) ∧ wr.cell? ⟨w.heap.size, 3, none⟩ = some (.int .i64 c) ∧ wr.cell? ⟨w.heap.size, 4, none⟩ = some (.int .i64 td) ∧ wr.cell? ⟨w.heap.size, 5, none⟩ = some (.int .i64 seq) ∧ wr.cell? ⟨w.heap.size, 6, none⟩ = some (.slice A n k) ∧ wr.cell? ⟨(w.heap.size + 1), 0, none⟩ = some (.int .i64 0) ∧ wr.cell? ⟨(w.heap.size + 1), 1, none⟩ = some (.int .i64 0) ∧ wr.cell? ⟨(w.heap.size + 1), 2, none⟩ = some (.int .i64 0) ∧ wr.cell? ⟨(w.heap.size + 1), 3, none⟩ = some (.int .i64 0) ∧ wr.cell? ⟨(w.heap.size + 1), 4, none⟩ = some (.int .i64 0) ∧ wr.cell? ⟨(w.heap.size + 1), 5, none⟩ = some (.int .i64 0) ∧ wr.cell? ⟨(w.heap.size + 1), 6, none⟩ = some (.slice none 0 0)) := Lib.hid ⟨u7, b0, b1, b2, b3, b4, b5, b6, r0, r1, r2, r3, r4, r5, r6⟩
        clear u7 b0 b1 b2 b3 b4 b5 b6 r0 r1 r2 r3 r4 r5 r6 HZ
        go_wp2_with fail
        refine wp_region_held_drew (S := fun w' => Up w w' ∧ w'.cell? ⟨w.heap.size, 0, none⟩ = some (.int .i64 g) ∧ w'.cell? ⟨w.heap.size, 1, none⟩ = some (.int .i64 v) ∧ w'.cell? ⟨w.heap.size, 2, none⟩ = some (.int .i64 q) ∧ w'.cell? ⟨w.heap.size, 3, none⟩ = some (.int .i64 c) ∧ w'.cell? ⟨w.heap.size, 4, none⟩ = some (.int .i64 td) ∧ w'.cell? ⟨w.heap.size, 5, none⟩ = some (.int .i64 seq) ∧ w'.cell? ⟨w.heap.size, 6, none⟩ = some (.slice A n k) ∧ w'.cell? ⟨(w.heap.size + 1), 0, none⟩ = some (.int .i64 0) ∧ w'.cell? ⟨(w.heap.size + 1), 1, none⟩ = some (.int .i64 0) ∧ w'.cell? ⟨(w.heap.size + 1), 2, none⟩ = some (.int .i64 0) ∧ w'.cell? ⟨(w.heap.size + 1), 3, none⟩ = some (.int .i64 0) ∧ w'.cell? ⟨(w.heap.size + 1), 4, none⟩ = some (.int .i64 0) ∧ w'.cell? ⟨(w.heap.size + 1), 5, none⟩ = some (.int .i64 0) ∧ w'.cell? ⟨(w.heap.size + 1), 6, none⟩ = some (.slice none 0 0)) (by kernel_rfl) ?hB670 (fun hHeld => ?_)
        case hB670 => (first | (with_reducible assumption) | (with_reducible exact keepK14 (Lib.hid (Up.refl _).drew) HSS.out))
        refine wpAnyH_take (i := 0) (oi := ⟨_, _, _, _, _, _⟩) (v := ?v671) rfl (by kernel_rfl) (by kernel_rfl) (by kernel_rfl) (fun _ _ _ h => h) (Or.inl ⟨by rfl, ?hy671⟩) (by assumption) ?_
        case hy671 => (intro w hSw; (try dsimp only at hSw); go_simp; (try (with_reducible rfl)))
        (try simp only [Act.put, List.setIfInBounds_toArray, List.set_cons_zero, List.set_cons_succ])
        refine wpAnyH_take (i := 1) (oi := ⟨_, _, _, _, _, _⟩) (v := ?v672) rfl (by kernel_rfl) (by kernel_rfl) (by kernel_rfl) (fun _ _ _ h => h) (Or.inl ⟨by rfl, ?hy672⟩) (by assumption) ?_
        case hy672 => (intro w hSw; (try dsimp only at hSw); go_simp; (try (with_reducible rfl)))
        (try simp only [Act.put, List.setIfInBounds_toArray, List.set_cons_zero, List.set_cons_succ])
        refine wpAnyH_take (i := 2) (oi := ⟨_, _, _, _, _, _⟩) (v := ?v673) rfl (by kernel_rfl) (by kernel_rfl) (by kernel_rfl) (fun _ _ _ h => h) (Or.inl ⟨by rfl, ?hy673⟩) (by assumption) ?_
        case hy673 => (intro w hSw; (try dsimp only at hSw); go_simp; (try (with_reducible rfl)))
        (try simp only [Act.put, List.setIfInBounds_toArray, List.set_cons_zero, List.set_cons_succ])
        refine wpAnyH_take (i := 3) (oi := ⟨_, _, _, _, _, _⟩) (v := ?v674) rfl (by kernel_rfl) (by kernel_rfl) (by kernel_rfl) (fun _ _ _ h => h) (Or.inl ⟨by rfl, ?hy674⟩) (by assumption) ?_
        case hy674 => (intro w hSw; (try dsimp only at hSw); go_simp; (try (with_reducible rfl)))
        (try simp only [Act.put, List.setIfInBounds_toArray, List.set_cons_zero, List.set_cons_succ])
        refine wpAnyH_take (i := 4) (oi := ⟨_, _, _, _, _, _⟩) (v := undef) rfl (by kernel_rfl) (by kernel_rfl) (by kernel_rfl) (fun _ _ _ h => h) (Or.inr ⟨by rfl, rfl⟩) (by assumption) ?_
        (try simp only [Act.put, List.setIfInBounds_toArray, List.set_cons_zero, List.set_cons_succ])
        refine wpAnyH_take (i := 5) (oi := ⟨_, _, _, _, _, _⟩) (v := undef) rfl (by kernel_rfl) (by kernel_rfl) (by kernel_rfl) (fun _ _ _ h => h) (Or.inr ⟨by rfl, rfl⟩) (by assumption) ?_
        (try simp only [Act.put, List.setIfInBounds_toArray, List.set_cons_zero, List.set_cons_succ])
        refine wpAnyH_take (i := 6) (oi := ⟨_, _, _, _, _, _⟩) (v := undef) rfl (by kernel_rfl) (by kernel_rfl) (by kernel_rfl) (fun _ _ _ h => h) (Or.inr ⟨by rfl, rfl⟩) (by assumption) ?_
        (try simp only [Act.put, List.setIfInBounds_toArray, List.set_cons_zero, List.set_cons_succ])
        refine wpAnyH_take (i := 7) (oi := ⟨_, _, _, _, _, _⟩) (v := undef) rfl (by kernel_rfl) (by kernel_rfl) (by kernel_rfl) (fun _ _ _ h => h) (Or.inr ⟨by rfl, rfl⟩) (by assumption) ?_
        (try simp only [Act.put, List.setIfInBounds_toArray, List.set_cons_zero, List.set_cons_succ])
        refine wpAnyH_take (i := 8) (oi := ⟨_, _, _, _, _, _⟩) (v := undef) rfl (by kernel_rfl) (by kernel_rfl) (by kernel_rfl) (fun _ _ _ h => h) (Or.inr ⟨by rfl, rfl⟩) (by assumption) ?_
        (try simp only [Act.put, List.setIfInBounds_toArray, List.set_cons_zero, List.set_cons_succ])
        refine wpAnyH_take (i := 9) (oi := ⟨_, _, _, _, _, _⟩) (v := undef) rfl (by kernel_rfl) (by kernel_rfl) (by kernel_rfl) (fun _ _ _ h => h) (Or.inr ⟨by rfl, rfl⟩) (by assumption) ?_
        (try simp only [Act.put, List.setIfInBounds_toArray, List.set_cons_zero, List.set_cons_succ])
        refine wpAnyH_take (i := 10) (oi := ⟨_, _, _, _, _, _⟩) (v := ?v675) rfl (by kernel_rfl) (by kernel_rfl) (by kernel_rfl) (fun _ _ _ h => h) (Or.inl ⟨by rfl, ?hy675⟩) (by assumption) ?_
        case hy675 => (intro w hSw; (try dsimp only at hSw); go_simp; (try (with_reducible rfl)))
        (try simp only [Act.put, List.setIfInBounds_toArray, List.set_cons_zero, List.set_cons_succ])
        refine wpAnyH_done (by kernel_rfl) ?_ _
        obtain ⟨u8, b0, b1, b2, b3, b4, b5, b6, r0, r1, r2, r3, r4, r5, r6⟩ := hHeld
        (repeat clear ‹Up w _ ∧ _›)
        obtain ⟨d0, d1, d2, d3, d4, d5, d6⟩ := HD.out _ u8
        have HSS := Lib.hid (And.intro u8 (And.intro b0 (And.intro b1 (And.intro b2 (And.intro b3 (And.intro b4 (And.intro b5 (And.intro b6 (And.intro r0 (And.intro r1 (And.intro r2 (And.intro r3 (And.intro r4 (And.intro r5 (And.intro r6 (And.intro d0 (And.intro d1 (And.intro d2 (And.intro d3 (And.intro d4 (And.intro d5 d6)))))))))))))))))))))
        clear u8 b0 b1 b2 b3 b4 b5 b6 r0 r1 r2 r3 r4 r5 r6 d0 d1 d2 d3 d4 d5 d6 HD
        cases hl : liveB td v t with
        | false =>
          obtain rfl : Z = [] := HE3.out hl
          rw [hl] at KJ
          clear hl HE3 HE4
          go_wp2_with fail
          refine wp_region_held_drew (S := fun w' => Up w w' ∧ w'.cell? ⟨w.heap.size, 0, none⟩ = some (.int .i64 g) ∧ w'.cell? ⟨w.heap.size, 1, none⟩ = some (.int .i64 v) ∧ w'.cell? ⟨w.heap.size, 2, none⟩ = some (.int .i64 q) ∧ w'.cell? ⟨w.heap.size, 3, none⟩ = some (.int .i64 c) ∧ w'.cell? ⟨w.heap.size, 4, none⟩ = some (.int .i64 td) ∧ w'.cell? ⟨w.heap.size, 5, none⟩ = some (.int .i64 seq) ∧ w'.cell? ⟨w.heap.size, 6, none⟩ = some (.slice A n k) ∧ w'.cell? ⟨(w.heap.size + 1), 0, none⟩ = some (.int .i64 0) ∧ w'.cell? ⟨(w.heap.size + 1), 1, none⟩ = some (.int .i64 0) ∧ w'.cell? ⟨(w.heap.size + 1), 2, none⟩ = some (.int .i64 0) ∧ w'.cell? ⟨(w.heap.size + 1), 3, none⟩ = some (.int .i64 0) ∧ w'.cell? ⟨(w.heap.size + 1), 4, none⟩ = some (.int .i64 0) ∧ w'.cell? ⟨(w.heap.size + 1), 5, none⟩ = some (.int .i64 0) ∧ w'.cell? ⟨(w.heap.size + 1), 6, none⟩ = some (.slice none 0 0) ∧ w'.cell? ⟨b, o, none⟩ = some (.int .i64 sq) ∧ w'.cell? ⟨b, o + 1, none⟩ = some (.int .i64 t) ∧ w'.cell? ⟨b, o + 2, none⟩ = some (.int .i64 nn) ∧ w'.cell? ⟨b, o + 3, none⟩ = some (.int .i64 s) ∧ w'.cell? ⟨b, o + 4, none⟩ = some (.int .i64 qq) ∧ w'.cell? ⟨b, o + 5, none⟩ = some (.int .i64 lo) ∧ w'.cell? ⟨b, o + 6, none⟩ = some (.int .i64 hi)) (by kernel_rfl) ?hB646 (fun hHeld => ?_)
          case hB646 => (first | (with_reducible assumption) | (with_reducible exact keepK21 (Lib.hid (Up.refl _).drew) HSS.out) | (with_reducible exact HX3.out))
          refine wpAnyH_take (i := 0) (oi := ⟨_, _, _, _, _, _⟩) (v := ?v647) rfl (by kernel_rfl) (by kernel_rfl) (by kernel_rfl) (fun _ _ _ h => h) (Or.inl ⟨by rfl, ?hy647⟩) (by assumption) ?_
          case hy647 => (intro w hSw; (try dsimp only at hSw); go_simp; (try (with_reducible rfl)))
          (try simp only [Act.put, List.setIfInBounds_toArray, List.set_cons_zero, List.set_cons_succ])
          refine wpAnyH_take (i := 1) (oi := ⟨_, _, _, _, _, _⟩) (v := ?v648) rfl (by kernel_rfl) (by kernel_rfl) (by kernel_rfl) (fun _ _ _ h => h) (Or.inl ⟨by rfl, ?hy648⟩) (by assumption) ?_
          case hy648 => (intro w hSw; (try dsimp only at hSw); go_simp; (try (with_reducible rfl)))
          (try simp only [Act.put, List.setIfInBounds_toArray, List.set_cons_zero, List.set_cons_succ])
          refine wpAnyH_take (i := 2) (oi := ⟨_, _, _, _, _, _⟩) (v := ?v649) rfl (by kernel_rfl) (by kernel_rfl) (by kernel_rfl) (fun _ _ _ h => h) (Or.inl ⟨by rfl, ?hy649⟩) (by assumption) ?_
          case hy649 => (intro w hSw; (try dsimp only at hSw); go_simp; (try (with_reducible rfl)))
          (try simp only [Act.put, List.setIfInBounds_toArray, List.set_cons_zero, List.set_cons_succ])
          refine wpAnyH_take (i := 3) (oi := ⟨_, _, _, _, _, _⟩) (v := ?v650) rfl (by kernel_rfl) (by kernel_rfl) (by kernel_rfl) (fun _ _ _ h => h) (Or.inl ⟨by rfl, ?hy650⟩) (by assumption) ?_
          case hy650 => (intro w hSw; (try dsimp only at hSw); go_simp; (try (with_reducible rfl)))
          (try simp only [Act.put, List.setIfInBounds_toArray, List.set_cons_zero, List.set_cons_succ])
          refine wpAnyH_take (i := 4) (oi := ⟨_, _, _, _, _, _⟩) (v := ?v651) rfl (by kernel_rfl) (by kernel_rfl) (by kernel_rfl) (fun _ _ _ h => h) (Or.inl ⟨by rfl, ?hy651⟩) (by assumption) ?_
          case hy651 => (intro w hSw; (try dsimp only at hSw); go_simp; (try (with_reducible rfl)))
          (try simp only [Act.put, List.setIfInBounds_toArray, List.set_cons_zero, List.set_cons_succ])
          refine wpAnyH_take (i := 5) (oi := ⟨_, _, _, _, _, _⟩) (v := ?v652) rfl (by kernel_rfl) (by kernel_rfl) (by kernel_rfl) (fun _ _ _ h => h) (Or.inl ⟨by rfl, ?hy652⟩) (by assumption) ?_
          case hy652 => (intro w hSw; (try dsimp only at hSw); go_simp; (try (with_reducible rfl)))
          (try simp only [Act.put, List.setIfInBounds_toArray, List.set_cons_zero, List.set_cons_succ])
          refine wpAnyH_take (i := 6) (oi := ⟨_, _, _, _, _, _⟩) (v := ?v653) rfl (by kernel_rfl) (by kernel_rfl) (by kernel_rfl) (fun _ _ _ h => h) (Or.inl ⟨by rfl, ?hy653⟩) (by assumption) ?_
          case hy653 => (intro w hSw; (try dsimp only at hSw); go_simp; (try (with_reducible rfl)))
          (try simp only [Act.put, List.setIfInBounds_toArray, List.set_cons_zero, List.set_cons_succ])
          refine wpAnyH_take (i := 7) (oi := ⟨_, _, _, _, _, _⟩) (v := ?v654) rfl (by kernel_rfl) (by kernel_rfl) (by kernel_rfl) (fun _ _ _ h => h) (Or.inl ⟨by rfl, ?hy654⟩) (by assumption) ?_
          case hy654 => (intro w hSw; (try dsimp only at hSw); go_simp; (try (with_reducible rfl)))
          (try simp only [Act.put, List.setIfInBounds_toArray, List.set_cons_zero, List.set_cons_succ])
          refine wpAnyH_ready (rs := [8]) (by kernel_rfl) (by simp) ?_
          refine AllReadyH.cons (o := ⟨_, _, _, _, _, _⟩) rfl (fun K hK => ?_) AllReadyH.nil
          go_simp
          (go_at_call 51; (with_reducible refine (KJ.out _).mono ?_); rintro e w3 ⟨rfl, hu⟩; have HU3 := Lib.hid hu; have HX3 := Lib.hid (keepK21 HU3 hHeld); clear hu)
          (try go_wp2_with fail)
          refine hK.out _ _ ?hB655 (fun hHeld => ?_)
          case hB655 => (first | (with_reducible assumption) | (with_reducible exact keepK21 (Lib.hid (Up.refl _).drew) HSS.out) | (with_reducible exact HX3.out))
          clear hK K
          (try simp only [Act.put, List.setIfInBounds_toArray, List.set_cons_zero, List.set_cons_succ])
          refine wpAnyH_take (i := 9) (oi := ⟨_, _, _, _, _, _⟩) (v := ?v656) rfl (by kernel_rfl) (by kernel_rfl) (by kernel_rfl) (fun _ _ _ h => h) (Or.inl ⟨by rfl, ?hy656⟩) (by assumption) ?_
          case hy656 => (intro w hSw; (try dsimp only at hSw); go_simp; (try (with_reducible rfl)))
          (try simp only [Act.put, List.setIfInBounds_toArray, List.set_cons_zero, List.set_cons_succ])
          refine wpAnyH_take (i := 10) (oi := ⟨_, _, _, _, _, _⟩) (v := ?v657) rfl (by kernel_rfl) (by kernel_rfl) (by kernel_rfl) (fun _ _ _ h => h) (Or.inl ⟨by rfl, ?hy657⟩) (by assumption) ?_
          case hy657 => (intro w hSw; (try dsimp only at hSw); go_simp; (try (with_reducible rfl)))
          (try simp only [Act.put, List.setIfInBounds_toArray, List.set_cons_zero, List.set_cons_succ])
          refine wpAnyH_done (by kernel_rfl) ?_ _
          obtain ⟨u8, b0, b1, b2, b3, b4, b5, b6, r0, r1, r2, r3, r4, r5, r6, _⟩ := hHeld
          (repeat clear ‹Up w _ ∧ _›)
          (try clear HU3)
          go_upto_region 13 with fail
          have hltW := World.block_lt_of_cell? _ _ r0
          obtain ⟨A2, k2, w2, hr, hO2, hU2⟩ := appendM 24 _ _ (.slice none 0 0) 0 [] (OG.nil _ _ _) (Up.refl _) none 0 0 [] (SG.none_) (by omega)
          simp only [Nat.zero_add, List.nil_append] at hr hO2
          have UU := u8.trans hU2
          have c00 := hU2.keep _ _ _ b0
          have c01 := hU2.keep _ _ _ b1
          have c02 := hU2.keep _ _ _ b2
          have c03 := hU2.keep _ _ _ b3
          have c04 := hU2.keep _ _ _ b4
          have c05 := hU2.keep _ _ _ b5
          have c06 := hU2.keep _ _ _ b6
          have c10 := hU2.keep _ _ _ r0
          have c11 := hU2.keep _ _ _ r1
          have c12 := hU2.keep _ _ _ r2
          have c13 := hU2.keep _ _ _ r3
          have c14 := hU2.keep _ _ _ r4
          have c15 := hU2.keep _ _ _ r5
          have c16 := hU2.keep _ _ _ r6
          have z06 := UU.ownGe (g := w.heap.size) (Nat.le_refl _) 6
          have z10 := UU.ownGe (g := w.heap.size + 1) (by omega) 0
          have z11 := UU.ownGe (g := w.heap.size + 1) (by omega) 1
          have z12 := UU.ownGe (g := w.heap.size + 1) (by omega) 2
          have z13 := UU.ownGe (g := w.heap.size + 1) (by omega) 3
          have z14 := UU.ownGe (g := w.heap.size + 1) (by omega) 4
          have z15 := UU.ownGe (g := w.heap.size + 1) (by omega) 5
          have z16 := UU.ownGe (g := w.heap.size + 1) (by omega) 6
          have UU := Lib.hid UU
          have HO2 := Lib.hid hO2
          have hlt := World.block_lt_of_cell? _ _ c10
          clear hO2 hU2 u8 b0 b1 b2 b3 b4 b5 b6 r0 r1 r2 r3 r4 r5 r6
          (repeat clear ‹Up w _ ∧ _›)
          go_wp2_with (refine wpList_append_run (o := ⟨some 55, _, _, _, _, _⟩) rfl (.const (.slice none 0 0)) (.tmp 54) _ rfl (.slice none 0 0) (.slice none 0 0) rfl rfl _ _ hr ?_)
          have HNW := OG.nw HO2.out
          refine bodyPost_ret (v := .tuple #[.agg #[.int .i64 g, .int .i64 v, .int .i64 q, .int .i64 c, .int .i64 td, .int .i64 seq, .slice A2 0 k2], .int .i64 0]) (by simp [results, Try.results21, go_sem, c10, c11, c12, c13, c14, c15, c16]) rfl ⟨A2, 0, k2, rfl, by omega, (OG.sg HO2.out).1, fun b_ o_ h_ => by have := HNW b_ o_ h_; omega, ?_, ?_⟩
          · exact (UU.out.setCell (Nat.le_refl _) _).set7 (by omega)
          · exact ((OG.sg HO2.out).2.off (fun b_ o_ h_ => by have := HNW b_ o_ h_; omega) _).off7 (fun b_ o_ h_ => by have := HNW b_ o_ h_; omega) _ _ _ _ _ _ _
        | true =>
          obtain rfl : Z = R := HE4.out hl
          rw [hl] at KJ
          clear hl HE3 HE4
          go_wp2_with fail
          refine wp_region_held_drew (S := fun w' => Up w w' ∧ w'.cell? ⟨w.heap.size, 0, none⟩ = some (.int .i64 g) ∧ w'.cell? ⟨w.heap.size, 1, none⟩ = some (.int .i64 v) ∧ w'.cell? ⟨w.heap.size, 2, none⟩ = some (.int .i64 q) ∧ w'.cell? ⟨w.heap.size, 3, none⟩ = some (.int .i64 c) ∧ w'.cell? ⟨w.heap.size, 4, none⟩ = some (.int .i64 td) ∧ w'.cell? ⟨w.heap.size, 5, none⟩ = some (.int .i64 seq) ∧ w'.cell? ⟨w.heap.size, 6, none⟩ = some (.slice A n k) ∧ w'.cell? ⟨(w.heap.size + 1), 0, none⟩ = some (.int .i64 0) ∧ w'.cell? ⟨(w.heap.size + 1), 1, none⟩ = some (.int .i64 0) ∧ w'.cell? ⟨(w.heap.size + 1), 2, none⟩ = some (.int .i64 0) ∧ w'.cell? ⟨(w.heap.size + 1), 3, none⟩ = some (.int .i64 0) ∧ w'.cell? ⟨(w.heap.size + 1), 4, none⟩ = some (.int .i64 0) ∧ w'.cell? ⟨(w.heap.size + 1), 5, none⟩ = some (.int .i64 0) ∧ w'.cell? ⟨(w.heap.size + 1), 6, none⟩ = some (.slice none 0 0) ∧ w'.cell? ⟨b, o, none⟩ = some (.int .i64 sq) ∧ w'.cell? ⟨b, o + 1, none⟩ = some (.int .i64 t) ∧ w'.cell? ⟨b, o + 2, none⟩ = some (.int .i64 nn) ∧ w'.cell? ⟨b, o + 3, none⟩ = some (.int .i64 s) ∧ w'.cell? ⟨b, o + 4, none⟩ = some (.int .i64 qq) ∧ w'.cell? ⟨b, o + 5, none⟩ = some (.int .i64 lo) ∧ w'.cell? ⟨b, o + 6, none⟩ = some (.int .i64 hi)) (by kernel_rfl) ?hB658 (fun hHeld => ?_)
          case hB658 => (first | (with_reducible assumption) | (with_reducible exact keepK21 (Lib.hid (Up.refl _).drew) HSS.out) | (with_reducible exact HX3.out))
          refine wpAnyH_take (i := 0) (oi := ⟨_, _, _, _, _, _⟩) (v := ?v659) rfl (by kernel_rfl) (by kernel_rfl) (by kernel_rfl) (fun _ _ _ h => h) (Or.inl ⟨by rfl, ?hy659⟩) (by assumption) ?_
          case hy659 => (intro w hSw; (try dsimp only at hSw); go_simp; (try (with_reducible rfl)))
          (try simp only [Act.put, List.setIfInBounds_toArray, List.set_cons_zero, List.set_cons_succ])
          refine wpAnyH_take (i := 1) (oi := ⟨_, _, _, _, _, _⟩) (v := ?v660) rfl (by kernel_rfl) (by kernel_rfl) (by kernel_rfl) (fun _ _ _ h => h) (Or.inl ⟨by rfl, ?hy660⟩) (by assumption) ?_
          case hy660 => (intro w hSw; (try dsimp only at hSw); go_simp; (try (with_reducible rfl)))
          (try simp only [Act.put, List.setIfInBounds_toArray, List.set_cons_zero, List.set_cons_succ])
          refine wpAnyH_take (i := 2) (oi := ⟨_, _, _, _, _, _⟩) (v := ?v661) rfl (by kernel_rfl) (by kernel_rfl) (by kernel_rfl) (fun _ _ _ h => h) (Or.inl ⟨by rfl, ?hy661⟩) (by assumption) ?_
          case hy661 => (intro w hSw; (try dsimp only at hSw); go_simp; (try (with_reducible rfl)))
          (try simp only [Act.put, List.setIfInBounds_toArray, List.set_cons_zero, List.set_cons_succ])
          refine wpAnyH_take (i := 3) (oi := ⟨_, _, _, _, _, _⟩) (v := ?v662) rfl (by kernel_rfl) (by kernel_rfl) (by kernel_rfl) (fun _ _ _ h => h) (Or.inl ⟨by rfl, ?hy662⟩) (by assumption) ?_
          case hy662 => (intro w hSw; (try dsimp only at hSw); go_simp; (try (with_reducible rfl)))
          (try simp only [Act.put, List.setIfInBounds_toArray, List.set_cons_zero, List.set_cons_succ])
          refine wpAnyH_take (i := 4) (oi := ⟨_, _, _, _, _, _⟩) (v := ?v663) rfl (by kernel_rfl) (by kernel_rfl) (by kernel_rfl) (fun _ _ _ h => h) (Or.inl ⟨by rfl, ?hy663⟩) (by assumption) ?_
          case hy663 => (intro w hSw; (try dsimp only at hSw); go_simp; (try (with_reducible rfl)))
          (try simp only [Act.put, List.setIfInBounds_toArray, List.set_cons_zero, List.set_cons_succ])
          refine wpAnyH_take (i := 5) (oi := ⟨_, _, _, _, _, _⟩) (v := ?v664) rfl (by kernel_rfl) (by kernel_rfl) (by kernel_rfl) (fun _ _ _ h => h) (Or.inl ⟨by rfl, ?hy664⟩) (by assumption) ?_
          case hy664 => (intro w hSw; (try dsimp only at hSw); go_simp; (try (with_reducible rfl)))
          (try simp only [Act.put, List.setIfInBounds_toArray, List.set_cons_zero, List.set_cons_succ])
          refine wpAnyH_take (i := 6) (oi := ⟨_, _, _, _, _, _⟩) (v := ?v665) rfl (by kernel_rfl) (by kernel_rfl) (by kernel_rfl) (fun _ _ _ h => h) (Or.inl ⟨by rfl, ?hy665⟩) (by assumption) ?_
          case hy665 => (intro w hSw; (try dsimp only at hSw); go_simp; (try (with_reducible rfl)))
          (try simp only [Act.put, List.setIfInBounds_toArray, List.set_cons_zero, List.set_cons_succ])
          refine wpAnyH_take (i := 7) (oi := ⟨_, _, _, _, _, _⟩) (v := ?v666) rfl (by kernel_rfl) (by kernel_rfl) (by kernel_rfl) (fun _ _ _ h => h) (Or.inl ⟨by rfl, ?hy666⟩) (by assumption) ?_
          case hy666 => (intro w hSw; (try dsimp only at hSw); go_simp; (try (with_reducible rfl)))
          (try simp only [Act.put, List.setIfInBounds_toArray, List.set_cons_zero, List.set_cons_succ])
          refine wpAnyH_ready (rs := [8]) (by kernel_rfl) (by simp) ?_
          refine AllReadyH.cons (o := ⟨_, _, _, _, _, _⟩) rfl (fun K hK => ?_) AllReadyH.nil
          go_simp
          (go_at_call 51; (with_reducible refine (KJ.out _).mono ?_); rintro e w3 ⟨rfl, hu⟩; have HU3 := Lib.hid hu; have HX3 := Lib.hid (keepK21 HU3 hHeld); clear hu)
          (try go_wp2_with fail)
          refine hK.out _ _ ?hB667 (fun hHeld => ?_)
          case hB667 => (first | (with_reducible assumption) | (with_reducible exact keepK21 (Lib.hid (Up.refl _).drew) HSS.out) | (with_reducible exact HX3.out))
          clear hK K
          (try simp only [Act.put, List.setIfInBounds_toArray, List.set_cons_zero, List.set_cons_succ])
          refine wpAnyH_take (i := 9) (oi := ⟨_, _, _, _, _, _⟩) (v := ?v668) rfl (by kernel_rfl) (by kernel_rfl) (by kernel_rfl) (fun _ _ _ h => h) (Or.inl ⟨by rfl, ?hy668⟩) (by assumption) ?_
          case hy668 => (intro w hSw; (try dsimp only at hSw); go_simp; (try (with_reducible rfl)))
          (try simp only [Act.put, List.setIfInBounds_toArray, List.set_cons_zero, List.set_cons_succ])
          refine wpAnyH_take (i := 10) (oi := ⟨_, _, _, _, _, _⟩) (v := ?v669) rfl (by kernel_rfl) (by kernel_rfl) (by kernel_rfl) (fun _ _ _ h => h) (Or.inl ⟨by rfl, ?hy669⟩) (by assumption) ?_
          case hy669 => (intro w hSw; (try dsimp only at hSw); go_simp; (try (with_reducible rfl)))
          (try simp only [Act.put, List.setIfInBounds_toArray, List.set_cons_zero, List.set_cons_succ])
          refine wpAnyH_done (by kernel_rfl) ?_ _
          obtain ⟨u8, b0, b1, b2, b3, b4, b5, b6, r0, r1, r2, r3, r4, r5, r6, _⟩ := hHeld
          (repeat clear ‹Up w _ ∧ _›)
          (try clear HU3)
          go_upto_region 13 with fail
          have hltW := World.block_lt_of_cell? _ _ r0
          obtain ⟨A2, k2, w2, hr, hO2, hU2⟩ := appendM 24 _ _ (.slice none 0 0) 0 [] (OG.nil _ _ _) (Up.refl _) (some ⟨b, o, none⟩) 1 kk Z (HR.out.up u8) (by omega)
          simp only [Nat.zero_add, List.nil_append] at hr hO2
          have UU := u8.trans hU2
          have c00 := hU2.keep _ _ _ b0
          have c01 := hU2.keep _ _ _ b1
          have c02 := hU2.keep _ _ _ b2
          have c03 := hU2.keep _ _ _ b3
          have c04 := hU2.keep _ _ _ b4
          have c05 := hU2.keep _ _ _ b5
          have c06 := hU2.keep _ _ _ b6
          have c10 := hU2.keep _ _ _ r0
          have c11 := hU2.keep _ _ _ r1
          have c12 := hU2.keep _ _ _ r2
          have c13 := hU2.keep _ _ _ r3
          have c14 := hU2.keep _ _ _ r4
          have c15 := hU2.keep _ _ _ r5
          have c16 := hU2.keep _ _ _ r6
          have z06 := UU.ownGe (g := w.heap.size) (Nat.le_refl _) 6
          have z10 := UU.ownGe (g := w.heap.size + 1) (by omega) 0
          have z11 := UU.ownGe (g := w.heap.size + 1) (by omega) 1
          have z12 := UU.ownGe (g := w.heap.size + 1) (by omega) 2
          have z13 := UU.ownGe (g := w.heap.size + 1) (by omega) 3
          have z14 := UU.ownGe (g := w.heap.size + 1) (by omega) 4
          have z15 := UU.ownGe (g := w.heap.size + 1) (by omega) 5
          have z16 := UU.ownGe (g := w.heap.size + 1) (by omega) 6
          have UU := Lib.hid UU
          have HO2 := Lib.hid hO2
          have hlt := World.block_lt_of_cell? _ _ c10
          clear hO2 hU2 u8 b0 b1 b2 b3 b4 b5 b6 r0 r1 r2 r3 r4 r5 r6
          (repeat clear ‹Up w _ ∧ _›)
          go_wp2_with (refine wpList_append_run (o := ⟨some 55, _, _, _, _, _⟩) rfl (.const (.slice none 0 0)) (.tmp 54) _ rfl (.slice none 0 0) (.slice (some ⟨b, o, none⟩) 1 kk) rfl rfl _ _ hr ?_)
          have HNW := OG.nw HO2.out
          refine bodyPost_ret (v := .tuple #[.agg #[.int .i64 g, .int .i64 v, .int .i64 q, .int .i64 c, .int .i64 td, .int .i64 seq, .slice A2 1 k2], .int .i64 0]) (by simp [results, Try.results21, go_sem, c10, c11, c12, c13, c14, c15, c16]) rfl ⟨A2, 1, k2, rfl, by omega, (OG.sg HO2.out).1, fun b_ o_ h_ => by have := HNW b_ o_ h_; omega, ?_, ?_⟩
          · exact (UU.out.setCell (Nat.le_refl _) _).set7 (by omega)
          · exact ((OG.sg HO2.out).2.off (fun b_ o_ h_ => by have := HNW b_ o_ h_; omega) _).off7 (fun b_ o_ h_ => by have := HNW b_ o_ h_; omega) _ _ _ _ _ _ _
      · obtain rfl : m = 0 := by omega
        have e : R = [] := List.eq_nil_of_length_eq_zero HR.out.1
        have hz := HZ.out
        rw [e] at hz
        have hz2 : Z = [] := hz.symm
        subst hz2
        clear e hz
        have HSS : Hid (Up w wr ∧ wr.cell? ⟨w.heap.size, 0, none⟩ = some (.int .i64 g) ∧ wr.cell? ⟨w.heap.size, 1, none⟩ = some (.int .i64 v) ∧ wr.cell? ⟨w.heap.size, 2, none⟩ = some (.int .i64 q) ∧ wr.cell? ⟨w.heap.size, 3, none⟩ = some (.int .i64 c) ∧ wr.cell? ⟨w.heap.size, 4, none⟩ = some (.int .i64 td) ∧ wr.cell? ⟨w.heap.size, 5, none⟩ = some (.int .i64 seq) ∧ wr.cell? ⟨w.heap.size, 6, none⟩ = some (.slice A n k) ∧ wr.cell? ⟨(w.heap.size + 1), 0, none⟩ = some (.int .i64 0) ∧ wr.cell? ⟨(w.heap.size + 1), 1, none⟩ = some (.int .i64 0) ∧ wr.cell? ⟨(w.heap.size + 1), 2, none⟩ = some (.int .i64 0) ∧ wr.cell? ⟨(w.heap.size + 1), 3, none⟩ = some (.int .i64 0) ∧ wr.cell? ⟨(w.heap.size + 1), 4, none⟩ = some (.int .i64 0) ∧ wr.cell? ⟨(w.heap.size + 1), 5, none⟩ = some (.int .i64 0) ∧ wr.cell? ⟨(w.heap.size + 1), 6, none⟩ = some (.slice none 0 0)) := Lib.hid ⟨u7, b0, b1, b2, b3, b4, b5, b6, r0, r1, r2, r3, r4, r5, r6⟩
        clear u7 b0 b1 b2 b3 b4 b5 b6 r0 r1 r2 r3 r4 r5 r6 HZ
        go_wp2_with fail
        refine wp_region_held_drew (S := fun w' => Up w w' ∧ w'.cell? ⟨w.heap.size, 0, none⟩ = some (.int .i64 g) ∧ w'.cell? ⟨w.heap.size, 1, none⟩ = some (.int .i64 v) ∧ w'.cell? ⟨w.heap.size, 2, none⟩ = some (.int .i64 q) ∧ w'.cell? ⟨w.heap.size, 3, none⟩ = some (.int .i64 c) ∧ w'.cell? ⟨w.heap.size, 4, none⟩ = some (.int .i64 td) ∧ w'.cell? ⟨w.heap.size, 5, none⟩ = some (.int .i64 seq) ∧ w'.cell? ⟨w.heap.size, 6, none⟩ = some (.slice A n k) ∧ w'.cell? ⟨(w.heap.size + 1), 0, none⟩ = some (.int .i64 0) ∧ w'.cell? ⟨(w.heap.size + 1), 1, none⟩ = some (.int .i64 0) ∧ w'.cell? ⟨(w.heap.size + 1), 2, none⟩ = some (.int .i64 0) ∧ w'.cell? ⟨(w.heap.size + 1), 3, none⟩ = some (.int .i64 0) ∧ w'.cell? ⟨(w.heap.size + 1), 4, none⟩ = some (.int .i64 0) ∧ w'.cell? ⟨(w.heap.size + 1), 5, none⟩ = some (.int .i64 0) ∧ w'.cell? ⟨(w.heap.size + 1), 6, none⟩ = some (.slice none 0 0)) (by kernel_rfl) ?hB682 (fun hHeld => ?_)
        case hB682 => (first | (with_reducible assumption) | (with_reducible exact keepK14 (Lib.hid (Up.refl _).drew) HSS.out))
        refine wpAnyH_take (i := 0) (oi := ⟨_, _, _, _, _, _⟩) (v := ?v683) rfl (by kernel_rfl) (by kernel_rfl) (by kernel_rfl) (fun _ _ _ h => h) (Or.inl ⟨by rfl, ?hy683⟩) (by assumption) ?_
        case hy683 => (intro w hSw; (try dsimp only at hSw); go_simp; (try (with_reducible rfl)))
        (try simp only [Act.put, List.setIfInBounds_toArray, List.set_cons_zero, List.set_cons_succ])
        refine wpAnyH_take (i := 1) (oi := ⟨_, _, _, _, _, _⟩) (v := ?v684) rfl (by kernel_rfl) (by kernel_rfl) (by kernel_rfl) (fun _ _ _ h => h) (Or.inl ⟨by rfl, ?hy684⟩) (by assumption) ?_
        case hy684 => (intro w hSw; (try dsimp only at hSw); go_simp; (try (with_reducible rfl)))
        (try simp only [Act.put, List.setIfInBounds_toArray, List.set_cons_zero, List.set_cons_succ])
        refine wpAnyH_take (i := 2) (oi := ⟨_, _, _, _, _, _⟩) (v := ?v685) rfl (by kernel_rfl) (by kernel_rfl) (by kernel_rfl) (fun _ _ _ h => h) (Or.inl ⟨by rfl, ?hy685⟩) (by assumption) ?_
        case hy685 => (intro w hSw; (try dsimp only at hSw); go_simp; (try (with_reducible rfl)))
        (try simp only [Act.put, List.setIfInBounds_toArray, List.set_cons_zero, List.set_cons_succ])
        refine wpAnyH_take (i := 3) (oi := ⟨_, _, _, _, _, _⟩) (v := ?v686) rfl (by kernel_rfl) (by kernel_rfl) (by kernel_rfl) (fun _ _ _ h => h) (Or.inl ⟨by rfl, ?hy686⟩) (by assumption) ?_
        case hy686 => (intro w hSw; (try dsimp only at hSw); go_simp; (try (with_reducible rfl)))
        (try simp only [Act.put, List.setIfInBounds_toArray, List.set_cons_zero, List.set_cons_succ])
        refine wpAnyH_take (i := 4) (oi := ⟨_, _, _, _, _, _⟩) (v := undef) rfl (by kernel_rfl) (by kernel_rfl) (by kernel_rfl) (fun _ _ _ h => h) (Or.inr ⟨by rfl, rfl⟩) (by assumption) ?_
        (try simp only [Act.put, List.setIfInBounds_toArray, List.set_cons_zero, List.set_cons_succ])
        refine wpAnyH_take (i := 5) (oi := ⟨_, _, _, _, _, _⟩) (v := undef) rfl (by kernel_rfl) (by kernel_rfl) (by kernel_rfl) (fun _ _ _ h => h) (Or.inr ⟨by rfl, rfl⟩) (by assumption) ?_
        (try simp only [Act.put, List.setIfInBounds_toArray, List.set_cons_zero, List.set_cons_succ])
        refine wpAnyH_take (i := 6) (oi := ⟨_, _, _, _, _, _⟩) (v := undef) rfl (by kernel_rfl) (by kernel_rfl) (by kernel_rfl) (fun _ _ _ h => h) (Or.inr ⟨by rfl, rfl⟩) (by assumption) ?_
        (try simp only [Act.put, List.setIfInBounds_toArray, List.set_cons_zero, List.set_cons_succ])
        refine wpAnyH_take (i := 7) (oi := ⟨_, _, _, _, _, _⟩) (v := undef) rfl (by kernel_rfl) (by kernel_rfl) (by kernel_rfl) (fun _ _ _ h => h) (Or.inr ⟨by rfl, rfl⟩) (by assumption) ?_
        (try simp only [Act.put, List.setIfInBounds_toArray, List.set_cons_zero, List.set_cons_succ])
        refine wpAnyH_take (i := 8) (oi := ⟨_, _, _, _, _, _⟩) (v := undef) rfl (by kernel_rfl) (by kernel_rfl) (by kernel_rfl) (fun _ _ _ h => h) (Or.inr ⟨by rfl, rfl⟩) (by assumption) ?_
        (try simp only [Act.put, List.setIfInBounds_toArray, List.set_cons_zero, List.set_cons_succ])
        refine wpAnyH_take (i := 9) (oi := ⟨_, _, _, _, _, _⟩) (v := undef) rfl (by kernel_rfl) (by kernel_rfl) (by kernel_rfl) (fun _ _ _ h => h) (Or.inr ⟨by rfl, rfl⟩) (by assumption) ?_
        (try simp only [Act.put, List.setIfInBounds_toArray, List.set_cons_zero, List.set_cons_succ])
        refine wpAnyH_take (i := 10) (oi := ⟨_, _, _, _, _, _⟩) (v := ?v687) rfl (by kernel_rfl) (by kernel_rfl) (by kernel_rfl) (fun _ _ _ h => h) (Or.inl ⟨by rfl, ?hy687⟩) (by assumption) ?_
        case hy687 => (intro w hSw; (try dsimp only at hSw); go_simp; (try (with_reducible rfl)))
        (try simp only [Act.put, List.setIfInBounds_toArray, List.set_cons_zero, List.set_cons_succ])
        refine wpAnyH_done (by kernel_rfl) ?_ _
        obtain ⟨u8, b0, b1, b2, b3, b4, b5, b6, r0, r1, r2, r3, r4, r5, r6⟩ := hHeld
        (repeat clear ‹Up w _ ∧ _›)
        have HSS := Lib.hid (And.intro u8 (And.intro b0 (And.intro b1 (And.intro b2 (And.intro b3 (And.intro b4 (And.intro b5 (And.intro b6 (And.intro r0 (And.intro r1 (And.intro r2 (And.intro r3 (And.intro r4 (And.intro r5 r6))))))))))))))
        clear u8 b0 b1 b2 b3 b4 b5 b6 r0 r1 r2 r3 r4 r5 r6
        go_wp2_with fail
        refine wp_region_held_drew (S := fun w' => Up w w' ∧ w'.cell? ⟨w.heap.size, 0, none⟩ = some (.int .i64 g) ∧ w'.cell? ⟨w.heap.size, 1, none⟩ = some (.int .i64 v) ∧ w'.cell? ⟨w.heap.size, 2, none⟩ = some (.int .i64 q) ∧ w'.cell? ⟨w.heap.size, 3, none⟩ = some (.int .i64 c) ∧ w'.cell? ⟨w.heap.size, 4, none⟩ = some (.int .i64 td) ∧ w'.cell? ⟨w.heap.size, 5, none⟩ = some (.int .i64 seq) ∧ w'.cell? ⟨w.heap.size, 6, none⟩ = some (.slice A n k) ∧ w'.cell? ⟨(w.heap.size + 1), 0, none⟩ = some (.int .i64 0) ∧ w'.cell? ⟨(w.heap.size + 1), 1, none⟩ = some (.int .i64 0) ∧ w'.cell? ⟨(w.heap.size + 1), 2, none⟩ = some (.int .i64 0) ∧ w'.cell? ⟨(w.heap.size + 1), 3, none⟩ = some (.int .i64 0) ∧ w'.cell? ⟨(w.heap.size + 1), 4, none⟩ = some (.int .i64 0) ∧ w'.cell? ⟨(w.heap.size + 1), 5, none⟩ = some (.int .i64 0) ∧ w'.cell? ⟨(w.heap.size + 1), 6, none⟩ = some (.slice none 0 0)) (by kernel_rfl) ?hB676 (fun hHeld => ?_)
        case hB676 => (first | (with_reducible assumption) | (with_reducible exact keepK14 (Lib.hid (Up.refl _).drew) HSS.out))
        refine wpAnyH_take (i := 0) (oi := ⟨_, _, _, _, _, _⟩) (v := ?v677) rfl (by kernel_rfl) (by kernel_rfl) (by kernel_rfl) (fun _ _ _ h => h) (Or.inl ⟨by rfl, ?hy677⟩) (by assumption) ?_
        case hy677 => (intro w hSw; (try dsimp only at hSw); go_simp; (try (with_reducible rfl)))
        (try simp only [Act.put, List.setIfInBounds_toArray, List.set_cons_zero, List.set_cons_succ])
        refine wpAnyH_take (i := 1) (oi := ⟨_, _, _, _, _, _⟩) (v := ?v678) rfl (by kernel_rfl) (by kernel_rfl) (by kernel_rfl) (fun _ _ _ h => h) (Or.inl ⟨by rfl, ?hy678⟩) (by assumption) ?_
        case hy678 => (intro w hSw; (try dsimp only at hSw); go_simp; (try (with_reducible rfl)))
        (try simp only [Act.put, List.setIfInBounds_toArray, List.set_cons_zero, List.set_cons_succ])
        refine wpAnyH_take (i := 2) (oi := ⟨_, _, _, _, _, _⟩) (v := ?v679) rfl (by kernel_rfl) (by kernel_rfl) (by kernel_rfl) (fun _ _ _ h => h) (Or.inl ⟨by rfl, ?hy679⟩) (by assumption) ?_
        case hy679 => (intro w hSw; (try dsimp only at hSw); go_simp; (try (with_reducible rfl)))
        (try simp only [Act.put, List.setIfInBounds_toArray, List.set_cons_zero, List.set_cons_succ])
        refine wpAnyH_take (i := 3) (oi := ⟨_, _, _, _, _, _⟩) (v := ?v680) rfl (by kernel_rfl) (by kernel_rfl) (by kernel_rfl) (fun _ _ _ h => h) (Or.inl ⟨by rfl, ?hy680⟩) (by assumption) ?_
        case hy680 => (intro w hSw; (try dsimp only at hSw); go_simp; (try (with_reducible rfl)))
        (try simp only [Act.put, List.setIfInBounds_toArray, List.set_cons_zero, List.set_cons_succ])
        refine wpAnyH_take (i := 4) (oi := ⟨_, _, _, _, _, _⟩) (v := undef) rfl (by kernel_rfl) (by kernel_rfl) (by kernel_rfl) (fun _ _ _ h => h) (Or.inr ⟨by rfl, rfl⟩) (by assumption) ?_
        (try simp only [Act.put, List.setIfInBounds_toArray, List.set_cons_zero, List.set_cons_succ])
        refine wpAnyH_take (i := 5) (oi := ⟨_, _, _, _, _, _⟩) (v := undef) rfl (by kernel_rfl) (by kernel_rfl) (by kernel_rfl) (fun _ _ _ h => h) (Or.inr ⟨by rfl, rfl⟩) (by assumption) ?_
        (try simp only [Act.put, List.setIfInBounds_toArray, List.set_cons_zero, List.set_cons_succ])
        refine wpAnyH_take (i := 6) (oi := ⟨_, _, _, _, _, _⟩) (v := undef) rfl (by kernel_rfl) (by kernel_rfl) (by kernel_rfl) (fun _ _ _ h => h) (Or.inr ⟨by rfl, rfl⟩) (by assumption) ?_
        (try simp only [Act.put, List.setIfInBounds_toArray, List.set_cons_zero, List.set_cons_succ])
        refine wpAnyH_take (i := 7) (oi := ⟨_, _, _, _, _, _⟩) (v := undef) rfl (by kernel_rfl) (by kernel_rfl) (by kernel_rfl) (fun _ _ _ h => h) (Or.inr ⟨by rfl, rfl⟩) (by assumption) ?_
        (try simp only [Act.put, List.setIfInBounds_toArray, List.set_cons_zero, List.set_cons_succ])
        refine wpAnyH_take (i := 8) (oi := ⟨_, _, _, _, _, _⟩) (v := undef) rfl (by kernel_rfl) (by kernel_rfl) (by kernel_rfl) (fun _ _ _ h => h) (Or.inr ⟨by rfl, rfl⟩) (by assumption) ?_
        (try simp only [Act.put, List.setIfInBounds_toArray, List.set_cons_zero, List.set_cons_succ])
        refine wpAnyH_take (i := 9) (oi := ⟨_, _, _, _, _, _⟩) (v := undef) rfl (by kernel_rfl) (by kernel_rfl) (by kernel_rfl) (fun _ _ _ h => h) (Or.inr ⟨by rfl, rfl⟩) (by assumption) ?_
        (try simp only [Act.put, List.setIfInBounds_toArray, List.set_cons_zero, List.set_cons_succ])
        refine wpAnyH_take (i := 10) (oi := ⟨_, _, _, _, _, _⟩) (v := ?v681) rfl (by kernel_rfl) (by kernel_rfl) (by kernel_rfl) (fun _ _ _ h => h) (Or.inl ⟨by rfl, ?hy681⟩) (by assumption) ?_
        case hy681 => (intro w hSw; (try dsimp only at hSw); go_simp; (try (with_reducible rfl)))
        (try simp only [Act.put, List.setIfInBounds_toArray, List.set_cons_zero, List.set_cons_succ])
        refine wpAnyH_done (by kernel_rfl) ?_ _
        obtain ⟨u8, b0, b1, b2, b3, b4, b5, b6, r0, r1, r2, r3, r4, r5, r6⟩ := hHeld
        (repeat clear ‹Up w _ ∧ _›)
        go_upto_region 13 with fail
        have hltW := World.block_lt_of_cell? _ _ r0
        obtain ⟨A2, k2, w2, hr, hO2, hU2⟩ := appendM 24 _ _ (.slice none 0 0) 0 [] (OG.nil _ _ _) (Up.refl _) B 0 kk [] (SG.none_) (by omega)
        simp only [Nat.zero_add, List.nil_append] at hr hO2
        have UU := u8.trans hU2
        have c00 := hU2.keep _ _ _ b0
        have c01 := hU2.keep _ _ _ b1
        have c02 := hU2.keep _ _ _ b2
        have c03 := hU2.keep _ _ _ b3
        have c04 := hU2.keep _ _ _ b4
        have c05 := hU2.keep _ _ _ b5
        have c06 := hU2.keep _ _ _ b6
        have c10 := hU2.keep _ _ _ r0
        have c11 := hU2.keep _ _ _ r1
        have c12 := hU2.keep _ _ _ r2
        have c13 := hU2.keep _ _ _ r3
        have c14 := hU2.keep _ _ _ r4
        have c15 := hU2.keep _ _ _ r5
        have c16 := hU2.keep _ _ _ r6
        have z06 := UU.ownGe (g := w.heap.size) (Nat.le_refl _) 6
        have z10 := UU.ownGe (g := w.heap.size + 1) (by omega) 0
        have z11 := UU.ownGe (g := w.heap.size + 1) (by omega) 1
        have z12 := UU.ownGe (g := w.heap.size + 1) (by omega) 2
        have z13 := UU.ownGe (g := w.heap.size + 1) (by omega) 3
        have z14 := UU.ownGe (g := w.heap.size + 1) (by omega) 4
        have z15 := UU.ownGe (g := w.heap.size + 1) (by omega) 5
        have z16 := UU.ownGe (g := w.heap.size + 1) (by omega) 6
        have UU := Lib.hid UU
        have HO2 := Lib.hid hO2
        have hlt := World.block_lt_of_cell? _ _ c10
        clear hO2 hU2 u8 b0 b1 b2 b3 b4 b5 b6 r0 r1 r2 r3 r4 r5 r6
        (repeat clear ‹Up w _ ∧ _›)
        go_wp2_with (refine wpList_append_run (o := ⟨some 55, _, _, _, _, _⟩) rfl (.const (.slice none 0 0)) (.tmp 54) _ rfl (.slice none 0 0) (.slice B 0 kk) rfl rfl _ _ hr ?_)
        have HNW := OG.nw HO2.out
        refine bodyPost_ret (v := .tuple #[.agg #[.int .i64 g, .int .i64 v, .int .i64 q, .int .i64 c, .int .i64 td, .int .i64 seq, .slice A2 0 k2], .int .i64 0]) (by simp [results, Try.results21, go_sem, c10, c11, c12, c13, c14, c15, c16]) rfl ⟨A2, 0, k2, rfl, by omega, (OG.sg HO2.out).1, fun b_ o_ h_ => by have := HNW b_ o_ h_; omega, ?_, ?_⟩
        · exact (UU.out.setCell (Nat.le_refl _) _).set7 (by omega)
        · exact ((OG.sg HO2.out).2.off (fun b_ o_ h_ => by have := HNW b_ o_ h_; omega) _).off7 (fun b_ o_ h_ => by have := HNW b_ o_ h_; omega) _ _ _ _ _ _ _
end Go.Proofs.Ytchikndofpkjmaa
