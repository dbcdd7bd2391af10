/- Package marks: New, Advance, Ends. -/
import Derived.Test.YtafkoddgefcpnaaRows
import Derived.Test.YtafkoddgefcpnaaZKValq177
namespace Go.Proofs.Ytafkoddgefcpnaa
open Go.RowKit
set_option linter.unusedVariables false

theorem drL_two {lv : Mrk → Bool} {a b : Mrk} {R : List Mrk} (h : lv b = false) : drL lv (a :: b :: R) = drL lv (b :: R) := by
  show (if lv b = true then a :: b :: R else drL lv (b :: R)) = _
  rw [h]; rfl
theorem drL_stop {lv : Mrk → Bool} {a b : Mrk} {R : List Mrk} (h : lv b = true) : drL lv (a :: b :: R) = a :: b :: R := by
  show (if lv b = true then a :: b :: R else drL lv (b :: R)) = _
  rw [h]; rfl
theorem drL_one {lv : Mrk → Bool} {a : Mrk} : drL lv [a] = if lv a = true then [a] else [] := rfl
theorem list_two {R : List Mrk} {m : Nat} (hl : R.length = m) (h : 1 < m) : ∃ a T, R = a :: R.getD 1 mk0 :: T ∧ R.drop 1 = R.getD 1 mk0 :: T := by
  match R, hl with
  | [], hl => simp at hl; omega
  | [a], hl => simp at hl; omega
  | a :: b :: T, _ => exact ⟨a, T, rfl, rfl⟩
theorem sliceM_run (A : Option Addr) (n k : Nat) (h : 1 ≤ n) (w : World) : (Instr.slice 24 (.slice A n k) (some (.int .i64 1)) none none).run Try.prog w = .ok (.slice (if k = 1 then A else A.map (·.add (1 * 7))) (n - 1) (k - 1)) w := by
  have qs := Try.sizeOf23
  have ht := Try.underlying24
  have h1 : (1 : Int) ≤ n := by omega
  simp [Instr.slice, run_underlying ht, Instr.sliceBounds, run_sliceBound, qs, h1]

set_option maxHeartbeats 4000000 in
set_option maxRecDepth 100000 in
theorem madv_good (g v q c now seq td : Int) (n k : Nat) (A : Option Addr) (X : List Mrk) (hn : n ≤ 50000) (hk : n ≤ k) (hn0 : tickB now = true) (h1 : now ≤ td) (h2 : td ≤ 16777216) (w : World) (hS : SG cM w A n X) :
    Calls Try.prog 69 #[.agg #[.int .i64 g, .int .i64 v, .int .i64 q, .int .i64 c, .int .i64 now, .int .i64 seq, .slice A n k], .int .i64 td] w fun e w' => ∃ A' n' k', e = .returned (.tuple #[.agg #[.int .i64 g, .int .i64 v, .int .i64 q, .int .i64 c, .int .i64 td, .int .i64 seq, .slice A' n' k'], .int .i64 0]) ∧ n' ≤ n ∧ n' ≤ k' ∧ Nw w A' ∧ Up w w' ∧ SG cM w' A' n' (drM td v X) := by
  have HS := Lib.hid hS
  have KB := Lib.hid (fun W => advance_any now td td 0 (adv_yes hn0 h1 h2) W)
  have HZ0 : Hid (drL (fun m => liveB td v m.t) X = drM td v X) := Lib.hid rfl
  clear hS hn0 h1 h2
  generalize drM td v X = Z at *
  have KL := Lib.hid (fun (P : Mrk) => isLive13_up g v q c td seq n k A P.sq P.t P.n P.s P.q P.lo P.hi)
  go_enter Try.func69, Try.ntmps69
  go_upto_region 5 with (go_at_call 110; (with_reducible refine (KB.out _).mono ?_); rintro e w2 ⟨rfl, rfl⟩)
  refine (show ∀ W2 : World, W2 = _ → Code.wp _ _ _ _ W2 from fun W2 hW2 => ?_) _ rfl
  have U2 : Up w W2 := by rw [hW2]; repeat (first | exact Up.refl _ | refine Up.alloc ?_ _ _ | refine Up.setCell ?_ (by first | (simp; done) | (simp; omega) | omega) _ | refine Up.drewN ?_ _ | refine Up.drew ?_)
  have b0 : W2.cell? ⟨w.heap.size, 0, none⟩ = some (.int .i64 g) := by rw [hW2]; simp [go_sem]
  have b1 : W2.cell? ⟨w.heap.size, 1, none⟩ = some (.int .i64 v) := by rw [hW2]; simp [go_sem]
  have b2 : W2.cell? ⟨w.heap.size, 2, none⟩ = some (.int .i64 q) := by rw [hW2]; simp [go_sem]
  have b3 : W2.cell? ⟨w.heap.size, 3, none⟩ = some (.int .i64 c) := by rw [hW2]; simp [go_sem]
  have b4 : W2.cell? ⟨w.heap.size, 4, none⟩ = some (.int .i64 td) := by rw [hW2]; simp [go_sem]
  have b5 : W2.cell? ⟨w.heap.size, 5, none⟩ = some (.int .i64 seq) := by rw [hW2]; simp [go_sem]
  have b6 : W2.cell? ⟨w.heap.size, 6, none⟩ = some (.slice A n k) := by rw [hW2]; simp [go_sem]
  have r0 : W2.cell? ⟨w.heap.size + 1, 0, none⟩ = some (.int .i64 0) := by rw [hW2]; simp [go_sem]
  have r1 : W2.cell? ⟨w.heap.size + 1, 1, none⟩ = some (.int .i64 0) := by rw [hW2]; simp [go_sem]
  have r2 : W2.cell? ⟨w.heap.size + 1, 2, none⟩ = some (.int .i64 0) := by rw [hW2]; simp [go_sem]
  have r3 : W2.cell? ⟨w.heap.size + 1, 3, none⟩ = some (.int .i64 0) := by rw [hW2]; simp [go_sem]
  have r4 : W2.cell? ⟨w.heap.size + 1, 4, none⟩ = some (.int .i64 0) := by rw [hW2]; simp [go_sem]
  have r5 : W2.cell? ⟨w.heap.size + 1, 5, none⟩ = some (.int .i64 0) := by rw [hW2]; simp [go_sem]
  have r6 : W2.cell? ⟨w.heap.size + 1, 6, none⟩ = some (.slice none 0 0) := by rw [hW2]; simp [go_sem]
  clear hW2 KB
  have HW0 : Hid (Up w W2 ∧ W2.cell? ⟨w.heap.size, 0, none⟩ = some (.int .i64 g) ∧ W2.cell? ⟨w.heap.size, 1, none⟩ = some (.int .i64 v) ∧ W2.cell? ⟨w.heap.size, 2, none⟩ = some (.int .i64 q) ∧ W2.cell? ⟨w.heap.size, 3, none⟩ = some (.int .i64 c) ∧ W2.cell? ⟨w.heap.size, 4, none⟩ = some (.int .i64 td) ∧ W2.cell? ⟨w.heap.size, 5, none⟩ = some (.int .i64 seq) ∧ W2.cell? ⟨w.heap.size, 6, none⟩ = some (.slice A n k) ∧ W2.cell? ⟨(w.heap.size + 1), 0, none⟩ = some (.int .i64 0) ∧ W2.cell? ⟨(w.heap.size + 1), 1, none⟩ = some (.int .i64 0) ∧ W2.cell? ⟨(w.heap.size + 1), 2, none⟩ = some (.int .i64 0) ∧ W2.cell? ⟨(w.heap.size + 1), 3, none⟩ = some (.int .i64 0) ∧ W2.cell? ⟨(w.heap.size + 1), 4, none⟩ = some (.int .i64 0) ∧ W2.cell? ⟨(w.heap.size + 1), 5, none⟩ = some (.int .i64 0) ∧ W2.cell? ⟨(w.heap.size + 1), 6, none⟩ = some (.slice none 0 0)) := Lib.hid ⟨U2, b0, b1, b2, b3, b4, b5, b6, r0, r1, r2, r3, r4, r5, r6⟩
  go_wp2_with fail
  clear U2 b0 b1 b2 b3 b4 b5 b6 r0 r1 r2 r3 r4 r5 r6
  go_loopw [7] (fun t8 wr => ∃ (m kk : Nat) (B : Option Addr) (R : List Mrk), t8 = .slice B m kk ∧ m ≤ kk ∧ m ≤ n ∧ Hid (SG cM w B m R) ∧ Hid (drL (fun m => liveB td v m.t) R = Z) ∧ Hid (Up w wr ∧ wr.cell? ⟨w.heap.size, 0, none⟩ = some (.int .i64 g) ∧ wr.cell? ⟨w.heap.size, 1, none⟩ = some (.int .i64 v) ∧ wr.cell? ⟨w.heap.size, 2, none⟩ = some (.int .i64 q) ∧ wr.cell? ⟨w.heap.size, 3, none⟩ = some (.int .i64 c) ∧ wr.cell? ⟨w.heap.size, 4, none⟩ = some (.int .i64 td) ∧ wr.cell? ⟨w.heap.size, 5, none⟩ = some (.int .i64 seq) ∧ wr.cell? ⟨w.heap.size, 6, none⟩ = some (.slice A n k) ∧ wr.cell? ⟨(w.heap.size + 1), 0, none⟩ = some (.int .i64 0) ∧ wr.cell? ⟨(w.heap.size + 1), 1, none⟩ = some (.int .i64 0) ∧ wr.cell? ⟨(w.heap.size + 1), 2, none⟩ = some (.int .i64 0) ∧ wr.cell? ⟨(w.heap.size + 1), 3, none⟩ = some (.int .i64 0) ∧ wr.cell? ⟨(w.heap.size + 1), 4, none⟩ = some (.int .i64 0) ∧ wr.cell? ⟨(w.heap.size + 1), 5, none⟩ = some (.int .i64 0) ∧ wr.cell? ⟨(w.heap.size + 1), 6, none⟩ = some (.slice none 0 0))) (fun t8 _ => lnS t8)
  case atStart => exact ⟨n, k, A, X, rfl, hk, Nat.le_refl _, HS, HZ0, HW0⟩
  case round =>
    clear HW0
    obtain ⟨m, kk, B, R, rfl, hmk, hmn, HR, HZ, HW⟩ := hrel
    obtain ⟨u7, b0, b1, b2, b3, b4, b5, b6, r0, r1, r2, r3, r4, r5, r6⟩ := HW.out
    by_cases h1 : 1 < m
    · obtain ⟨a, T, e1, e2⟩ := list_two HR.out.1 h1
      have hc := HR.out.cut cM_len (k := 1) (cap := kk) (by omega) hmk
      obtain ⟨b, o, rfl, d0, d1, d2, d3, d4, d5, d6⟩ := mrk_at (HR.out.up u7) mk0 h1
      have HC : Hid (SG cM w (some ⟨b, o + 7, none⟩) (m - 1) (R.drop 1)) := Lib.hid (by
        rw [if_neg (show ¬ kk = 1 by omega)] at hc
        simpa [add_at] using hc)
      have hrun := sliceM_run (some ⟨b, o, none⟩) m kk (by omega)
      have HE : Hid (liveB td v (R.getD 1 mk0).t = false → drL (fun m => liveB td v m.t) (R.drop 1) = Z) := Lib.hid (fun h => by
        rw [← HZ.out, e2]; conv => rhs; rw [e1]
        exact (drL_two h).symm)
      have HE2 : Hid (liveB td v (R.getD 1 mk0).t = true → R = Z) := Lib.hid (fun h => by
        rw [← HZ.out]; conv => rhs; rw [e1]
        rw [drL_stop h]; exact e1)
      clear e1 e2 hc
      have KJ := Lib.hid (KL.out (R.getD 1 mk0))
      generalize R.getD 1 mk0 = M1 at *
      obtain ⟨sq, t, nn, s, qq, lo, hi⟩ := M1
      simp only at d0 d1 d2 d3 d4 d5 d6 HE HE2 KJ
      have z1 : (1 : Int) < m := by omega
      have z2 : ¬ ((m : Int) = 1) := by omega
      have z3 : ((m : Int) == 1) = false := beq_eq_false_iff_ne.2 z2
      simp only [Nat.one_mul] at d0 d1 d2 d3 d4 d5 d6
      have HSS : Hid (Up w wr ∧ wr.cell? ⟨w.heap.size, 0, none⟩ = some (.int .i64 g) ∧ wr.cell? ⟨w.heap.size, 1, none⟩ = some (.int .i64 v) ∧ wr.cell? ⟨w.heap.size, 2, none⟩ = some (.int .i64 q) ∧ wr.cell? ⟨w.heap.size, 3, none⟩ = some (.int .i64 c) ∧ wr.cell? ⟨w.heap.size, 4, none⟩ = some (.int .i64 td) ∧ wr.cell? ⟨w.heap.size, 5, none⟩ = some (.int .i64 seq) ∧ wr.cell? ⟨w.heap.size, 6, none⟩ = some (.slice A n k) ∧ wr.cell? ⟨(w.heap.size + 1), 0, none⟩ = some (.int .i64 0) ∧ wr.cell? ⟨(w.heap.size + 1), 1, none⟩ = some (.int .i64 0) ∧ wr.cell? ⟨(w.heap.size + 1), 2, none⟩ = some (.int .i64 0) ∧ wr.cell? ⟨(w.heap.size + 1), 3, none⟩ = some (.int .i64 0) ∧ wr.cell? ⟨(w.heap.size + 1), 4, none⟩ = some (.int .i64 0) ∧ wr.cell? ⟨(w.heap.size + 1), 5, none⟩ = some (.int .i64 0) ∧ wr.cell? ⟨(w.heap.size + 1), 6, none⟩ = some (.slice none 0 0) ∧ wr.cell? ⟨b, o + 7, none⟩ = some (.int .i64 sq) ∧ wr.cell? ⟨b, o + 7 + 1, none⟩ = some (.int .i64 t) ∧ wr.cell? ⟨b, o + 7 + 2, none⟩ = some (.int .i64 nn) ∧ wr.cell? ⟨b, o + 7 + 3, none⟩ = some (.int .i64 s) ∧ wr.cell? ⟨b, o + 7 + 4, none⟩ = some (.int .i64 qq) ∧ wr.cell? ⟨b, o + 7 + 5, none⟩ = some (.int .i64 lo) ∧ wr.cell? ⟨b, o + 7 + 6, none⟩ = some (.int .i64 hi)) := Lib.hid ⟨u7, b0, b1, b2, b3, b4, b5, b6, r0, r1, r2, r3, r4, r5, r6, d0, d1, d2, d3, d4, d5, d6⟩
      clear u7 b0 b1 b2 b3 b4 b5 b6 r0 r1 r2 r3 r4 r5 r6 d0 d1 d2 d3 d4 d5 d6
      cases hl : liveB td v t with
      | false =>
        have HE := Lib.hid (HE.out hl)
        rw [hl] at KJ
        clear hl HE2
        go_wp2_with fail
        refine wp_region_held_drew (S := fun w' => Up w w' ∧ w'.cell? ⟨w.heap.size, 0, none⟩ = some (.int .i64 g) ∧ w'.cell? ⟨w.heap.size, 1, none⟩ = some (.int .i64 v) ∧ w'.cell? ⟨w.heap.size, 2, none⟩ = some (.int .i64 q) ∧ w'.cell? ⟨w.heap.size, 3, none⟩ = some (.int .i64 c) ∧ w'.cell? ⟨w.heap.size, 4, none⟩ = some (.int .i64 td) ∧ w'.cell? ⟨w.heap.size, 5, none⟩ = some (.int .i64 seq) ∧ w'.cell? ⟨w.heap.size, 6, none⟩ = some (.slice A n k) ∧ w'.cell? ⟨(w.heap.size + 1), 0, none⟩ = some (.int .i64 0) ∧ w'.cell? ⟨(w.heap.size + 1), 1, none⟩ = some (.int .i64 0) ∧ w'.cell? ⟨(w.heap.size + 1), 2, none⟩ = some (.int .i64 0) ∧ w'.cell? ⟨(w.heap.size + 1), 3, none⟩ = some (.int .i64 0) ∧ w'.cell? ⟨(w.heap.size + 1), 4, none⟩ = some (.int .i64 0) ∧ w'.cell? ⟨(w.heap.size + 1), 5, none⟩ = some (.int .i64 0) ∧ w'.cell? ⟨(w.heap.size + 1), 6, none⟩ = some (.slice none 0 0) ∧ w'.cell? ⟨b, o + 7, none⟩ = some (.int .i64 sq) ∧ w'.cell? ⟨b, o + 7 + 1, none⟩ = some (.int .i64 t) ∧ w'.cell? ⟨b, o + 7 + 2, none⟩ = some (.int .i64 nn) ∧ w'.cell? ⟨b, o + 7 + 3, none⟩ = some (.int .i64 s) ∧ w'.cell? ⟨b, o + 7 + 4, none⟩ = some (.int .i64 qq) ∧ w'.cell? ⟨b, o + 7 + 5, none⟩ = some (.int .i64 lo) ∧ w'.cell? ⟨b, o + 7 + 6, none⟩ = some (.int .i64 hi)) (by kernel_rfl) ?hB1 (fun hHeld => ?_)
        case hB1 => (first | (with_reducible assumption) | (with_reducible exact keepK21 (Lib.hid (Up.refl _).drew) HSS.out) | (with_reducible exact HX3.out))
        refine wpAnyH_take (i := 0) (oi := ⟨_, _, _, _, _, _⟩) (v := ?v2) rfl (by kernel_rfl) (by kernel_rfl) (by kernel_rfl) (fun _ _ _ h => h) (Or.inl ⟨by rfl, ?hy2⟩) (by assumption) ?_
        case hy2 => (intro w hSw; (try dsimp only at hSw); go_simp; (try (with_reducible rfl)))
        (try simp only [Act.put, List.setIfInBounds_toArray, List.set_cons_zero, List.set_cons_succ])
        refine wpAnyH_take (i := 1) (oi := ⟨_, _, _, _, _, _⟩) (v := ?v3) rfl (by kernel_rfl) (by kernel_rfl) (by kernel_rfl) (fun _ _ _ h => h) (Or.inl ⟨by rfl, ?hy3⟩) (by assumption) ?_
        case hy3 => (intro w hSw; (try dsimp only at hSw); go_simp; (try (with_reducible rfl)))
        (try simp only [Act.put, List.setIfInBounds_toArray, List.set_cons_zero, List.set_cons_succ])
        refine wpAnyH_take (i := 2) (oi := ⟨_, _, _, _, _, _⟩) (v := ?v4) rfl (by kernel_rfl) (by kernel_rfl) (by kernel_rfl) (fun _ _ _ h => h) (Or.inl ⟨by rfl, ?hy4⟩) (by assumption) ?_
        case hy4 => (intro w hSw; (try dsimp only at hSw); go_simp; (try (with_reducible rfl)))
        (try simp only [Act.put, List.setIfInBounds_toArray, List.set_cons_zero, List.set_cons_succ])
        refine wpAnyH_take (i := 3) (oi := ⟨_, _, _, _, _, _⟩) (v := ?v5) rfl (by kernel_rfl) (by kernel_rfl) (by kernel_rfl) (fun _ _ _ h => h) (Or.inl ⟨by rfl, ?hy5⟩) (by assumption) ?_
        case hy5 => (intro w hSw; (try dsimp only at hSw); go_simp; (try (with_reducible rfl)))
        (try simp only [Act.put, List.setIfInBounds_toArray, List.set_cons_zero, List.set_cons_succ])
        refine wpAnyH_take (i := 4) (oi := ⟨_, _, _, _, _, _⟩) (v := ?v6) rfl (by kernel_rfl) (by kernel_rfl) (by kernel_rfl) (fun _ _ _ h => h) (Or.inl ⟨by rfl, ?hy6⟩) (by assumption) ?_
        case hy6 => (intro w hSw; (try dsimp only at hSw); go_simp; (try (with_reducible rfl)))
        (try simp only [Act.put, List.setIfInBounds_toArray, List.set_cons_zero, List.set_cons_succ])
        refine wpAnyH_take (i := 5) (oi := ⟨_, _, _, _, _, _⟩) (v := ?v7) rfl (by kernel_rfl) (by kernel_rfl) (by kernel_rfl) (fun _ _ _ h => h) (Or.inl ⟨by rfl, ?hy7⟩) (by assumption) ?_
        case hy7 => (intro w hSw; (try dsimp only at hSw); go_simp; (try (with_reducible rfl)))
        (try simp only [Act.put, List.setIfInBounds_toArray, List.set_cons_zero, List.set_cons_succ])
        refine wpAnyH_take (i := 6) (oi := ⟨_, _, _, _, _, _⟩) (v := ?v8) rfl (by kernel_rfl) (by kernel_rfl) (by kernel_rfl) (fun _ _ _ h => h) (Or.inl ⟨by rfl, ?hy8⟩) (by assumption) ?_
        case hy8 => (intro w hSw; (try dsimp only at hSw); go_simp; (try (with_reducible rfl)))
        (try simp only [Act.put, List.setIfInBounds_toArray, List.set_cons_zero, List.set_cons_succ])
        refine wpAnyH_take (i := 7) (oi := ⟨_, _, _, _, _, _⟩) (v := ?v9) rfl (by kernel_rfl) (by kernel_rfl) (by kernel_rfl) (fun _ _ _ h => h) (Or.inl ⟨by rfl, ?hy9⟩) (by assumption) ?_
        case hy9 => (intro w hSw; (try dsimp only at hSw); go_simp; (try (with_reducible rfl)))
        (try simp only [Act.put, List.setIfInBounds_toArray, List.set_cons_zero, List.set_cons_succ])
        refine wpAnyH_ready (rs := [8]) (by kernel_rfl) (by simp) ?_
        refine AllReadyH.cons (o := ⟨_, _, _, _, _, _⟩) rfl (fun K hK => ?_) AllReadyH.nil
        go_simp
        (go_at_call 111; (with_reducible refine (KJ.out _).mono ?_); rintro e w3 ⟨rfl, hu⟩; have HU3 := Lib.hid hu; have HX3 := Lib.hid (keepK21 HU3 hHeld); clear hu)
        (try go_wp2_with fail)
        refine hK.out _ _ ?hB10 (fun hHeld => ?_)
        case hB10 => (first | (with_reducible assumption) | (with_reducible exact keepK21 (Lib.hid (Up.refl _).drew) HSS.out) | (with_reducible exact HX3.out))
        clear hK K
        (try simp only [Act.put, List.setIfInBounds_toArray, List.set_cons_zero, List.set_cons_succ])
        refine wpAnyH_take (i := 9) (oi := ⟨_, _, _, _, _, _⟩) (v := ?v11) rfl (by kernel_rfl) (by kernel_rfl) (by kernel_rfl) (fun _ _ _ h => h) (Or.inl ⟨by rfl, ?hy11⟩) (by assumption) ?_
        case hy11 => (intro w hSw; (try dsimp only at hSw); go_simp; (try (with_reducible rfl)))
        (try simp only [Act.put, List.setIfInBounds_toArray, List.set_cons_zero, List.set_cons_succ])
        refine wpAnyH_take (i := 10) (oi := ⟨_, _, _, _, _, _⟩) (v := ?v12) rfl (by kernel_rfl) (by kernel_rfl) (by kernel_rfl) (fun _ _ _ h => h) (Or.inl ⟨by rfl, ?hy12⟩) (by assumption) ?_
        case hy12 => (intro w hSw; (try dsimp only at hSw); go_simp; (try (with_reducible rfl)))
        (try simp only [Act.put, List.setIfInBounds_toArray, List.set_cons_zero, List.set_cons_succ])
        refine wpAnyH_done (by kernel_rfl) ?_ _
        obtain ⟨u8, b0, b1, b2, b3, b4, b5, b6, r0, r1, r2, r3, r4, r5, r6, _⟩ := hHeld
        (repeat clear ‹Up w _ ∧ _›)
        have HWn := Lib.hid (And.intro u8 (And.intro b0 (And.intro b1 (And.intro b2 (And.intro b3 (And.intro b4 (And.intro b5 (And.intro b6 (And.intro r0 (And.intro r1 (And.intro r2 (And.intro r3 (And.intro r4 (And.intro r5 r6))))))))))))))
        clear u8 b0 b1 b2 b3 b4 b5 b6 r0 r1 r2 r3 r4 r5 r6
        go_wp2_with fail
        go_roundw
        case rel => exact ⟨m - 1, kk - 1, some ⟨b, o + 7, none⟩, R.drop 1, rfl, by omega, by omega, HC, HE, HWn⟩
        case measure => simp [lnS]; omega
      | true =>
        obtain rfl : R = Z := HE2.out hl
        rw [hl] at KJ
        clear hl HE hrun
        go_wp2_with fail
        refine wp_region_held_drew (S := fun w' => Up w w' ∧ w'.cell? ⟨w.heap.size, 0, none⟩ = some (.int .i64 g) ∧ w'.cell? ⟨w.heap.size, 1, none⟩ = some (.int .i64 v) ∧ w'.cell? ⟨w.heap.size, 2, none⟩ = some (.int .i64 q) ∧ w'.cell? ⟨w.heap.size, 3, none⟩ = some (.int .i64 c) ∧ w'.cell? ⟨w.heap.size, 4, none⟩ = some (.int .i64 td) ∧ w'.cell? ⟨w.heap.size, 5, none⟩ = some (.int .i64 seq) ∧ w'.cell? ⟨w.heap.size, 6, none⟩ = some (.slice A n k) ∧ w'.cell? ⟨(w.heap.size + 1), 0, none⟩ = some (.int .i64 0) ∧ w'.cell? ⟨(w.heap.size + 1), 1, none⟩ = some (.int .i64 0) ∧ w'.cell? ⟨(w.heap.size + 1), 2, none⟩ = some (.int .i64 0) ∧ w'.cell? ⟨(w.heap.size + 1), 3, none⟩ = some (.int .i64 0) ∧ w'.cell? ⟨(w.heap.size + 1), 4, none⟩ = some (.int .i64 0) ∧ w'.cell? ⟨(w.heap.size + 1), 5, none⟩ = some (.int .i64 0) ∧ w'.cell? ⟨(w.heap.size + 1), 6, none⟩ = some (.slice none 0 0) ∧ w'.cell? ⟨b, o + 7, none⟩ = some (.int .i64 sq) ∧ w'.cell? ⟨b, o + 7 + 1, none⟩ = some (.int .i64 t) ∧ w'.cell? ⟨b, o + 7 + 2, none⟩ = some (.int .i64 nn) ∧ w'.cell? ⟨b, o + 7 + 3, none⟩ = some (.int .i64 s) ∧ w'.cell? ⟨b, o + 7 + 4, none⟩ = some (.int .i64 qq) ∧ w'.cell? ⟨b, o + 7 + 5, none⟩ = some (.int .i64 lo) ∧ w'.cell? ⟨b, o + 7 + 6, none⟩ = some (.int .i64 hi)) (by kernel_rfl) ?hB19 (fun hHeld => ?_)
        case hB19 => (first | (with_reducible assumption) | (with_reducible exact keepK21 (Lib.hid (Up.refl _).drew) HSS.out) | (with_reducible exact HX3.out))
        refine wpAnyH_take (i := 0) (oi := ⟨_, _, _, _, _, _⟩) (v := ?v20) rfl (by kernel_rfl) (by kernel_rfl) (by kernel_rfl) (fun _ _ _ h => h) (Or.inl ⟨by rfl, ?hy20⟩) (by assumption) ?_
        case hy20 => (intro w hSw; (try dsimp only at hSw); go_simp; (try (with_reducible rfl)))
        (try simp only [Act.put, List.setIfInBounds_toArray, List.set_cons_zero, List.set_cons_succ])
        refine wpAnyH_take (i := 1) (oi := ⟨_, _, _, _, _, _⟩) (v := ?v21) rfl (by kernel_rfl) (by kernel_rfl) (by kernel_rfl) (fun _ _ _ h => h) (Or.inl ⟨by rfl, ?hy21⟩) (by assumption) ?_
        case hy21 => (intro w hSw; (try dsimp only at hSw); go_simp; (try (with_reducible rfl)))
        (try simp only [Act.put, List.setIfInBounds_toArray, List.set_cons_zero, List.set_cons_succ])
        refine wpAnyH_take (i := 2) (oi := ⟨_, _, _, _, _, _⟩) (v := ?v22) rfl (by kernel_rfl) (by kernel_rfl) (by kernel_rfl) (fun _ _ _ h => h) (Or.inl ⟨by rfl, ?hy22⟩) (by assumption) ?_
        case hy22 => (intro w hSw; (try dsimp only at hSw); go_simp; (try (with_reducible rfl)))
        (try simp only [Act.put, List.setIfInBounds_toArray, List.set_cons_zero, List.set_cons_succ])
        refine wpAnyH_take (i := 3) (oi := ⟨_, _, _, _, _, _⟩) (v := ?v23) rfl (by kernel_rfl) (by kernel_rfl) (by kernel_rfl) (fun _ _ _ h => h) (Or.inl ⟨by rfl, ?hy23⟩) (by assumption) ?_
        case hy23 => (intro w hSw; (try dsimp only at hSw); go_simp; (try (with_reducible rfl)))
        (try simp only [Act.put, List.setIfInBounds_toArray, List.set_cons_zero, List.set_cons_succ])
        refine wpAnyH_take (i := 4) (oi := ⟨_, _, _, _, _, _⟩) (v := ?v24) rfl (by kernel_rfl) (by kernel_rfl) (by kernel_rfl) (fun _ _ _ h => h) (Or.inl ⟨by rfl, ?hy24⟩) (by assumption) ?_
        case hy24 => (intro w hSw; (try dsimp only at hSw); go_simp; (try (with_reducible rfl)))
        (try simp only [Act.put, List.setIfInBounds_toArray, List.set_cons_zero, List.set_cons_succ])
        refine wpAnyH_take (i := 5) (oi := ⟨_, _, _, _, _, _⟩) (v := ?v25) rfl (by kernel_rfl) (by kernel_rfl) (by kernel_rfl) (fun _ _ _ h => h) (Or.inl ⟨by rfl, ?hy25⟩) (by assumption) ?_
        case hy25 => (intro w hSw; (try dsimp only at hSw); go_simp; (try (with_reducible rfl)))
        (try simp only [Act.put, List.setIfInBounds_toArray, List.set_cons_zero, List.set_cons_succ])
        refine wpAnyH_take (i := 6) (oi := ⟨_, _, _, _, _, _⟩) (v := ?v26) rfl (by kernel_rfl) (by kernel_rfl) (by kernel_rfl) (fun _ _ _ h => h) (Or.inl ⟨by rfl, ?hy26⟩) (by assumption) ?_
        case hy26 => (intro w hSw; (try dsimp only at hSw); go_simp; (try (with_reducible rfl)))
        (try simp only [Act.put, List.setIfInBounds_toArray, List.set_cons_zero, List.set_cons_succ])
        refine wpAnyH_take (i := 7) (oi := ⟨_, _, _, _, _, _⟩) (v := ?v27) rfl (by kernel_rfl) (by kernel_rfl) (by kernel_rfl) (fun _ _ _ h => h) (Or.inl ⟨by rfl, ?hy27⟩) (by assumption) ?_
        case hy27 => (intro w hSw; (try dsimp only at hSw); go_simp; (try (with_reducible rfl)))
        (try simp only [Act.put, List.setIfInBounds_toArray, List.set_cons_zero, List.set_cons_succ])
        refine wpAnyH_ready (rs := [8]) (by kernel_rfl) (by simp) ?_
        refine AllReadyH.cons (o := ⟨_, _, _, _, _, _⟩) rfl (fun K hK => ?_) AllReadyH.nil
        go_simp
        (go_at_call 111; (with_reducible refine (KJ.out _).mono ?_); rintro e w3 ⟨rfl, hu⟩; have HU3 := Lib.hid hu; have HX3 := Lib.hid (keepK21 HU3 hHeld); clear hu)
        (try go_wp2_with fail)
        refine hK.out _ _ ?hB28 (fun hHeld => ?_)
        case hB28 => (first | (with_reducible assumption) | (with_reducible exact keepK21 (Lib.hid (Up.refl _).drew) HSS.out) | (with_reducible exact HX3.out))
        clear hK K
        (try simp only [Act.put, List.setIfInBounds_toArray, List.set_cons_zero, List.set_cons_succ])
        refine wpAnyH_take (i := 9) (oi := ⟨_, _, _, _, _, _⟩) (v := ?v29) rfl (by kernel_rfl) (by kernel_rfl) (by kernel_rfl) (fun _ _ _ h => h) (Or.inl ⟨by rfl, ?hy29⟩) (by assumption) ?_
        case hy29 => (intro w hSw; (try dsimp only at hSw); go_simp; (try (with_reducible rfl)))
        (try simp only [Act.put, List.setIfInBounds_toArray, List.set_cons_zero, List.set_cons_succ])
        refine wpAnyH_take (i := 10) (oi := ⟨_, _, _, _, _, _⟩) (v := ?v30) rfl (by kernel_rfl) (by kernel_rfl) (by kernel_rfl) (fun _ _ _ h => h) (Or.inl ⟨by rfl, ?hy30⟩) (by assumption) ?_
        case hy30 => (intro w hSw; (try dsimp only at hSw); go_simp; (try (with_reducible rfl)))
        (try simp only [Act.put, List.setIfInBounds_toArray, List.set_cons_zero, List.set_cons_succ])
        refine wpAnyH_done (by kernel_rfl) ?_ _
        obtain ⟨u8, b0, b1, b2, b3, b4, b5, b6, r0, r1, r2, r3, r4, r5, r6, _⟩ := hHeld
        (repeat clear ‹Up w _ ∧ _›)
        have HSS := Lib.hid (And.intro u8 (And.intro b0 (And.intro b1 (And.intro b2 (And.intro b3 (And.intro b4 (And.intro b5 (And.intro b6 (And.intro r0 (And.intro r1 (And.intro r2 (And.intro r3 (And.intro r4 (And.intro r5 r6))))))))))))))
        clear u8 b0 b1 b2 b3 b4 b5 b6 r0 r1 r2 r3 r4 r5 r6 HU3
        go_wp2_with fail
        refine wp_region_held_drew (S := fun w' => Up w w' ∧ w'.cell? ⟨w.heap.size, 0, none⟩ = some (.int .i64 g) ∧ w'.cell? ⟨w.heap.size, 1, none⟩ = some (.int .i64 v) ∧ w'.cell? ⟨w.heap.size, 2, none⟩ = some (.int .i64 q) ∧ w'.cell? ⟨w.heap.size, 3, none⟩ = some (.int .i64 c) ∧ w'.cell? ⟨w.heap.size, 4, none⟩ = some (.int .i64 td) ∧ w'.cell? ⟨w.heap.size, 5, none⟩ = some (.int .i64 seq) ∧ w'.cell? ⟨w.heap.size, 6, none⟩ = some (.slice A n k) ∧ w'.cell? ⟨(w.heap.size + 1), 0, none⟩ = some (.int .i64 0) ∧ w'.cell? ⟨(w.heap.size + 1), 1, none⟩ = some (.int .i64 0) ∧ w'.cell? ⟨(w.heap.size + 1), 2, none⟩ = some (.int .i64 0) ∧ w'.cell? ⟨(w.heap.size + 1), 3, none⟩ = some (.int .i64 0) ∧ w'.cell? ⟨(w.heap.size + 1), 4, none⟩ = some (.int .i64 0) ∧ w'.cell? ⟨(w.heap.size + 1), 5, none⟩ = some (.int .i64 0) ∧ w'.cell? ⟨(w.heap.size + 1), 6, none⟩ = some (.slice none 0 0)) (by kernel_rfl) ?hB13 (fun hHeld => ?_)
        case hB13 => (first | (with_reducible assumption) | (with_reducible exact keepK14 (Lib.hid (Up.refl _).drew) HSS.out))
        refine wpAnyH_take (i := 0) (oi := ⟨_, _, _, _, _, _⟩) (v := ?v14) rfl (by kernel_rfl) (by kernel_rfl) (by kernel_rfl) (fun _ _ _ h => h) (Or.inl ⟨by rfl, ?hy14⟩) (by assumption) ?_
        case hy14 => (intro w hSw; (try dsimp only at hSw); go_simp; (try (with_reducible rfl)))
        (try simp only [Act.put, List.setIfInBounds_toArray, List.set_cons_zero, List.set_cons_succ])
        refine wpAnyH_take (i := 1) (oi := ⟨_, _, _, _, _, _⟩) (v := ?v15) rfl (by kernel_rfl) (by kernel_rfl) (by kernel_rfl) (fun _ _ _ h => h) (Or.inl ⟨by rfl, ?hy15⟩) (by assumption) ?_
        case hy15 => (intro w hSw; (try dsimp only at hSw); go_simp; (try (with_reducible rfl)))
        (try simp only [Act.put, List.setIfInBounds_toArray, List.set_cons_zero, List.set_cons_succ])
        refine wpAnyH_take (i := 2) (oi := ⟨_, _, _, _, _, _⟩) (v := ?v16) rfl (by kernel_rfl) (by kernel_rfl) (by kernel_rfl) (fun _ _ _ h => h) (Or.inl ⟨by rfl, ?hy16⟩) (by assumption) ?_
        case hy16 => (intro w hSw; (try dsimp only at hSw); go_simp; (try (with_reducible rfl)))
        (try simp only [Act.put, List.setIfInBounds_toArray, List.set_cons_zero, List.set_cons_succ])
        refine wpAnyH_take (i := 3) (oi := ⟨_, _, _, _, _, _⟩) (v := ?v17) rfl (by kernel_rfl) (by kernel_rfl) (by kernel_rfl) (fun _ _ _ h => h) (Or.inl ⟨by rfl, ?hy17⟩) (by assumption) ?_
        case hy17 => (intro w hSw; (try dsimp only at hSw); go_simp; (try (with_reducible rfl)))
        (try simp only [Act.put, List.setIfInBounds_toArray, List.set_cons_zero, List.set_cons_succ])
        refine wpAnyH_take (i := 4) (oi := ⟨_, _, _, _, _, _⟩) (v := undef) rfl (by kernel_rfl) (by kernel_rfl) (by kernel_rfl) (fun _ _ _ h => h) (Or.inr ⟨by rfl, rfl⟩) (by assumption) ?_
        (try simp only [Act.put, List.setIfInBounds_toArray, List.set_cons_zero, List.set_cons_succ])
        refine wpAnyH_take (i := 5) (oi := ⟨_, _, _, _, _, _⟩) (v := undef) rfl (by kernel_rfl) (by kernel_rfl) (by kernel_rfl) (fun _ _ _ h => h) (Or.inr ⟨by rfl, rfl⟩) (by assumption) ?_
        (try simp only [Act.put, List.setIfInBounds_toArray, List.set_cons_zero, List.set_cons_succ])
        refine wpAnyH_take (i := 6) (oi := ⟨_, _, _, _, _, _⟩) (v := undef) rfl (by kernel_rfl) (by kernel_rfl) (by kernel_rfl) (fun _ _ _ h => h) (Or.inr ⟨by rfl, rfl⟩) (by assumption) ?_
        (try simp only [Act.put, List.setIfInBounds_toArray, List.set_cons_zero, List.set_cons_succ])
        refine wpAnyH_take (i := 7) (oi := ⟨_, _, _, _, _, _⟩) (v := undef) rfl (by kernel_rfl) (by kernel_rfl) (by kernel_rfl) (fun _ _ _ h => h) (Or.inr ⟨by rfl, rfl⟩) (by assumption) ?_
        (try simp only [Act.put, List.setIfInBounds_toArray, List.set_cons_zero, List.set_cons_succ])
        refine wpAnyH_take (i := 8) (oi := ⟨_, _, _, _, _, _⟩) (v := undef) rfl (by kernel_rfl) (by kernel_rfl) (by kernel_rfl) (fun _ _ _ h => h) (Or.inr ⟨by rfl, rfl⟩) (by assumption) ?_
        (try simp only [Act.put, List.setIfInBounds_toArray, List.set_cons_zero, List.set_cons_succ])
        refine wpAnyH_take (i := 9) (oi := ⟨_, _, _, _, _, _⟩) (v := undef) rfl (by kernel_rfl) (by kernel_rfl) (by kernel_rfl) (fun _ _ _ h => h) (Or.inr ⟨by rfl, rfl⟩) (by assumption) ?_
        (try simp only [Act.put, List.setIfInBounds_toArray, List.set_cons_zero, List.set_cons_succ])
        refine wpAnyH_take (i := 10) (oi := ⟨_, _, _, _, _, _⟩) (v := ?v18) rfl (by kernel_rfl) (by kernel_rfl) (by kernel_rfl) (fun _ _ _ h => h) (Or.inl ⟨by rfl, ?hy18⟩) (by assumption) ?_
        case hy18 => (intro w hSw; (try dsimp only at hSw); go_simp; (try (with_reducible rfl)))
        (try simp only [Act.put, List.setIfInBounds_toArray, List.set_cons_zero, List.set_cons_succ])
        refine wpAnyH_done (by kernel_rfl) ?_ _
        obtain ⟨u8, b0, b1, b2, b3, b4, b5, b6, r0, r1, r2, r3, r4, r5, r6⟩ := hHeld
        (repeat clear ‹Up w _ ∧ _›)
        go_upto_region 10 with fail
        have hltW := World.block_lt_of_cell? _ _ r0
        obtain ⟨A2, k2, w2, hr, hO2, hU2⟩ := appendM 24 _ _ (.slice none 0 0) 0 [] (OG.nil _ _ _) (Up.refl _) (some ⟨b, o, none⟩) m kk R (HR.out.up u8) (by omega)
        simp only [Nat.zero_add, List.nil_append] at hr hO2
        have UU := u8.trans hU2
        have c00 := hU2.keep _ _ _ b0
        have c01 := hU2.keep _ _ _ b1
        have c02 := hU2.keep _ _ _ b2
        have c03 := hU2.keep _ _ _ b3
        have c04 := hU2.keep _ _ _ b4
        have c05 := hU2.keep _ _ _ b5
        have c06 := hU2.keep _ _ _ b6
        have c10 := hU2.keep _ _ _ r0
        have c11 := hU2.keep _ _ _ r1
        have c12 := hU2.keep _ _ _ r2
        have c13 := hU2.keep _ _ _ r3
        have c14 := hU2.keep _ _ _ r4
        have c15 := hU2.keep _ _ _ r5
        have c16 := hU2.keep _ _ _ r6
        have z06 := UU.ownGe (g := w.heap.size) (Nat.le_refl _) 6
        have z10 := UU.ownGe (g := w.heap.size + 1) (by omega) 0
        have z11 := UU.ownGe (g := w.heap.size + 1) (by omega) 1
        have z12 := UU.ownGe (g := w.heap.size + 1) (by omega) 2
        have z13 := UU.ownGe (g := w.heap.size + 1) (by omega) 3
        have z14 := UU.ownGe (g := w.heap.size + 1) (by omega) 4
        have z15 := UU.ownGe (g := w.heap.size + 1) (by omega) 5
        have z16 := UU.ownGe (g := w.heap.size + 1) (by omega) 6
        have UU := Lib.hid UU
        have HO2 := Lib.hid hO2
        have hlt := World.block_lt_of_cell? _ _ c10
        clear hO2 hU2 u8 b0 b1 b2 b3 b4 b5 b6 r0 r1 r2 r3 r4 r5 r6
        (repeat clear ‹Up w _ ∧ _›)
        go_wp2_with (refine wpList_append_run (o := ⟨some 48, _, _, _, _, _⟩) rfl (.const (.slice none 0 0)) (.tmp 47) _ rfl (.slice none 0 0) (.slice (some ⟨b, o, none⟩) m kk) rfl rfl _ _ hr ?_)
        have HNW := OG.nw HO2.out
        refine bodyPost_ret (v := .tuple #[.agg #[.int .i64 g, .int .i64 v, .int .i64 q, .int .i64 c, .int .i64 td, .int .i64 seq, .slice A2 m k2], .int .i64 0]) (by simp [results, Try.results69, go_sem, c10, c11, c12, c13, c14, c15, c16]) rfl ⟨A2, m, k2, rfl, by omega, (OG.sg HO2.out).1, fun b_ o_ h_ => by have := HNW b_ o_ h_; omega, ?_, ?_⟩
        · exact (UU.out.setCell (Nat.le_refl _) _).set7 (by omega)
        · exact ((OG.sg HO2.out).2.off (fun b_ o_ h_ => by have := HNW b_ o_ h_; omega) _).off7 (fun b_ o_ h_ => by have := HNW b_ o_ h_; omega) _ _ _ _ _ _ _
    · by_cases h2 : m = 1
      · subst h2
        have HE : Hid (drL (fun m => liveB td v m.t) [R.getD 0 mk0] = Z) := Lib.hid (by rw [← list_one HR.out.1]; exact HZ.out)
        have HE2 : Hid (R = [R.getD 0 mk0]) := Lib.hid (list_one HR.out.1)
        have HE3 : Hid (liveB td v (R.getD 0 mk0).t = false → Z = []) := Lib.hid (fun h => by rw [← HE.out, drL_one, h]; rfl)
        have HE4 : Hid (liveB td v (R.getD 0 mk0).t = true → Z = R) := Lib.hid (fun h => by rw [← HE.out, drL_one, h, if_pos rfl]; exact HE2.out.symm)
        obtain ⟨b, o, rfl, d0, d1, d2, d3, d4, d5, d6⟩ := mrk_at (HR.out.up u7) mk0 Nat.zero_lt_one
        have KJ := Lib.hid (KL.out (R.getD 0 mk0))
        clear HE HE2 d0 d1 d2 d3 d4 d5 d6
        have HD := Lib.hid (fun W (h : Up w W) => mrk_prev (HR.out.up h) Nat.zero_lt_one)
        generalize R.getD 0 mk0 = M1 at *
        obtain ⟨sq, t, nn, s, qq, lo, hi⟩ := M1
        simp only [Nat.zero_mul, Nat.add_zero] at HD
        simp only at HE3 HE4 KJ
        have HSS : Hid (Up w wr ∧ wr.cell? ⟨w.heap.size, 0, none⟩ = some (.int .i64 g) ∧ wr.cell? ⟨w.heap.size, 1, none⟩ = some (.int .i64 v) ∧ wr.cell? ⟨w.heap.size, 2, none⟩ = some (.int .i64 q) ∧ wr.cell? ⟨w.heap.size, 3, none⟩ = some (.int .i64 c) ∧ wr.cell? ⟨w.heap.size, 4, none⟩ = some (.int .i64 td) ∧ wr.cell? ⟨w.heap.size, 5, none⟩ = some (.int .i64 seq) ∧ wr.cell? ⟨w.heap.size, 6, none⟩ = some (.slice A n k) ∧ wr.cell? ⟨(w.heap.size + 1), 0, none⟩ = some (.int .i64 0) ∧ wr.cell? ⟨(w.heap.size + 1), 1, none⟩ = some (.int .i64 0) ∧ wr.cell? ⟨(w.heap.size + 1), 2, none⟩ = some (.int .i64 0) ∧ wr.cell? ⟨(w.heap.size + 1), 3, none⟩ = some (.int .i64 0) ∧ wr.cell? ⟨(w.heap.size + 1), 4, none⟩ = some (.int .i64 0) ∧ wr.cell? ⟨(w.heap.size + 1), 5, none⟩ = some (.int .i64 0) ∧ wr.cell? ⟨(w.heap.size + 1), 6, none⟩ = some (.slice none 0 0)) := Lib.hid ⟨u7, b0, b1, b2, b3, b4, b5, b6, r0, r1, r2, r3, r4, r5, r6⟩
        clear u7 b0 b1 b2 b3 b4 b5 b6 r0 r1 r2 r3 r4 r5 r6 HZ
        go_wp2_with fail
        refine wp_region_held_drew (S := fun w' => Up w w' ∧ w'.cell? ⟨w.heap.size, 0, none⟩ = some (.int .i64 g) ∧ w'.cell? ⟨w.heap.size, 1, none⟩ = some (.int .i64 v) ∧ w'.cell? ⟨w.heap.size, 2, none⟩ = some (.int .i64 q) ∧ w'.cell? ⟨w.heap.size, 3, none⟩ = some (.int .i64 c) ∧ w'.cell? ⟨w.heap.size, 4, none⟩ = some (.int .i64 td) ∧ w'.cell? ⟨w.heap.size, 5, none⟩ = some (.int .i64 seq) ∧ w'.cell? ⟨w.heap.size, 6, none⟩ = some (.slice A n k) ∧ w'.cell? ⟨(w.heap.size + 1), 0, none⟩ = some (.int .i64 0) ∧ w'.cell? ⟨(w.heap.size + 1), 1, none⟩ = some (.int .i64 0) ∧ w'.cell? ⟨(w.heap.size + 1), 2, none⟩ = some (.int .i64 0) ∧ w'.cell? ⟨(w.heap.size + 1), 3, none⟩ = some (.int .i64 0) ∧ w'.cell? ⟨(w.heap.size + 1), 4, none⟩ = some (.int .i64 0) ∧ w'.cell? ⟨(w.heap.size + 1), 5, none⟩ = some (.int .i64 0) ∧ w'.cell? ⟨(w.heap.size + 1), 6, none⟩ = some (.slice none 0 0)) (by kernel_rfl) ?hB55 (fun hHeld => ?_)
        case hB55 => (first | (with_reducible assumption) | (with_reducible exact keepK14 (Lib.hid (Up.refl _).drew) HSS.out))
        refine wpAnyH_take (i := 0) (oi := ⟨_, _, _, _, _, _⟩) (v := ?v56) rfl (by kernel_rfl) (by kernel_rfl) (by kernel_rfl) (fun _ _ _ h => h) (Or.inl ⟨by rfl, ?hy56⟩) (by assumption) ?_
        case hy56 => (intro w hSw; (try dsimp only at hSw); go_simp; (try (with_reducible rfl)))
        (try simp only [Act.put, List.setIfInBounds_toArray, List.set_cons_zero, List.set_cons_succ])
        refine wpAnyH_take (i := 1) (oi := ⟨_, _, _, _, _, _⟩) (v := ?v57) rfl (by kernel_rfl) (by kernel_rfl) (by kernel_rfl) (fun _ _ _ h => h) (Or.inl ⟨by rfl, ?hy57⟩) (by assumption) ?_
        case hy57 => (intro w hSw; (try dsimp only at hSw); go_simp; (try (with_reducible rfl)))
        (try simp only [Act.put, List.setIfInBounds_toArray, List.set_cons_zero, List.set_cons_succ])
        refine wpAnyH_take (i := 2) (oi := ⟨_, _, _, _, _, _⟩) (v := ?v58) rfl (by kernel_rfl) (by kernel_rfl) (by kernel_rfl) (fun _ _ _ h => h) (Or.inl ⟨by rfl, ?hy58⟩) (by assumption) ?_
        case hy58 => (intro w hSw; (try dsimp only at hSw); go_simp; (try (with_reducible rfl)))
        (try simp only [Act.put, List.setIfInBounds_toArray, List.set_cons_zero, List.set_cons_succ])
        refine wpAnyH_take (i := 3) (oi := ⟨_, _, _, _, _, _⟩) (v := ?v59) rfl (by kernel_rfl) (by kernel_rfl) (by kernel_rfl) (fun _ _ _ h => h) (Or.inl ⟨by rfl, ?hy59⟩) (by assumption) ?_
        case hy59 => (intro w hSw; (try dsimp only at hSw); go_simp; (try (with_reducible rfl)))
        (try simp only [Act.put, List.setIfInBounds_toArray, List.set_cons_zero, List.set_cons_succ])
        refine wpAnyH_take (i := 4) (oi := ⟨_, _, _, _, _, _⟩) (v := undef) rfl (by kernel_rfl) (by kernel_rfl) (by kernel_rfl) (fun _ _ _ h => h) (Or.inr ⟨by rfl, rfl⟩) (by assumption) ?_
        (try simp only [Act.put, List.setIfInBounds_toArray, List.set_cons_zero, List.set_cons_succ])
        refine wpAnyH_take (i := 5) (oi := ⟨_, _, _, _, _, _⟩) (v := undef) rfl (by kernel_rfl) (by kernel_rfl) (by kernel_rfl) (fun _ _ _ h => h) (Or.inr ⟨by rfl, rfl⟩) (by assumption) ?_
        (try simp only [Act.put, List.setIfInBounds_toArray, List.set_cons_zero, List.set_cons_succ])
        refine wpAnyH_take (i := 6) (oi := ⟨_, _, _, _, _, _⟩) (v := undef) rfl (by kernel_rfl) (by kernel_rfl) (by kernel_rfl) (fun _ _ _ h => h) (Or.inr ⟨by rfl, rfl⟩) (by assumption) ?_
        (try simp only [Act.put, List.setIfInBounds_toArray, List.set_cons_zero, List.set_cons_succ])
        refine wpAnyH_take (i := 7) (oi := ⟨_, _, _, _, _, _⟩) (v := undef) rfl (by kernel_rfl) (by kernel_rfl) (by kernel_rfl) (fun _ _ _ h => h) (Or.inr ⟨by rfl, rfl⟩) (by assumption) ?_
        (try simp only [Act.put, List.setIfInBounds_toArray, List.set_cons_zero, List.set_cons_succ])
        refine wpAnyH_take (i := 8) (oi := ⟨_, _, _, _, _, _⟩) (v := undef) rfl (by kernel_rfl) (by kernel_rfl) (by kernel_rfl) (fun _ _ _ h => h) (Or.inr ⟨by rfl, rfl⟩) (by assumption) ?_
        (try simp only [Act.put, List.setIfInBounds_toArray, List.set_cons_zero, List.set_cons_succ])
        refine wpAnyH_take (i := 9) (oi := ⟨_, _, _, _, _, _⟩) (v := undef) rfl (by kernel_rfl) (by kernel_rfl) (by kernel_rfl) (fun _ _ _ h => h) (Or.inr ⟨by rfl, rfl⟩) (by assumption) ?_
        (try simp only [Act.put, List.setIfInBounds_toArray, List.set_cons_zero, List.set_cons_succ])
        refine wpAnyH_take (i := 10) (oi := ⟨_, _, _, _, _, _⟩) (v := ?v60) rfl (by kernel_rfl) (by kernel_rfl) (by kernel_rfl) (fun _ _ _ h => h) (Or.inl ⟨by rfl, ?hy60⟩) (by assumption) ?_
        case hy60 => (intro w hSw; (try dsimp only at hSw); go_simp; (try (with_reducible rfl)))
        (try simp only [Act.put, List.setIfInBounds_toArray, List.set_cons_zero, List.set_cons_succ])
        refine wpAnyH_done (by kernel_rfl) ?_ _
        obtain ⟨u8, b0, b1, b2, b3, b4, b5, b6, r0, r1, r2, r3, r4, r5, r6⟩ := hHeld
        (repeat clear ‹Up w _ ∧ _›)
        obtain ⟨d0, d1, d2, d3, d4, d5, d6⟩ := HD.out _ u8
        have HSS := Lib.hid (And.intro u8 (And.intro b0 (And.intro b1 (And.intro b2 (And.intro b3 (And.intro b4 (And.intro b5 (And.intro b6 (And.intro r0 (And.intro r1 (And.intro r2 (And.intro r3 (And.intro r4 (And.intro r5 (And.intro r6 (And.intro d0 (And.intro d1 (And.intro d2 (And.intro d3 (And.intro d4 (And.intro d5 d6)))))))))))))))))))))
        clear u8 b0 b1 b2 b3 b4 b5 b6 r0 r1 r2 r3 r4 r5 r6 d0 d1 d2 d3 d4 d5 d6 HD
        cases hl : liveB td v t with
        | false =>
          obtain rfl : Z = [] := HE3.out hl
          rw [hl] at KJ
          clear hl HE3 HE4
          go_wp2_with fail
          refine wp_region_held_drew (S := fun w' => Up w w' ∧ w'.cell? ⟨w.heap.size, 0, none⟩ = some (.int .i64 g) ∧ w'.cell? ⟨w.heap.size, 1, none⟩ = some (.int .i64 v) ∧ w'.cell? ⟨w.heap.size, 2, none⟩ = some (.int .i64 q) ∧ w'.cell? ⟨w.heap.size, 3, none⟩ = some (.int .i64 c) ∧ w'.cell? ⟨w.heap.size, 4, none⟩ = some (.int .i64 td) ∧ w'.cell? ⟨w.heap.size, 5, none⟩ = some (.int .i64 seq) ∧ w'.cell? ⟨w.heap.size, 6, none⟩ = some (.slice A n k) ∧ w'.cell? ⟨(w.heap.size + 1), 0, none⟩ = some (.int .i64 0) ∧ w'.cell? ⟨(w.heap.size + 1), 1, none⟩ = some (.int .i64 0) ∧ w'.cell? ⟨(w.heap.size + 1), 2, none⟩ = some (.int .i64 0) ∧ w'.cell? ⟨(w.heap.size + 1), 3, none⟩ = some (.int .i64 0) ∧ w'.cell? ⟨(w.heap.size + 1), 4, none⟩ = some (.int .i64 0) ∧ w'.cell? ⟨(w.heap.size + 1), 5, none⟩ = some (.int .i64 0) ∧ w'.cell? ⟨(w.heap.size + 1), 6, none⟩ = some (.slice none 0 0) ∧ w'.cell? ⟨b, o, none⟩ = some (.int .i64 sq) ∧ w'.cell? ⟨b, o + 1, none⟩ = some (.int .i64 t) ∧ w'.cell? ⟨b, o + 2, none⟩ = some (.int .i64 nn) ∧ w'.cell? ⟨b, o + 3, none⟩ = some (.int .i64 s) ∧ w'.cell? ⟨b, o + 4, none⟩ = some (.int .i64 qq) ∧ w'.cell? ⟨b, o + 5, none⟩ = some (.int .i64 lo) ∧ w'.cell? ⟨b, o + 6, none⟩ = some (.int .i64 hi)) (by kernel_rfl) ?hB31 (fun hHeld => ?_)
          case hB31 => (first | (with_reducible assumption) | (with_reducible exact keepK21 (Lib.hid (Up.refl _).drew) HSS.out) | (with_reducible exact HX3.out))
          refine wpAnyH_take (i := 0) (oi := ⟨_, _, _, _, _, _⟩) (v := ?v32) rfl (by kernel_rfl) (by kernel_rfl) (by kernel_rfl) (fun _ _ _ h => h) (Or.inl ⟨by rfl, ?hy32⟩) (by assumption) ?_
          case hy32 => (intro w hSw; (try dsimp only at hSw); go_simp; (try (with_reducible rfl)))
          (try simp only [Act.put, List.setIfInBounds_toArray, List.set_cons_zero, List.set_cons_succ])
          refine wpAnyH_take (i := 1) (oi := ⟨_, _, _, _, _, _⟩) (v := ?v33) rfl (by kernel_rfl) (by kernel_rfl) (by kernel_rfl) (fun _ _ _ h => h) (Or.inl ⟨by rfl, ?hy33⟩) (by assumption) ?_
          case hy33 => (intro w hSw; (try dsimp only at hSw); go_simp; (try (with_reducible rfl)))
          (try simp only [Act.put, List.setIfInBounds_toArray, List.set_cons_zero, List.set_cons_succ])
          refine wpAnyH_take (i := 2) (oi := ⟨_, _, _, _, _, _⟩) (v := ?v34) rfl (by kernel_rfl) (by kernel_rfl) (by kernel_rfl) (fun _ _ _ h => h) (Or.inl ⟨by rfl, ?hy34⟩) (by assumption) ?_
          case hy34 => (intro w hSw; (try dsimp only at hSw); go_simp; (try (with_reducible rfl)))
          (try simp only [Act.put, List.setIfInBounds_toArray, List.set_cons_zero, List.set_cons_succ])
          refine wpAnyH_take (i := 3) (oi := ⟨_, _, _, _, _, _⟩) (v := ?v35) rfl (by kernel_rfl) (by kernel_rfl) (by kernel_rfl) (fun _ _ _ h => h) (Or.inl ⟨by rfl, ?hy35⟩) (by assumption) ?_
          case hy35 => (intro w hSw; (try dsimp only at hSw); go_simp; (try (with_reducible rfl)))
          (try simp only [Act.put, List.setIfInBounds_toArray, List.set_cons_zero, List.set_cons_succ])
          refine wpAnyH_take (i := 4) (oi := ⟨_, _, _, _, _, _⟩) (v := ?v36) rfl (by kernel_rfl) (by kernel_rfl) (by kernel_rfl) (fun _ _ _ h => h) (Or.inl ⟨by rfl, ?hy36⟩) (by assumption) ?_
          case hy36 => (intro w hSw; (try dsimp only at hSw); go_simp; (try (with_reducible rfl)))
          (try simp only [Act.put, List.setIfInBounds_toArray, List.set_cons_zero, List.set_cons_succ])
          refine wpAnyH_take (i := 5) (oi := ⟨_, _, _, _, _, _⟩) (v := ?v37) rfl (by kernel_rfl) (by kernel_rfl) (by kernel_rfl) (fun _ _ _ h => h) (Or.inl ⟨by rfl, ?hy37⟩) (by assumption) ?_
          case hy37 => (intro w hSw; (try dsimp only at hSw); go_simp; (try (with_reducible rfl)))
          (try simp only [Act.put, List.setIfInBounds_toArray, List.set_cons_zero, List.set_cons_succ])
          refine wpAnyH_take (i := 6) (oi := ⟨_, _, _, _, _, _⟩) (v := ?v38) rfl (by kernel_rfl) (by kernel_rfl) (by kernel_rfl) (fun _ _ _ h => h) (Or.inl ⟨by rfl, ?hy38⟩) (by assumption) ?_
          case hy38 => (intro w hSw; (try dsimp only at hSw); go_simp; (try (with_reducible rfl)))
          (try simp only [Act.put, List.setIfInBounds_toArray, List.set_cons_zero, List.set_cons_succ])
          refine wpAnyH_take (i := 7) (oi := ⟨_, _, _, _, _, _⟩) (v := ?v39) rfl (by kernel_rfl) (by kernel_rfl) (by kernel_rfl) (fun _ _ _ h => h) (Or.inl ⟨by rfl, ?hy39⟩) (by assumption) ?_
          case hy39 => (intro w hSw; (try dsimp only at hSw); go_simp; (try (with_reducible rfl)))
          (try simp only [Act.put, List.setIfInBounds_toArray, List.set_cons_zero, List.set_cons_succ])
          refine wpAnyH_ready (rs := [8]) (by kernel_rfl) (by simp) ?_
          refine AllReadyH.cons (o := ⟨_, _, _, _, _, _⟩) rfl (fun K hK => ?_) AllReadyH.nil
          go_simp
          (go_at_call 111; (with_reducible refine (KJ.out _).mono ?_); rintro e w3 ⟨rfl, hu⟩; have HU3 := Lib.hid hu; have HX3 := Lib.hid (keepK21 HU3 hHeld); clear hu)
          (try go_wp2_with fail)
          refine hK.out _ _ ?hB40 (fun hHeld => ?_)
          case hB40 => (first | (with_reducible assumption) | (with_reducible exact keepK21 (Lib.hid (Up.refl _).drew) HSS.out) | (with_reducible exact HX3.out))
          clear hK K
          (try simp only [Act.put, List.setIfInBounds_toArray, List.set_cons_zero, List.set_cons_succ])
          refine wpAnyH_take (i := 9) (oi := ⟨_, _, _, _, _, _⟩) (v := ?v41) rfl (by kernel_rfl) (by kernel_rfl) (by kernel_rfl) (fun _ _ _ h => h) (Or.inl ⟨by rfl, ?hy41⟩) (by assumption) ?_
          case hy41 => (intro w hSw; (try dsimp only at hSw); go_simp; (try (with_reducible rfl)))
          (try simp only [Act.put, List.setIfInBounds_toArray, List.set_cons_zero, List.set_cons_succ])
          refine wpAnyH_take (i := 10) (oi := ⟨_, _, _, _, _, _⟩) (v := ?v42) rfl (by kernel_rfl) (by kernel_rfl) (by kernel_rfl) (fun _ _ _ h => h) (Or.inl ⟨by rfl, ?hy42⟩) (by assumption) ?_
          case hy42 => (intro w hSw; (try dsimp only at hSw); go_simp; (try (with_reducible rfl)))
          (try simp only [Act.put, List.setIfInBounds_toArray, List.set_cons_zero, List.set_cons_succ])
          refine wpAnyH_done (by kernel_rfl) ?_ _
          obtain ⟨u8, b0, b1, b2, b3, b4, b5, b6, r0, r1, r2, r3, r4, r5, r6, _⟩ := hHeld
          (repeat clear ‹Up w _ ∧ _›)
          (try clear HU3)
          go_upto_region 10 with fail
          have hltW := World.block_lt_of_cell? _ _ r0
          obtain ⟨A2, k2, w2, hr, hO2, hU2⟩ := appendM 24 _ _ (.slice none 0 0) 0 [] (OG.nil _ _ _) (Up.refl _) none 0 0 [] (SG.none_) (by omega)
          simp only [Nat.zero_add, List.nil_append] at hr hO2
          have UU := u8.trans hU2
          have c00 := hU2.keep _ _ _ b0
          have c01 := hU2.keep _ _ _ b1
          have c02 := hU2.keep _ _ _ b2
          have c03 := hU2.keep _ _ _ b3
          have c04 := hU2.keep _ _ _ b4
          have c05 := hU2.keep _ _ _ b5
          have c06 := hU2.keep _ _ _ b6
          have c10 := hU2.keep _ _ _ r0
          have c11 := hU2.keep _ _ _ r1
          have c12 := hU2.keep _ _ _ r2
          have c13 := hU2.keep _ _ _ r3
          have c14 := hU2.keep _ _ _ r4
          have c15 := hU2.keep _ _ _ r5
          have c16 := hU2.keep _ _ _ r6
          have z06 := UU.ownGe (g := w.heap.size) (Nat.le_refl _) 6
          have z10 := UU.ownGe (g := w.heap.size + 1) (by omega) 0
          have z11 := UU.ownGe (g := w.heap.size + 1) (by omega) 1
          have z12 := UU.ownGe (g := w.heap.size + 1) (by omega) 2
          have z13 := UU.ownGe (g := w.heap.size + 1) (by omega) 3
          have z14 := UU.ownGe (g := w.heap.size + 1) (by omega) 4
          have z15 := UU.ownGe (g := w.heap.size + 1) (by omega) 5
          have z16 := UU.ownGe (g := w.heap.size + 1) (by omega) 6
          have UU := Lib.hid UU
          have HO2 := Lib.hid hO2
          have hlt := World.block_lt_of_cell? _ _ c10
          clear hO2 hU2 u8 b0 b1 b2 b3 b4 b5 b6 r0 r1 r2 r3 r4 r5 r6
          (repeat clear ‹Up w _ ∧ _›)
          go_wp2_with (refine wpList_append_run (o := ⟨some 48, _, _, _, _, _⟩) rfl (.const (.slice none 0 0)) (.tmp 47) _ rfl (.slice none 0 0) (.slice none 0 0) rfl rfl _ _ hr ?_)
          have HNW := OG.nw HO2.out
          refine bodyPost_ret (v := .tuple #[.agg #[.int .i64 g, .int .i64 v, .int .i64 q, .int .i64 c, .int .i64 td, .int .i64 seq, .slice A2 0 k2], .int .i64 0]) (by simp [results, Try.results69, go_sem, c10, c11, c12, c13, c14, c15, c16]) rfl ⟨A2, 0, k2, rfl, by omega, (OG.sg HO2.out).1, fun b_ o_ h_ => by have := HNW b_ o_ h_; omega, ?_, ?_⟩
          · exact (UU.out.setCell (Nat.le_refl _) _).set7 (by omega)
          · exact ((OG.sg HO2.out).2.off (fun b_ o_ h_ => by have := HNW b_ o_ h_; omega) _).off7 (fun b_ o_ h_ => by have := HNW b_ o_ h_; omega) _ _ _ _ _ _ _
        | true =>
          obtain rfl : Z = R := HE4.out hl
          rw [hl] at KJ
          clear hl HE3 HE4
          go_wp2_with fail
          refine wp_region_held_drew (S := fun w' => Up w w' ∧ w'.cell? ⟨w.heap.size, 0, none⟩ = some (.int .i64 g) ∧ w'.cell? ⟨w.heap.size, 1, none⟩ = some (.int .i64 v) ∧ w'.cell? ⟨w.heap.size, 2, none⟩ = some (.int .i64 q) ∧ w'.cell? ⟨w.heap.size, 3, none⟩ = some (.int .i64 c) ∧ w'.cell? ⟨w.heap.size, 4, none⟩ = some (.int .i64 td) ∧ w'.cell? ⟨w.heap.size, 5, none⟩ = some (.int .i64 seq) ∧ w'.cell? ⟨w.heap.size, 6, none⟩ = some (.slice A n k) ∧ w'.cell? ⟨(w.heap.size + 1), 0, none⟩ = some (.int .i64 0) ∧ w'.cell? ⟨(w.heap.size + 1), 1, none⟩ = some (.int .i64 0) ∧ w'.cell? ⟨(w.heap.size + 1), 2, none⟩ = some (.int .i64 0) ∧ w'.cell? ⟨(w.heap.size + 1), 3, none⟩ = some (.int .i64 0) ∧ w'.cell? ⟨(w.heap.size + 1), 4, none⟩ = some (.int .i64 0) ∧ w'.cell? ⟨(w.heap.size + 1), 5, none⟩ = some (.int .i64 0) ∧ w'.cell? ⟨(w.heap.size + 1), 6, none⟩ = some (.slice none 0 0) ∧ w'.cell? ⟨b, o, none⟩ = some (.int .i64 sq) ∧ w'.cell? ⟨b, o + 1, none⟩ = some (.int .i64 t) ∧ w'.cell? ⟨b, o + 2, none⟩ = some (.int .i64 nn) ∧ w'.cell? ⟨b, o + 3, none⟩ = some (.int .i64 s) ∧ w'.cell? ⟨b, o + 4, none⟩ = some (.int .i64 qq) ∧ w'.cell? ⟨b, o + 5, none⟩ = some (.int .i64 lo) ∧ w'.cell? ⟨b, o + 6, none⟩ = some (.int .i64 hi)) (by kernel_rfl) ?hB43 (fun hHeld => ?_)
          case hB43 => (first | (with_reducible assumption) | (with_reducible exact keepK21 (Lib.hid (Up.refl _).drew) HSS.out) | (with_reducible exact HX3.out))
          refine wpAnyH_take (i := 0) (oi := ⟨_, _, _, _, _, _⟩) (v := ?v44) rfl (by kernel_rfl) (by kernel_rfl) (by kernel_rfl) (fun _ _ _ h => h) (Or.inl ⟨by rfl, ?hy44⟩) (by assumption) ?_
          case hy44 => (intro w hSw; (try dsimp only at hSw); go_simp; (try (with_reducible rfl)))
          (try simp only [Act.put, List.setIfInBounds_toArray, List.set_cons_zero, List.set_cons_succ])
          refine wpAnyH_take (i := 1) (oi := ⟨_, _, _, _, _, _⟩) (v := ?v45) rfl (by kernel_rfl) (by kernel_rfl) (by kernel_rfl) (fun _ _ _ h => h) (Or.inl ⟨by rfl, ?hy45⟩) (by assumption) ?_
          case hy45 => (intro w hSw; (try dsimp only at hSw); go_simp; (try (with_reducible rfl)))
          (try simp only [Act.put, List.setIfInBounds_toArray, List.set_cons_zero, List.set_cons_succ])
          refine wpAnyH_take (i := 2) (oi := ⟨_, _, _, _, _, _⟩) (v := ?v46) rfl (by kernel_rfl) (by kernel_rfl) (by kernel_rfl) (fun _ _ _ h => h) (Or.inl ⟨by rfl, ?hy46⟩) (by assumption) ?_
          case hy46 => (intro w hSw; (try dsimp only at hSw); go_simp; (try (with_reducible rfl)))
          (try simp only [Act.put, List.setIfInBounds_toArray, List.set_cons_zero, List.set_cons_succ])
          refine wpAnyH_take (i := 3) (oi := ⟨_, _, _, _, _, _⟩) (v := ?v47) rfl (by kernel_rfl) (by kernel_rfl) (by kernel_rfl) (fun _ _ _ h => h) (Or.inl ⟨by rfl, ?hy47⟩) (by assumption) ?_
          case hy47 => (intro w hSw; (try dsimp only at hSw); go_simp; (try (with_reducible rfl)))
          (try simp only [Act.put, List.setIfInBounds_toArray, List.set_cons_zero, List.set_cons_succ])
          refine wpAnyH_take (i := 4) (oi := ⟨_, _, _, _, _, _⟩) (v := ?v48) rfl (by kernel_rfl) (by kernel_rfl) (by kernel_rfl) (fun _ _ _ h => h) (Or.inl ⟨by rfl, ?hy48⟩) (by assumption) ?_
          case hy48 => (intro w hSw; (try dsimp only at hSw); go_simp; (try (with_reducible rfl)))
          (try simp only [Act.put, List.setIfInBounds_toArray, List.set_cons_zero, List.set_cons_succ])
          refine wpAnyH_take (i := 5) (oi := ⟨_, _, _, _, _, _⟩) (v := ?v49) rfl (by kernel_rfl) (by kernel_rfl) (by kernel_rfl) (fun _ _ _ h => h) (Or.inl ⟨by rfl, ?hy49⟩) (by assumption) ?_
          case hy49 => (intro w hSw; (try dsimp only at hSw); go_simp; (try (with_reducible rfl)))
          (try simp only [Act.put, List.setIfInBounds_toArray, List.set_cons_zero, List.set_cons_succ])
          refine wpAnyH_take (i := 6) (oi := ⟨_, _, _, _, _, _⟩) (v := ?v50) rfl (by kernel_rfl) (by kernel_rfl) (by kernel_rfl) (fun _ _ _ h => h) (Or.inl ⟨by rfl, ?hy50⟩) (by assumption) ?_
          case hy50 => (intro w hSw; (try dsimp only at hSw); go_simp; (try (with_reducible rfl)))
          (try simp only [Act.put, List.setIfInBounds_toArray, List.set_cons_zero, List.set_cons_succ])
          refine wpAnyH_take (i := 7) (oi := ⟨_, _, _, _, _, _⟩) (v := ?v51) rfl (by kernel_rfl) (by kernel_rfl) (by kernel_rfl) (fun _ _ _ h => h) (Or.inl ⟨by rfl, ?hy51⟩) (by assumption) ?_
          case hy51 => (intro w hSw; (try dsimp only at hSw); go_simp; (try (with_reducible rfl)))
          (try simp only [Act.put, List.setIfInBounds_toArray, List.set_cons_zero, List.set_cons_succ])
          refine wpAnyH_ready (rs := [8]) (by kernel_rfl) (by simp) ?_
          refine AllReadyH.cons (o := ⟨_, _, _, _, _, _⟩) rfl (fun K hK => ?_) AllReadyH.nil
          go_simp
          (go_at_call 111; (with_reducible refine (KJ.out _).mono ?_); rintro e w3 ⟨rfl, hu⟩; have HU3 := Lib.hid hu; have HX3 := Lib.hid (keepK21 HU3 hHeld); clear hu)
          (try go_wp2_with fail)
          refine hK.out _ _ ?hB52 (fun hHeld => ?_)
          case hB52 => (first | (with_reducible assumption) | (with_reducible exact keepK21 (Lib.hid (Up.refl _).drew) HSS.out) | (with_reducible exact HX3.out))
          clear hK K
          (try simp only [Act.put, List.setIfInBounds_toArray, List.set_cons_zero, List.set_cons_succ])
          refine wpAnyH_take (i := 9) (oi := ⟨_, _, _, _, _, _⟩) (v := ?v53) rfl (by kernel_rfl) (by kernel_rfl) (by kernel_rfl) (fun _ _ _ h => h) (Or.inl ⟨by rfl, ?hy53⟩) (by assumption) ?_
          case hy53 => (intro w hSw; (try dsimp only at hSw); go_simp; (try (with_reducible rfl)))
          (try simp only [Act.put, List.setIfInBounds_toArray, List.set_cons_zero, List.set_cons_succ])
          refine wpAnyH_take (i := 10) (oi := ⟨_, _, _, _, _, _⟩) (v := ?v54) rfl (by kernel_rfl) (by kernel_rfl) (by kernel_rfl) (fun _ _ _ h => h) (Or.inl ⟨by rfl, ?hy54⟩) (by assumption) ?_
          case hy54 => (intro w hSw; (try dsimp only at hSw); go_simp; (try (with_reducible rfl)))
          (try simp only [Act.put, List.setIfInBounds_toArray, List.set_cons_zero, List.set_cons_succ])
          refine wpAnyH_done (by kernel_rfl) ?_ _
          obtain ⟨u8, b0, b1, b2, b3, b4, b5, b6, r0, r1, r2, r3, r4, r5, r6, _⟩ := hHeld
          (repeat clear ‹Up w _ ∧ _›)
          (try clear HU3)
          go_upto_region 10 with fail
          have hltW := World.block_lt_of_cell? _ _ r0
          obtain ⟨A2, k2, w2, hr, hO2, hU2⟩ := appendM 24 _ _ (.slice none 0 0) 0 [] (OG.nil _ _ _) (Up.refl _) (some ⟨b, o, none⟩) 1 kk Z (HR.out.up u8) (by omega)
          simp only [Nat.zero_add, List.nil_append] at hr hO2
          have UU := u8.trans hU2
          have c00 := hU2.keep _ _ _ b0
          have c01 := hU2.keep _ _ _ b1
          have c02 := hU2.keep _ _ _ b2
          have c03 := hU2.keep _ _ _ b3
          have c04 := hU2.keep _ _ _ b4
          have c05 := hU2.keep _ _ _ b5
          have c06 := hU2.keep _ _ _ b6
          have c10 := hU2.keep _ _ _ r0
          have c11 := hU2.keep _ _ _ r1
          have c12 := hU2.keep _ _ _ r2
          have c13 := hU2.keep _ _ _ r3
          have c14 := hU2.keep _ _ _ r4
          have c15 := hU2.keep _ _ _ r5
          have c16 := hU2.keep _ _ _ r6
          have z06 := UU.ownGe (g := w.heap.size) (Nat.le_refl _) 6
          have z10 := UU.ownGe (g := w.heap.size + 1) (by omega) 0
          have z11 := UU.ownGe (g := w.heap.size + 1) (by omega) 1
          have z12 := UU.ownGe (g := w.heap.size + 1) (by omega) 2
          have z13 := UU.ownGe (g := w.heap.size + 1) (by omega) 3
          have z14 := UU.ownGe (g := w.heap.size + 1) (by omega) 4
          have z15 := UU.ownGe (g := w.heap.size + 1) (by omega) 5
          have z16 := UU.ownGe (g := w.heap.size + 1) (by omega) 6
          have UU := Lib.hid UU
          have HO2 := Lib.hid hO2
          have hlt := World.block_lt_of_cell? _ _ c10
          clear hO2 hU2 u8 b0 b1 b2 b3 b4 b5 b6 r0 r1 r2 r3 r4 r5 r6
          (repeat clear ‹Up w _ ∧ _›)
          go_wp2_with (refine wpList_append_run (o := ⟨some 48, _, _, _, _, _⟩) rfl (.const (.slice none 0 0)) (.tmp 47) _ rfl (.slice none 0 0) (.slice (some ⟨b, o, none⟩) 1 kk) rfl rfl _ _ hr ?_)
          have HNW := OG.nw HO2.out
          refine bodyPost_ret (v := .tuple #[.agg #[.int .i64 g, .int .i64 v, .int .i64 q, .int .i64 c, .int .i64 td, .int .i64 seq, .slice A2 1 k2], .int .i64 0]) (by simp [results, Try.results69, go_sem, c10, c11, c12, c13, c14, c15, c16]) rfl ⟨A2, 1, k2, rfl, by omega, (OG.sg HO2.out).1, fun b_ o_ h_ => by have := HNW b_ o_ h_; omega, ?_, ?_⟩
          · exact (UU.out.setCell (Nat.le_refl _) _).set7 (by omega)
          · exact ((OG.sg HO2.out).2.off (fun b_ o_ h_ => by have := HNW b_ o_ h_; omega) _).off7 (fun b_ o_ h_ => by have := HNW b_ o_ h_; omega) _ _ _ _ _ _ _
      · obtain rfl : m = 0 := by omega
        have e : R = [] := List.eq_nil_of_length_eq_zero HR.out.1
        have hz := HZ.out
        rw [e] at hz
        have hz2 : Z = [] := hz.symm
        subst hz2
        clear e hz
        have HSS : Hid (Up w wr ∧ wr.cell? ⟨w.heap.size, 0, none⟩ = some (.int .i64 g) ∧ wr.cell? ⟨w.heap.size, 1, none⟩ = some (.int .i64 v) ∧ wr.cell? ⟨w.heap.size, 2, none⟩ = some (.int .i64 q) ∧ wr.cell? ⟨w.heap.size, 3, none⟩ = some (.int .i64 c) ∧ wr.cell? ⟨w.heap.size, 4, none⟩ = some (.int .i64 td) ∧ wr.cell? ⟨w.heap.size, 5, none⟩ = some (.int .i64 seq) ∧ wr.cell? ⟨w.heap.size, 6, none⟩ = some (.slice A n k) ∧ wr.cell? ⟨(w.heap.size + 1), 0, none⟩ = some (.int .i64 0) ∧ wr.cell? ⟨(w.heap.size + 1), 1, none⟩ = some (.int .i64 0) ∧ wr.cell? ⟨(w.heap.size + 1), 2, none⟩ = some (.int .i64 0) ∧ wr.cell? ⟨(w.heap.size + 1), 3, none⟩ = some (.int .i64 0) ∧ wr.cell? ⟨(w.heap.size + 1), 4, none⟩ = some (.int .i64 0) ∧ wr.cell? ⟨(w.heap.size + 1), 5, none⟩ = some (.int .i64 0) ∧ wr.cell? ⟨(w.heap.size + 1), 6, none⟩ = some (.slice none 0 0)) := Lib.hid ⟨u7, b0, b1, b2, b3, b4, b5, b6, r0, r1, r2, r3, r4, r5, r6⟩
        clear u7 b0 b1 b2 b3 b4 b5 b6 r0 r1 r2 r3 r4 r5 r6 HZ
        go_wp2_with fail
        refine wp_region_held_drew (S := fun w' => Up w w' ∧ w'.cell? ⟨w.heap.size, 0, none⟩ = some (.int .i64 g) ∧ w'.cell? ⟨w.heap.size, 1, none⟩ = some (.int .i64 v) ∧ w'.cell? ⟨w.heap.size, 2, none⟩ = some (.int .i64 q) ∧ w'.cell? ⟨w.heap.size, 3, none⟩ = some (.int .i64 c) ∧ w'.cell? ⟨w.heap.size, 4, none⟩ = some (.int .i64 td) ∧ w'.cell? ⟨w.heap.size, 5, none⟩ = some (.int .i64 seq) ∧ w'.cell? ⟨w.heap.size, 6, none⟩ = some (.slice A n k) ∧ w'.cell? ⟨(w.heap.size + 1), 0, none⟩ = some (.int .i64 0) ∧ w'.cell? ⟨(w.heap.size + 1), 1, none⟩ = some (.int .i64 0) ∧ w'.cell? ⟨(w.heap.size + 1), 2, none⟩ = some (.int .i64 0) ∧ w'.cell? ⟨(w.heap.size + 1), 3, none⟩ = some (.int .i64 0) ∧ w'.cell? ⟨(w.heap.size + 1), 4, none⟩ = some (.int .i64 0) ∧ w'.cell? ⟨(w.heap.size + 1), 5, none⟩ = some (.int .i64 0) ∧ w'.cell? ⟨(w.heap.size + 1), 6, none⟩ = some (.slice none 0 0)) (by kernel_rfl) ?hB67 (fun hHeld => ?_)
        case hB67 => (first | (with_reducible assumption) | (with_reducible exact keepK14 (Lib.hid (Up.refl _).drew) HSS.out))
        refine wpAnyH_take (i := 0) (oi := ⟨_, _, _, _, _, _⟩) (v := ?v68) rfl (by kernel_rfl) (by kernel_rfl) (by kernel_rfl) (fun _ _ _ h => h) (Or.inl ⟨by rfl, ?hy68⟩) (by assumption) ?_
        case hy68 => (intro w hSw; (try dsimp only at hSw); go_simp; (try (with_reducible rfl)))
        (try simp only [Act.put, List.setIfInBounds_toArray, List.set_cons_zero, List.set_cons_succ])
        refine wpAnyH_take (i := 1) (oi := ⟨_, _, _, _, _, _⟩) (v := ?v69) rfl (by kernel_rfl) (by kernel_rfl) (by kernel_rfl) (fun _ _ _ h => h) (Or.inl ⟨by rfl, ?hy69⟩) (by assumption) ?_
        case hy69 => (intro w hSw; (try dsimp only at hSw); go_simp; (try (with_reducible rfl)))
        (try simp only [Act.put, List.setIfInBounds_toArray, List.set_cons_zero, List.set_cons_succ])
        refine wpAnyH_take (i := 2) (oi := ⟨_, _, _, _, _, _⟩) (v := ?v70) rfl (by kernel_rfl) (by kernel_rfl) (by kernel_rfl) (fun _ _ _ h => h) (Or.inl ⟨by rfl, ?hy70⟩) (by assumption) ?_
        case hy70 => (intro w hSw; (try dsimp only at hSw); go_simp; (try (with_reducible rfl)))
        (try simp only [Act.put, List.setIfInBounds_toArray, List.set_cons_zero, List.set_cons_succ])
        refine wpAnyH_take (i := 3) (oi := ⟨_, _, _, _, _, _⟩) (v := ?v71) rfl (by kernel_rfl) (by kernel_rfl) (by kernel_rfl) (fun _ _ _ h => h) (Or.inl ⟨by rfl, ?hy71⟩) (by assumption) ?_
        case hy71 => (intro w hSw; (try dsimp only at hSw); go_simp; (try (with_reducible rfl)))
        (try simp only [Act.put, List.setIfInBounds_toArray, List.set_cons_zero, List.set_cons_succ])
        refine wpAnyH_take (i := 4) (oi := ⟨_, _, _, _, _, _⟩) (v := undef) rfl (by kernel_rfl) (by kernel_rfl) (by kernel_rfl) (fun _ _ _ h => h) (Or.inr ⟨by rfl, rfl⟩) (by assumption) ?_
        (try simp only [Act.put, List.setIfInBounds_toArray, List.set_cons_zero, List.set_cons_succ])
        refine wpAnyH_take (i := 5) (oi := ⟨_, _, _, _, _, _⟩) (v := undef) rfl (by kernel_rfl) (by kernel_rfl) (by kernel_rfl) (fun _ _ _ h => h) (Or.inr ⟨by rfl, rfl⟩) (by assumption) ?_
        (try simp only [Act.put, List.setIfInBounds_toArray, List.set_cons_zero, List.set_cons_succ])
        refine wpAnyH_take (i := 6) (oi := ⟨_, _, _, _, _, _⟩) (v := undef) rfl (by kernel_rfl) (by kernel_rfl) (by kernel_rfl) (fun _ _ _ h => h) (Or.inr ⟨by rfl, rfl⟩) (by assumption) ?_
        (try simp only [Act.put, List.setIfInBounds_toArray, List.set_cons_zero, List.set_cons_succ])
        refine wpAnyH_take (i := 7) (oi := ⟨_, _, _, _, _, _⟩) (v := undef) rfl (by kernel_rfl) (by kernel_rfl) (by kernel_rfl) (fun _ _ _ h => h) (Or.inr ⟨by rfl, rfl⟩) (by assumption) ?_
        (try simp only [Act.put, List.setIfInBounds_toArray, List.set_cons_zero, List.set_cons_succ])
        refine wpAnyH_take (i := 8) (oi := ⟨_, _, _, _, _, _⟩) (v := undef) rfl (by kernel_rfl) (by kernel_rfl) (by kernel_rfl) (fun _ _ _ h => h) (Or.inr ⟨by rfl, rfl⟩) (by assumption) ?_
        (try simp only [Act.put, List.setIfInBounds_toArray, List.set_cons_zero, List.set_cons_succ])
        refine wpAnyH_take (i := 9) (oi := ⟨_, _, _, _, _, _⟩) (v := undef) rfl (by kernel_rfl) (by kernel_rfl) (by kernel_rfl) (fun _ _ _ h => h) (Or.inr ⟨by rfl, rfl⟩) (by assumption) ?_
        (try simp only [Act.put, List.setIfInBounds_toArray, List.set_cons_zero, List.set_cons_succ])
        refine wpAnyH_take (i := 10) (oi := ⟨_, _, _, _, _, _⟩) (v := ?v72) rfl (by kernel_rfl) (by kernel_rfl) (by kernel_rfl) (fun _ _ _ h => h) (Or.inl ⟨by rfl, ?hy72⟩) (by assumption) ?_
        case hy72 => (intro w hSw; (try dsimp only at hSw); go_simp; (try (with_reducible rfl)))
        (try simp only [Act.put, List.setIfInBounds_toArray, List.set_cons_zero, List.set_cons_succ])
        refine wpAnyH_done (by kernel_rfl) ?_ _
        obtain ⟨u8, b0, b1, b2, b3, b4, b5, b6, r0, r1, r2, r3, r4, r5, r6⟩ := hHeld
        (repeat clear ‹Up w _ ∧ _›)
        have HSS := Lib.hid (And.intro u8 (And.intro b0 (And.intro b1 (And.intro b2 (And.intro b3 (And.intro b4 (And.intro b5 (And.intro b6 (And.intro r0 (And.intro r1 (And.intro r2 (And.intro r3 (And.intro r4 (And.intro r5 r6))))))))))))))
        clear u8 b0 b1 b2 b3 b4 b5 b6 r0 r1 r2 r3 r4 r5 r6
        go_wp2_with fail
        refine wp_region_held_drew (S := fun w' => Up w w' ∧ w'.cell? ⟨w.heap.size, 0, none⟩ = some (.int .i64 g) ∧ w'.cell? ⟨w.heap.size, 1, none⟩ = some (.int .i64 v) ∧ w'.cell? ⟨w.heap.size, 2, none⟩ = some (.int .i64 q) ∧ w'.cell? ⟨w.heap.size, 3, none⟩ = some (.int .i64 c) ∧ w'.cell? ⟨w.heap.size, 4, none⟩ = some (.int .i64 td) ∧ w'.cell? ⟨w.heap.size, 5, none⟩ = some (.int .i64 seq) ∧ w'.cell? ⟨w.heap.size, 6, none⟩ = some (.slice A n k) ∧ w'.cell? ⟨(w.heap.size + 1), 0, none⟩ = some (.int .i64 0) ∧ w'.cell? ⟨(w.heap.size + 1), 1, none⟩ = some (.int .i64 0) ∧ w'.cell? ⟨(w.heap.size + 1), 2, none⟩ = some (.int .i64 0) ∧ w'.cell? ⟨(w.heap.size + 1), 3, none⟩ = some (.int .i64 0) ∧ w'.cell? ⟨(w.heap.size + 1), 4, none⟩ = some (.int .i64 0) ∧ w'.cell? ⟨(w.heap.size + 1), 5, none⟩ = some (.int .i64 0) ∧ w'.cell? ⟨(w.heap.size + 1), 6, none⟩ = some (.slice none 0 0)) (by kernel_rfl) ?hB61 (fun hHeld => ?_)
        case hB61 => (first | (with_reducible assumption) | (with_reducible exact keepK14 (Lib.hid (Up.refl _).drew) HSS.out))
        refine wpAnyH_take (i := 0) (oi := ⟨_, _, _, _, _, _⟩) (v := ?v62) rfl (by kernel_rfl) (by kernel_rfl) (by kernel_rfl) (fun _ _ _ h => h) (Or.inl ⟨by rfl, ?hy62⟩) (by assumption) ?_
        case hy62 => (intro w hSw; (try dsimp only at hSw); go_simp; (try (with_reducible rfl)))
        (try simp only [Act.put, List.setIfInBounds_toArray, List.set_cons_zero, List.set_cons_succ])
        refine wpAnyH_take (i := 1) (oi := ⟨_, _, _, _, _, _⟩) (v := ?v63) rfl (by kernel_rfl) (by kernel_rfl) (by kernel_rfl) (fun _ _ _ h => h) (Or.inl ⟨by rfl, ?hy63⟩) (by assumption) ?_
        case hy63 => (intro w hSw; (try dsimp only at hSw); go_simp; (try (with_reducible rfl)))
        (try simp only [Act.put, List.setIfInBounds_toArray, List.set_cons_zero, List.set_cons_succ])
        refine wpAnyH_take (i := 2) (oi := ⟨_, _, _, _, _, _⟩) (v := ?v64) rfl (by kernel_rfl) (by kernel_rfl) (by kernel_rfl) (fun _ _ _ h => h) (Or.inl ⟨by rfl, ?hy64⟩) (by assumption) ?_
        case hy64 => (intro w hSw; (try dsimp only at hSw); go_simp; (try (with_reducible rfl)))
        (try simp only [Act.put, List.setIfInBounds_toArray, List.set_cons_zero, List.set_cons_succ])
        refine wpAnyH_take (i := 3) (oi := ⟨_, _, _, _, _, _⟩) (v := ?v65) rfl (by kernel_rfl) (by kernel_rfl) (by kernel_rfl) (fun _ _ _ h => h) (Or.inl ⟨by rfl, ?hy65⟩) (by assumption) ?_
        case hy65 => (intro w hSw; (try dsimp only at hSw); go_simp; (try (with_reducible rfl)))
        (try simp only [Act.put, List.setIfInBounds_toArray, List.set_cons_zero, List.set_cons_succ])
        refine wpAnyH_take (i := 4) (oi := ⟨_, _, _, _, _, _⟩) (v := undef) rfl (by kernel_rfl) (by kernel_rfl) (by kernel_rfl) (fun _ _ _ h => h) (Or.inr ⟨by rfl, rfl⟩) (by assumption) ?_
        (try simp only [Act.put, List.setIfInBounds_toArray, List.set_cons_zero, List.set_cons_succ])
        refine wpAnyH_take (i := 5) (oi := ⟨_, _, _, _, _, _⟩) (v := undef) rfl (by kernel_rfl) (by kernel_rfl) (by kernel_rfl) (fun _ _ _ h => h) (Or.inr ⟨by rfl, rfl⟩) (by assumption) ?_
        (try simp only [Act.put, List.setIfInBounds_toArray, List.set_cons_zero, List.set_cons_succ])
        refine wpAnyH_take (i := 6) (oi := ⟨_, _, _, _, _, _⟩) (v := undef) rfl (by kernel_rfl) (by kernel_rfl) (by kernel_rfl) (fun _ _ _ h => h) (Or.inr ⟨by rfl, rfl⟩) (by assumption) ?_
        (try simp only [Act.put, List.setIfInBounds_toArray, List.set_cons_zero, List.set_cons_succ])
        refine wpAnyH_take (i := 7) (oi := ⟨_, _, _, _, _, _⟩) (v := undef) rfl (by kernel_rfl) (by kernel_rfl) (by kernel_rfl) (fun _ _ _ h => h) (Or.inr ⟨by rfl, rfl⟩) (by assumption) ?_
        (try simp only [Act.put, List.setIfInBounds_toArray, List.set_cons_zero, List.set_cons_succ])
        refine wpAnyH_take (i := 8) (oi := ⟨_, _, _, _, _, _⟩) (v := undef) rfl (by kernel_rfl) (by kernel_rfl) (by kernel_rfl) (fun _ _ _ h => h) (Or.inr ⟨by rfl, rfl⟩) (by assumption) ?_
        (try simp only [Act.put, List.setIfInBounds_toArray, List.set_cons_zero, List.set_cons_succ])
        refine wpAnyH_take (i := 9) (oi := ⟨_, _, _, _, _, _⟩) (v := undef) rfl (by kernel_rfl) (by kernel_rfl) (by kernel_rfl) (fun _ _ _ h => h) (Or.inr ⟨by rfl, rfl⟩) (by assumption) ?_
        (try simp only [Act.put, List.setIfInBounds_toArray, List.set_cons_zero, List.set_cons_succ])
        refine wpAnyH_take (i := 10) (oi := ⟨_, _, _, _, _, _⟩) (v := ?v66) rfl (by kernel_rfl) (by kernel_rfl) (by kernel_rfl) (fun _ _ _ h => h) (Or.inl ⟨by rfl, ?hy66⟩) (by assumption) ?_
        case hy66 => (intro w hSw; (try dsimp only at hSw); go_simp; (try (with_reducible rfl)))
        (try simp only [Act.put, List.setIfInBounds_toArray, List.set_cons_zero, List.set_cons_succ])
        refine wpAnyH_done (by kernel_rfl) ?_ _
        obtain ⟨u8, b0, b1, b2, b3, b4, b5, b6, r0, r1, r2, r3, r4, r5, r6⟩ := hHeld
        (repeat clear ‹Up w _ ∧ _›)
        go_upto_region 10 with fail
        have hltW := World.block_lt_of_cell? _ _ r0
        obtain ⟨A2, k2, w2, hr, hO2, hU2⟩ := appendM 24 _ _ (.slice none 0 0) 0 [] (OG.nil _ _ _) (Up.refl _) B 0 kk [] (SG.none_) (by omega)
        simp only [Nat.zero_add, List.nil_append] at hr hO2
        have UU := u8.trans hU2
        have c00 := hU2.keep _ _ _ b0
        have c01 := hU2.keep _ _ _ b1
        have c02 := hU2.keep _ _ _ b2
        have c03 := hU2.keep _ _ _ b3
        have c04 := hU2.keep _ _ _ b4
        have c05 := hU2.keep _ _ _ b5
        have c06 := hU2.keep _ _ _ b6
        have c10 := hU2.keep _ _ _ r0
        have c11 := hU2.keep _ _ _ r1
        have c12 := hU2.keep _ _ _ r2
        have c13 := hU2.keep _ _ _ r3
        have c14 := hU2.keep _ _ _ r4
        have c15 := hU2.keep _ _ _ r5
        have c16 := hU2.keep _ _ _ r6
        have z06 := UU.ownGe (g := w.heap.size) (Nat.le_refl _) 6
        have z10 := UU.ownGe (g := w.heap.size + 1) (by omega) 0
        have z11 := UU.ownGe (g := w.heap.size + 1) (by omega) 1
        have z12 := UU.ownGe (g := w.heap.size + 1) (by omega) 2
        have z13 := UU.ownGe (g := w.heap.size + 1) (by omega) 3
        have z14 := UU.ownGe (g := w.heap.size + 1) (by omega) 4
        have z15 := UU.ownGe (g := w.heap.size + 1) (by omega) 5
        have z16 := UU.ownGe (g := w.heap.size + 1) (by omega) 6
        have UU := Lib.hid UU
        have HO2 := Lib.hid hO2
        have hlt := World.block_lt_of_cell? _ _ c10
        clear hO2 hU2 u8 b0 b1 b2 b3 b4 b5 b6 r0 r1 r2 r3 r4 r5 r6
        (repeat clear ‹Up w _ ∧ _›)
        go_wp2_with (refine wpList_append_run (o := ⟨some 48, _, _, _, _, _⟩) rfl (.const (.slice none 0 0)) (.tmp 47) _ rfl (.slice none 0 0) (.slice B 0 kk) rfl rfl _ _ hr ?_)
        have HNW := OG.nw HO2.out
        refine bodyPost_ret (v := .tuple #[.agg #[.int .i64 g, .int .i64 v, .int .i64 q, .int .i64 c, .int .i64 td, .int .i64 seq, .slice A2 0 k2], .int .i64 0]) (by simp [results, Try.results69, go_sem, c10, c11, c12, c13, c14, c15, c16]) rfl ⟨A2, 0, k2, rfl, by omega, (OG.sg HO2.out).1, fun b_ o_ h_ => by have := HNW b_ o_ h_; omega, ?_, ?_⟩
        · exact (UU.out.setCell (Nat.le_refl _) _).set7 (by omega)
        · exact ((OG.sg HO2.out).2.off (fun b_ o_ h_ => by have := HNW b_ o_ h_; omega) _).off7 (fun b_ o_ h_ => by have := HNW b_ o_ h_; omega) _ _ _ _ _ _ _

end Go.Proofs.Ytafkoddgefcpnaa
