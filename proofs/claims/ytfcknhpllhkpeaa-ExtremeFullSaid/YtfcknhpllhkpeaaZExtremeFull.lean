/- Proved: for every list of raw items and any numbers the law ExtremeFull returns true: a deque is full exactly if one more item would have to be stored. Conditions: none. -/
import Derived.Test.YtfcknhpllhkpeaaRows
import Derived.Test.YtfcknhpllhkpeaaZEFrameq95
import Derived.Test.YtfcknhpllhkpeaaZUFullq119
namespace Go.Proofs.Ytfcknhpllhkpeaa
open Go.ChangeShapes Go.WideShapes Go.ChangeAt Go.RowKit Go.Joins
set_option linter.unusedVariables false

theorem extremeFull_own : ownKnob Try.prog.godebug = none := by kernel_rfl

set_option maxHeartbeats 16000000 in
set_option maxRecDepth 100000 in
theorem extremeFull_walk (n k : Nat) (A : Option Addr) (L : List It) (hk : n ≤ k) (hI : InI L) (mx : Bool) (a0 : Int) (_ : (Lit.int .i64 a0).wf = true) (a1 : Int) (_ : (Lit.int .i64 a1).wf = true) (w : World) (hS : Sl w A n L) :
    Calls Try.prog 7 #[.slice A n k, .bool mx, .int .i64 a0, .int .i64 a1] w fun e w' => e = .returned (.bool true) ∧ Up w w' := by
  have KA := Lib.hid awake17_up
  have KW := Lib.hid (fun W => modm_any a0 20 (by decide) (by decide) W)
  have q0 := Int.emod_nonneg a0 (show (20 : Int) ≠ 0 by decide)
  have q1 := Int.emod_lt_of_pos a0 (show (0 : Int) < 20 by decide)
  obtain ⟨v, hv⟩ : ∃ z, z = 5 + a0 % 20 := ⟨_, rfl⟩
  have kv : IntKind.i64.wrap (5 + a0 % 20) = v := by rw [hv]; exact IntWalk.i64_in _ (by omega)
  have hv1 : 1 ≤ v ∧ v ≤ 25 := by omega
  generalize a0 % 20 = rv at *
  have KW2 := Lib.hid (fun W => int_any a1 4 (by decide) (by decide) W)
  have q2 := Int.emod_nonneg a1 (show (4 : Int) ≠ 0 by decide)
  have q3 := Int.emod_lt_of_pos a1 (show (0 : Int) < 4 by decide)
  obtain ⟨c, hc⟩ : ∃ z, z = 1 + a1 % 4 := ⟨_, rfl⟩
  have kc : IntKind.i64.wrap (1 + a1 % 4) = c := by rw [hc]; exact IntWalk.i64_in _ (by omega)
  have hc1 : 1 ≤ c ∧ c ≤ 1000 := by omega
  generalize a1 % 4 = rc at *
  have KP := Lib.hid (fun W (h : Sl W A n L) => itemsI_up n k A L v hv1.1 hv1.2 60 (by decide) W h)
  rw [show ((60 : Nat) : Int) = 60 from rfl] at KP
  have KN := Lib.hid (fun W => dqN_up mx v c hv1 (by omega) W)
  have HS := Lib.hid hS
  clear hS hI hv hc q0 q1 q2 q3
  go_enter Try.func7, Try.ntmps7
  go_upto_region 3 with (first
    | (go_at_call 24; (with_reducible refine (KW.out _).mono ?_); rintro e w' ⟨rfl, rfl⟩)
    | (go_at_call 30; (with_reducible refine (KW2.out _).mono ?_); rintro e w' ⟨rfl, rfl⟩)
    | (go_at_call 9; (with_reducible refine (KN.out _).mono ?_); rintro e w1 ⟨rfl, hu⟩; have U1 := Lib.hid hu; clear hu))
  refine (show ∀ ws : World, ws = _ → Code.wp _ _ _ _ ws from fun ws hws => ?_) _ rfl
  have hp : w.heap.size ≤ w1.heap.size := U1.out.size
  have HV0 : Hid (Vx ws w1.heap.size mx v c 0 [] none 0) := Lib.hid (by rw [hws]; exact Vx.new Sl.none_ rfl (fun _ _ e => by cases e) (Nat.le_refl _))
  have HU0 : Hid (Up w ws) := Lib.hid (by rw [hws]; exact U1.out.alloc _ _)
  clear hws U1
  generalize w1.heap.size = p at *
  have hpl : p < ws.heap.size := HV0.out.lt
  go_wp2_with (go_at_call 25; (with_reducible refine (KP.out _ (HS.out.up HU0.out)).mono ?_); rintro e w3 ⟨Am, nm, km, M0, z, rfl, hnm, hT, hO, hu⟩; have HT := Lib.hid hT; have HSM := Lib.hid hO.all17.2; have HL := Lib.hid hO.all17.2.1; have HNm := Lib.hid (hO.off hpl); have HV3 := Lib.hid (HV0.out.up hu); have HU3 := Lib.hid (HU0.out.trans hu); clear hT hO hu)
  have HZ : Hid (0 ≤ z ∧ z ≤ 5100) := Lib.hid ⟨HT.out.1, by have h1 := HT.out.2.1; rw [HL.out] at h1; omega⟩
  clear HV0 HU0 HS KP KN KW KW2 kv kc hpl
  go_loopw [10, 33] (fun s t wr => ∃ (i : Nat) (now : Int) (X : List It) (A1 : Option Addr) (k1 : Nat), s = .int .i64 0 ∧ t = .int .i64 i ∧ i ≤ nm ∧ Hid (0 ≤ now ∧ now ≤ z ∧ stX mx v c now X = true ∧ (i < nm → now ≤ (M0.getD i (0, 0)).1)) ∧ Hid (Vx wr p mx v c now X A1 k1) ∧ Hid (Sl wr Am nm M0) ∧ Hid (Up w wr)) (fun _ t _ => nm - (intOf t).toNat)
  case atStart => exact ⟨0, 0, [], none, 0, rfl, rfl, Nat.zero_le _, Lib.hid ⟨Int.le_refl _, HZ.out.1, new_st17 ⟨hv1.1, by omega⟩ ⟨hc1.1, by omega⟩, fun h => (HT.out.2.2 0 (by rw [HL.out]; exact h)).1⟩, HV3, HSM, HU3⟩
  case round =>
    clear HV3 HSM HU3
    obtain ⟨i, now, X, A1, k1, rfl, rfl, hin, HC, HV, HSM, HU⟩ := hrel
    by_cases hi : i < nm
    case neg =>
      obtain rfl : i = nm := by omega
      have f1 : decide ((i : Int) < i) = false := decide_eq_false (by omega)
      go_wp2_with (go_at_call 12; (with_reducible refine (KA.out _).mono ?_); rintro e y3 ⟨rfl, hu⟩; have HY3 := Lib.hid (HU.out.trans hu); clear hu)
      go_ret
      exact ⟨rfl, HY3.out⟩
    obtain ⟨b, o, rfl, d0_, d1_⟩ := HSM.out.at_ hi
    have hil : i < M0.length := by rw [HL.out]; exact hi
    have q := HT.out.2.2 i hil
    have qn : i + 1 < nm → (M0.getD i (0, 0)).1 ≤ (M0.getD (i + 1) (0, 0)).1 := fun h => (HT.out.2.2 (i + 1) (by rw [HL.out]; exact h)).2.2.1 (Nat.succ_pos _)
    have qc := HC.out.2.2.2 hi
    have hz9 := HZ.out
    have hst := adv_st17 (t := (M0.getD i (0, 0)).1) HC.out.2.2.1 qc (by omega)
    have KD1 := Lib.hid (fun W A k hk hS => stA_up mx v c now (M0.getD i (0, 0)).1 X HC.out.2.2.1 qc (by omega) hc1.2 W A k hk hS)
    have KB := Lib.hid (fun hl W A k hk hS => stB_up mx v c (M0.getD i (0, 0)).1 (M0.getD i (0, 0)).2 (livL X (M0.getD i (0, 0)).1 v) hst q.2.2.2 hc1.2 hl W A k hk hS)
    have KF := Lib.hid (fun hl W A k hk hS => stF_up mx v c (M0.getD i (0, 0)).1 (M0.getD i (0, 0)).2 (livL X (M0.getD i (0, 0)).1 v) hst q.2.2.2 hc1.2 hl W A k hk hS)
    have HZ2 := Lib.hid (fun hl => add_st17 hst q.2.2.2 hl)
    have hx1 : (livL X (M0.getD i (0, 0)).1 v).length ≤ 1000 := by have := (stX_is hst).2.1; omega
    have KK := Lib.hid (fun W A' k' (h : Sl W A' ((livL X (M0.getD i (0, 0)).1 v).length + 1) (livL X (M0.getD i (0, 0)).1 v ++ [((M0.getD i (0, 0)).1, (M0.getD i (0, 0)).2)])) => (kept17_up mx _ k' A' _ (by omega) W h).mono (fun e w' h => show ∃ A' k', e = .returned (.slice A' (kpX mx (livL X (M0.getD i (0, 0)).1 v ++ [((M0.getD i (0, 0)).1, (M0.getD i (0, 0)).2)])).length k') ∧ Sl w' A' (kpX mx (livL X (M0.getD i (0, 0)).1 v ++ [((M0.getD i (0, 0)).1, (M0.getD i (0, 0)).2)])).length (kpX mx (livL X (M0.getD i (0, 0)).1 v ++ [((M0.getD i (0, 0)).1, (M0.getD i (0, 0)).2)])) ∧ Up W w' from by
      obtain ⟨A', n', k', h1, h2, h3⟩ := h
      obtain rfl := h2.all17.2.1
      exact ⟨A', k', h1, h2.all17.2, h3⟩))
    rw [add_kp hst] at KK
    have hzl := adE_len mx (M0.getD i (0, 0)).1 (M0.getD i (0, 0)).2 (livL X (M0.getD i (0, 0)).1 v)
    have HC1 : Hid (0 ≤ (M0.getD i (0, 0)).1 ∧ (M0.getD i (0, 0)).1 ≤ z ∧ (i + 1 < nm → (M0.getD i (0, 0)).1 ≤ (M0.getD (i + 1) (0, 0)).1)) := Lib.hid ⟨q.1, q.2.1, qn⟩
    have HST := Lib.hid hst
    unfold DqC at KD1 KB
    clear q qn qc HC hz9 hst
    generalize adE mx (M0.getD i (0, 0)).1 (M0.getD i (0, 0)).2 (livL X (M0.getD i (0, 0)).1 v) = Z at *
    generalize livL X (M0.getD i (0, 0)).1 v = X1 at *
    generalize (M0.getD i (0, 0)).1 = t at *
    generalize (M0.getD i (0, 0)).2 = y at *
    have KI := Lib.hid (fun A B k j W (hA : Sl W A Z.length Z) (hB : Sl W B Z.length Z) => sameItems_t Z.length k j A B Z (by omega) W hA hB)
    clear hzl
    have g2 : (i : Int) < nm := by omega
    have g3 : (0 : Int) ≤ i := by omega
    have hpc : p < wr.heap.size := HV.out.lt
    have x0 := HV.out.c0
    have x1 := HV.out.c1
    have x2 := HV.out.c2
    have x3 := HV.out.c3
    have x4 := HV.out.c4
    go_upto_region 7 with (go_at_call 14; (with_reducible refine (KD1.out _ A1 k1 HV.out.cap (HV.out.sl.up ((Up.refl wr).alloc _ _))).mono ?_); rintro e w5 ⟨A5, k5, rfl, hN, hS, hu⟩; have HS5 := Lib.hid hS; have HK5 := Lib.hid hN.1; have HC5 : Hid (Up wr w5) := Lib.hid (((Up.refl wr).alloc _ _).trans hu); have HN5 : Hid (∀ b o, A5 = some ⟨b, o, none⟩ → wr.heap.size ≤ b) := Lib.hid (fun b o e => by have := hN.2 b o e; (try simp at this); omega); have u0 := hu.keep wr.heap.size 0 (.int .i64 t) (by simp [go_sem]); have u1 := hu.keep wr.heap.size 1 (.int .i64 y) (by simp [go_sem]); clear hN hS hu; have z5 := fun o => (HU.out.trans HC5.out).ownGe hp o; have y0 := HC5.out.keep _ _ _ x0; have y1 := HC5.out.keep _ _ _ x1; have y2 := HC5.out.keep _ _ _ x2; have y3 := HC5.out.keep _ _ _ x3; have y4 := HC5.out.keep _ _ _ x4)
    have zw5 : wr.heap.size < w5.heap.size := World.block_lt_of_cell? _ _ u0
    refine (show ∀ ws6 : World, ws6 = _ → Code.wp _ _ _ _ ws6 from fun ws6 hws => ?_) _ rfl
    have HV6 : Hid (Vx ws6 p mx v c t X1 A5 k5) := Lib.hid (by rw [hws]; exact Vx.put (HC5.out.keep _ _ _ x0) (HC5.out.keep _ _ _ x1) (HC5.out.keep _ _ _ x2) (HC5.out.keep _ _ _ x3) (HC5.out.keep _ _ _ x4) HS5.out (fun b o e => by have := HN5.out b o e; omega) HK5.out)
    have HSM6 : Hid (Sl ws6 (some ⟨b, o, none⟩) nm M0) := Lib.hid (by rw [hws]; exact (HSM.out.up HC5.out).w5 HNm.out)
    have HU6 : Hid (Up w ws6) := Lib.hid (by rw [hws]; exact (HU.out.trans HC5.out).w5 hp)
    have r0 : ws6.cell? ⟨wr.heap.size, 0, none⟩ = some (.int .i64 t) := by rw [hws]; exact cell_w5 u0 (by omega)
    have r1 : ws6.cell? ⟨wr.heap.size, 1, none⟩ = some (.int .i64 y) := by rw [hws]; exact cell_w5 u1 (by omega)
    clear hws
    have zb1 : wr.heap.size < ws6.heap.size := World.block_lt_of_cell? _ _ r0
    have zb0 : p < ws6.heap.size := HV6.out.lt
    clear x0 x1 x2 x3 x4 y0 y1 y2 y3 y4 u0 u1 z5 HS5 HC5 zw5
    have x0 := HV6.out.c0
    have x1 := HV6.out.c1
    have x2 := HV6.out.c2
    have x3 := HV6.out.c3
    have x4 := HV6.out.c4
    have hSt := HV6.out.sl
    obtain ⟨v1, w6a, r1, o1, u1⟩ := append0_run 22 ws6 (ws6.alloc (.cells #[] 41)).drew ws6.heap.size ((own_empty' (w := ws6) rfl (Nat.le_refl _)).of_up (Up.refl _).drew) ((Up.refl ws6).alloc _ _).drew A5 X1.length k5 X1 (hSt.up ((Up.refl ws6).alloc _ _).drew) (by omega)
    obtain ⟨A1a, k1a, rfl, _, _⟩ := o1.sl
    have v1 : Up ws6 w6a := ((Up.refl ws6).alloc _ _).drew.trans u1
    obtain ⟨v2, w7a, r2, o2, u2⟩ := append_run 22 ws6 (w6a.alloc (.cells #[.int .i64 t, .int .i64 y] 41)) _ X1.length X1 (o1.of_up ((Up.refl _).alloc _ _)) (v1.alloc _ _) (some ⟨w6a.heap.size, 0, none⟩) 1 1 [(t, y)] (one_new w6a t y) (by omega)
    obtain ⟨A2a, k2a, rfl, _, _⟩ := o2.sl
    have R1a := Lib.hid r1
    have R2a := Lib.hid r2
    have V6a := Lib.hid v1
    have O7a := Lib.hid o2.all17.2
    have V7a := Lib.hid u2
    clear r1 r2 o1 o2 u1 u2 v1
    obtain ⟨v1, w6b, r1, o1, u1⟩ := append0_run 22 ws6 ((ws6.alloc (.cells #[] 41)).alloc (.cells #[.int .i64 t, .int .i64 y] 41)).drew ws6.heap.size ((own_empty' (w := ws6) rfl (Nat.le_refl _)).of_up ((Up.refl _).alloc _ _).drew) (((Up.refl ws6).alloc _ _).alloc _ _).drew A5 X1.length k5 X1 (hSt.up (((Up.refl ws6).alloc _ _).alloc _ _).drew) (by omega)
    obtain ⟨A1b, k1b, rfl, _, _⟩ := o1.sl
    have v1 : Up ws6 w6b := (((Up.refl ws6).alloc _ _).alloc _ _).drew.trans u1
    obtain ⟨v2, w7b, r2, o2, u2⟩ := append_run 22 ws6 w6b _ X1.length X1 o1 v1 (some ⟨(ws6.heap.size + 1), 0, none⟩) 1 1 [(t, y)] (((one_new' _ t y (by simp)).up (Up.refl _).drew).up u1) (by omega)
    obtain ⟨A2b, k2b, rfl, _, _⟩ := o2.sl
    have R1b := Lib.hid r1
    have R2b := Lib.hid r2
    have V6b := Lib.hid v1
    have O7b := Lib.hid o2.all17.2
    have V7b := Lib.hid u2
    clear r1 r2 o1 o2 u1 u2 v1
    obtain ⟨v1, w6c, r1, o1, u1⟩ := append0_run 22 ws6 ((ws6.alloc (.cells #[.int .i64 t, .int .i64 y] 41)).alloc (.cells #[] 41)).drew (ws6.heap.size + 1) ((own_empty' (by simp) (by simp)).of_up (Up.refl _).drew) (((Up.refl ws6).alloc _ _).alloc _ _).drew A5 X1.length k5 X1 (hSt.up (((Up.refl ws6).alloc _ _).alloc _ _).drew) (by omega)
    obtain ⟨A1c, k1c, rfl, _, _⟩ := o1.sl
    have v1 : Up ws6 w6c := (((Up.refl ws6).alloc _ _).alloc _ _).drew.trans u1
    obtain ⟨v2, w7c, r2, o2, u2⟩ := append_run 22 ws6 w6c _ X1.length X1 o1 v1 (some ⟨ws6.heap.size, 0, none⟩) 1 1 [(t, y)] (((one_new' _ t y rfl).up ((Up.refl _).alloc _ _).drew).up u1) (by omega)
    obtain ⟨A2c, k2c, rfl, _, _⟩ := o2.sl
    have R1c := Lib.hid r1
    have R2c := Lib.hid r2
    have V6c := Lib.hid v1
    have O7c := Lib.hid o2.all17.2
    have V7c := Lib.hid u2
    clear r1 r2 o1 o2 u1 u2 v1
    clear hSt
    go_upto_region 9 with fail
    go_cut [13] (fun s wx => ∃ (A8 : Option Addr) (k8 : Nat), s = .slice A8 Z.length k8 ∧ Hid (Sl wx A8 Z.length Z) ∧ Hid (Up ws6 wx))
    case first =>
      go_region_held3 (KB2 p wr.heap.size ws6 ws6) (first | (with_reducible exact KB2.start (Lib.hid (Up.refl ws6))) | (with_reducible exact KB2.old17 (Up.refl ws6) (Hid.out (by assumption)) zb0 zb1) | (repeat (first | (with_reducible exact KB2.start (Lib.hid (Up.refl ws6))) | (with_reducible exact KB2.old17 (Up.refl ws6) (Hid.out (by assumption)) zb0 zb1) | (with_reducible exact KB2.old17 (Up.refl ws6) (Up.refl ws6) zb0 zb1) | (with_reducible refine KB2.next ((Up.refl _).alloc _ _) ?_) | (with_reducible refine KB2.next (Up.refl _).drew ?_) | (with_reducible assumption)))) (first
        | ((with_reducible refine step_append_run rfl (.tmp 46) (.tmp 48) _ rfl _ _ ?_ ?_ _ _ R1a.out ?_); rfl; rfl)
        | ((with_reducible refine step_append_run rfl (.tmp 49) (.tmp 51) _ rfl _ _ ?_ ?_ _ _ R2a.out ?_); rfl; rfl)
        | ((with_reducible refine step_append_run rfl (.tmp 46) (.tmp 48) _ rfl _ _ ?_ ?_ _ _ R1b.out ?_); rfl; rfl)
        | ((with_reducible refine step_append_run rfl (.tmp 49) (.tmp 51) _ rfl _ _ ?_ ?_ _ _ R2b.out ?_); rfl; rfl)
        | ((with_reducible refine step_append_run rfl (.tmp 46) (.tmp 48) _ rfl _ _ ?_ ?_ _ _ R1c.out ?_); rfl; rfl)
        | ((with_reducible refine step_append_run rfl (.tmp 49) (.tmp 51) _ rfl _ _ ?_ ?_ _ _ R2c.out ?_); rfl; rfl)
        | (go_at_call 28; (with_reducible refine (KK.out _ _ _ O7a.out).mono ?_); rintro e w8 ⟨A8, k8, rfl, hS8, hu8⟩; have HS8 := Lib.hid hS8; have HU8 := Lib.hid (V7a.out.trans hu8); clear hS8 hu8)
        | (go_at_call 28; (with_reducible refine (KK.out _ _ _ O7b.out).mono ?_); rintro e w8 ⟨A8, k8, rfl, hS8, hu8⟩; have HS8 := Lib.hid hS8; have HU8 := Lib.hid (V7b.out.trans hu8); clear hS8 hu8)
        | (go_at_call 28; (with_reducible refine (KK.out _ _ _ O7c.out).mono ?_); rintro e w8 ⟨A8, k8, rfl, hS8, hu8⟩; have HS8 := Lib.hid hS8; have HU8 := Lib.hid (V7c.out.trans hu8); clear hS8 hu8))
      all_goals
        go_wp2_with fail
        go_meet
        exact ⟨A8, k8, rfl, HS8, HU8⟩
    case rest =>
    obtain ⟨A8, k8, rfl, HS8, HU8⟩ := hcut
    clear R1a R2a V6a O7a V7a R1b R2b V6b O7b V7b R1c R2c V6c O7c V7c
    obtain ⟨w8, hw8⟩ : ∃ z, z = wc := ⟨_, rfl⟩
    subst hw8
    have HV8 := Lib.hid (HV6.out.up HU8.out)
    have HSM8 := Lib.hid (HSM6.out.up HU8.out)
    have HUa := Lib.hid (HU6.out.trans HU8.out)
    have s0 := HU8.out.keep _ _ _ r0
    have s1 := HU8.out.keep _ _ _ r1
    clear x0 x1 x2 x3 x4 r0 r1 zb0 zb1 HV6 HSM6 HU6 HU8 KK KD1
    have hp8 : p < w8.heap.size := HV8.out.lt
    have x0 := HV8.out.c0
    have x1 := HV8.out.c1
    have x2 := HV8.out.c2
    have x3 := HV8.out.c3
    have x4 := HV8.out.c4
    by_cases hcl : (Z.length : Int) ≤ c
    case neg =>
      have KF2 := Lib.hid (KF.out (by omega))
      have t1 : decide ((Z.length : Int) ≤ c) = false := decide_eq_false hcl
      have t2 : decide (c < (Z.length : Int)) = true := decide_eq_true (by omega)
      clear KF KB HZ2 hcl
      go_wp2_with (go_at_call 16; (with_reducible refine (KF2.out _ _ _ HV8.out.cap HV8.out.sl).mono ?_); rintro e w9 ⟨A9, k9, rfl, hu⟩; have HV9 := Lib.hid (HV8.out.up (hu.trans ((Up.refl _).alloc #[.bool false, .int .i64 0, .int .i64 0, .int .i64 0, .slice A9 0 k9] 24))); have HSM9 := Lib.hid (HSM8.out.up (hu.trans ((Up.refl _).alloc #[.bool false, .int .i64 0, .int .i64 0, .int .i64 0, .slice A9 0 k9] 24))); have HU9 := Lib.hid (HUa.out.trans (hu.trans ((Up.refl _).alloc #[.bool false, .int .i64 0, .int .i64 0, .int .i64 0, .slice A9 0 k9] 24))); clear hu)
      go_roundw
      case rel => exact ⟨i + 1, t, X1, A5, k5, rfl, by go_num, by omega, Lib.hid ⟨HC1.out.1, HC1.out.2.1, HST.out, HC1.out.2.2⟩, HV9, HSM9, HU9⟩
      case measure => simp [intOf]; omega
    have KBx := Lib.hid (KB.out hcl)
    have HST2 := Lib.hid (HZ2.out hcl)
    have t1 : decide ((Z.length : Int) ≤ c) = true := decide_eq_true hcl
    have t2 : decide (c < (Z.length : Int)) = false := decide_eq_false (by omega)
    clear KF KB HZ2 hcl HST
    have ez := fun o => HUa.out.ownGe hp o
    go_upto_region 14 with (first
      | (go_at_call 16; (with_reducible refine (KBx.out _ _ _ HV8.out.cap HV8.out.sl).mono ?_); rintro e w9 ⟨A9, k9, rfl, hN, hS, hu⟩; have HS9 := Lib.hid hS; have HK9 := Lib.hid hN.1; have HN9 : Hid (∀ b o, A9 = some ⟨b, o, none⟩ → w8.heap.size ≤ b) := Lib.hid hN.2; have HC9 := Lib.hid hu; have HT8 := Lib.hid (HS8.out.up hu); clear hN hS hu)
      | (go_at_call 27; (with_reducible refine (KI.out _ _ _ _ _ (HS9.out.up ((Up.refl _).alloc _ _)) (HT8.out.up ((Up.refl _).alloc _ _))).mono ?_); rintro e w10 ⟨rfl, hu⟩; have b0 := hu.keep w9.heap.size 0 (.bool mx) (by simp [go_sem]); have b1 := hu.keep w9.heap.size 1 (.int .i64 v) (by simp [go_sem]); have b2 := hu.keep w9.heap.size 2 (.int .i64 c) (by simp [go_sem]); have b3 := hu.keep w9.heap.size 3 (.int .i64 t) (by simp [go_sem]); have b4 := hu.keep w9.heap.size 4 (.slice A9 Z.length k9) (by simp [go_sem]); have HC7 : Hid (Up w8 w10) := Lib.hid (HC9.out.trans (((Up.refl _).alloc _ _).trans hu)); have HS7 := Lib.hid (HS9.out.up (((Up.refl w9).alloc _ _).trans hu)); clear hu))
    have hw89 := HC9.out.size
    have HN7 : Hid (∀ b o, A9 = some ⟨b, o, none⟩ → w8.heap.size ≤ b) := HN9
    have z10 := fun o => (HUa.out.trans HC7.out).ownGe hp o
    have y0 := HC7.out.keep _ _ _ x0
    have y1 := HC7.out.keep _ _ _ x1
    have y2 := HC7.out.keep _ _ _ x2
    have y3 := HC7.out.keep _ _ _ x3
    have y4 := HC7.out.keep _ _ _ x4
    go_upto_region 15 with fail
    refine (show ∀ ws11 : World, ws11 = _ → Code.wp _ _ _ _ ws11 from fun ws11 hws => ?_) _ rfl
    have HV11 : Hid (Vx ws11 p mx v c t Z A9 k9) := Lib.hid (by rw [hws]; exact Vx.put (HC7.out.keep _ _ _ x0) (HC7.out.keep _ _ _ x1) (HC7.out.keep _ _ _ x2) (HC7.out.keep _ _ _ x3) (HC7.out.keep _ _ _ x4) HS7.out (fun b o e => by have := HN7.out b o e; omega) HK9.out)
    have HSM11 : Hid (Sl ws11 (some ⟨b, o, none⟩) nm M0) := Lib.hid (by rw [hws]; exact (HSM8.out.up HC7.out).w5 HNm.out)
    have HU11 : Hid (Up w ws11) := Lib.hid (by rw [hws]; exact (HUa.out.trans HC7.out).w5 hp)
    clear hws
    go_wp2_with fail
    go_roundw
    case rel => exact ⟨i + 1, t, Z, A9, k9, rfl, by go_num, by omega, Lib.hid ⟨HC1.out.1, HC1.out.2.1, HST2.out, HC1.out.2.2⟩, HV11, HSM11, HU11⟩
    case measure => simp [intOf]; omega

set_option maxRecDepth 100000 in
theorem extremeFull_lifted (os : Os) (started : os.Started) (H : Type) (enc : TypeId × Value → H) :
    ReturnsInHanded {} Try.checked os 7 .any (Rows.extremeFullSpec.pre6 enc Try.prog Try.f7 Rows.extremeFullRow.domain false) (Rows.extremeFullSpec.post enc Try.prog Try.f7 false true false false) := by
  refine returnsInHanded_of_change_sized (C := Try.checked) extremeFull_own started (by kernel_rfl) Try.func7
    (ChangeSpec.witness6 (enc := enc) (C := Try.checked) false ⟨#[], #[.slice none 0 0, .bool false, .int .i64 0, .int .i64 0], []⟩ 8 (by kernel_rfl) (by kernel_rfl) (by kernel_rfl) (by kernel_rfl)) ?_
  intro W base args ds gs before hval0 hW hcnd hsz0 _
  have hval : ∀ (j : Nat) t v, Try.f7.params[j]? = some t → args[j]? = some v → Value.okWide Try.prog W .any base t v := hval0
  have hW' := hW
  obtain ⟨p, q, hA0, hV, rfl, hfz, hnd⟩ := hW'
  have hA : DataW.TrodAll enc Try.prog W 0 (fun _ => true) true Try.f7.params.toList args.toList ds p := hA0
  rw [Try.params7] at hA hval
  obtain ⟨v0, vs0, d0, ds0, p0, q0, hargs, rfl, rfl, h0, r0⟩ := trodAll_cons hA
  obtain ⟨v1, vs1, d1, ds1, p1, q1, rfl, rfl, rfl, h1, r1⟩ := trodAll_cons r0
  obtain ⟨v2, vs2, d2, ds2, p2, q2, rfl, rfl, rfl, h2, r2⟩ := trodAll_cons r1
  obtain ⟨v3, vs3, d3, ds3, p3, q3, rfl, rfl, rfl, h3, r3⟩ := trodAll_cons r2
  obtain ⟨rfl, rfl, rfl⟩ := trodAll_nil r3
  obtain rfl : args = #[v0, v1, v2, v3] := by cases args; simp_all
  obtain ⟨rfl, rfl⟩ := trodVars_none hV
  have hlt := fun x hx => hW.lt x hx
  have k0 := h0
  obtain ⟨n0, m0, A0, L0, rfl, hk0, hS0, hI0⟩ := open_items2 (hval 0 22 v0 rfl rfl) h0
  have k1 := h1
  obtain ⟨a1, rfl, rfl, rfl⟩ := Go.RowKit.open_bool Try.underlying4 (hval 1 4 v1 rfl rfl) h1
  have k2 := h2
  obtain ⟨a2, rfl, rfl, rfl, w2⟩ := open_int Try.underlying2 (hval 2 2 v2 rfl rfl) h2
  have k3 := h3
  obtain ⟨a3, rfl, rfl, rfl, w3⟩ := open_int Try.underlying3 (hval 3 3 v3 rfl rfl) h3
  refine (extremeFull_walk n0 m0 A0 L0 hk0 hI0 a1 a2 w2 a3 w3 W hS0).mono fun e W' ⟨he, hg⟩ => ?_
  subst he
  exact ⟨_, rfl, post_of_same (pv := []) hW (fun _ _ _ => (trodAll_cons_mk (shut_bool Try.underlying4 _) trodAll_mk0)) (fun sp hsp => (trodAll_cons_mk (stay (by kernel_rfl) (of_decide_eq_true (by kernel_rfl)) k0 hg hlt (fun x hx => by first | (simp at hx; done) | simp [hx]) hsp) (trodAll_cons_mk (stay (by kernel_rfl) (of_decide_eq_true (by kernel_rfl)) k1 hg hlt (fun x hx => by first | (simp at hx; done) | simp [hx]) hsp) (trodAll_cons_mk (stay (by kernel_rfl) (of_decide_eq_true (by kernel_rfl)) k2 hg hlt (fun x hx => by first | (simp at hx; done) | simp [hx]) hsp) (trodAll_cons_mk (stay (by kernel_rfl) (of_decide_eq_true (by kernel_rfl)) k3 hg hlt (fun x hx => by first | (simp at hx; done) | simp [hx]) hsp) trodAll_mk0))))) (fun _ _ => rfl) rfl
    (hg.grown.frame _) hg.grown.2.1 (ok_one (by kernel_rfl) rfl (okWide_bool_mk Try.underlying4 _))⟩

theorem extremeFull_over : Rows.extremeFullRow.holds Try.pinned (OpenSpec.ofChange Rows.extremeFullSpec) :=
  OpenClaim.holds_of_wide 7 Try.f7 rfl rfl rfl rfl rfl rfl rfl ⟨rfl, rfl, rfl, rfl, rfl⟩ rfl rfl rfl rfl rfl (by kernel_rfl) Try.func7 (by kernel_rfl)
    (of_decide_eq_true (by kernel_rfl)) (by unfold Func.isWrapper; first | (rw [if_pos (by decide +kernel)]; kernel_rfl) | (rw [if_neg (by decide +kernel)]; exact ⟨rfl, rfl⟩))
    (fun os started H enc _ => extremeFull_lifted os started H enc)

theorem extremeFull_holds : Rows.ExtremeFullSaid :=
  extremeFull_over
end Go.Proofs.Ytfcknhpllhkpeaa
