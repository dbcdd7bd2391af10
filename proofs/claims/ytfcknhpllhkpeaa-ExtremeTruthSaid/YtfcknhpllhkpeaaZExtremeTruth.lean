/- Proved: for every list of raw items and any numbers the law ExtremeTruth returns true: the answer is the greatest or the least live value, and the deque has exactly the live items that no other one rules out. Conditions: none. -/
import Derived.Test.YtfcknhpllhkpeaaRows
import Derived.Test.YtfcknhpllhkpeaaZEFrameq95
import Derived.Test.YtfcknhpllhkpeaaZUPlayq117
namespace Go.Proofs.Ytfcknhpllhkpeaa
open Go.ChangeShapes Go.WideShapes Go.ChangeAt Go.RowKit Go.Joins
set_option linter.unusedVariables false

theorem extremeTruth_own : ownKnob Try.prog.godebug = none := by kernel_rfl

set_option maxHeartbeats 16000000 in
set_option maxRecDepth 100000 in
theorem extremeTruth_walk (n k : Nat) (A : Option Addr) (L : List It) (hk : n ≤ k) (hI : InI L) (mx : Bool) (a0 : Int) (_ : (Lit.int .i64 a0).wf = true) (later : Int) (_ : (Lit.int .i64 later).wf = true) (w : World) (hS : Sl w A n L) :
    Calls Try.prog 6 #[.slice A n k, .bool mx, .int .i64 a0, .int .i64 later] w fun e w' => e = .returned (.bool true) ∧ Up w w' := by
  have KA := Lib.hid awake17_up
  have KW := Lib.hid (fun W => modm_any a0 20 (by decide) (by decide) W)
  have q0 := Int.emod_nonneg a0 (show (20 : Int) ≠ 0 by decide)
  have q1 := Int.emod_lt_of_pos a0 (show (0 : Int) < 20 by decide)
  obtain ⟨v, hv⟩ : ∃ z, z = 1 + a0 % 20 := ⟨_, rfl⟩
  have kv : IntKind.i64.wrap (1 + a0 % 20) = v := by rw [hv]; exact IntWalk.i64_in _ (by omega)
  have hv1 : 1 ≤ v ∧ v ≤ 25 := by omega
  generalize a0 % 20 = rv at *
  have KP := Lib.hid (fun W (h : Sl W A n L) => itemsI_up n k A L v hv1.1 hv1.2 100 (by decide) W h)
  rw [show ((100 : Nat) : Int) = 100 from rfl] at KP
  have KN := Lib.hid (fun W => dqN_up mx v 200 hv1 (by decide) W)
  have KT := Lib.hid (fun W => modm_any later (v + 2) (by omega) (by omega) W)
  have d0 := Int.emod_nonneg later (show v + 2 ≠ 0 by omega)
  have d1 := Int.emod_lt_of_pos later (show (0 : Int) < v + 2 by omega)
  have kv2 : IntKind.i64.wrap (v + 2) = v + 2 := IntWalk.i64_in _ (by omega)
  generalize later % (v + 2) = s at *
  have HS := Lib.hid hS
  clear hS hI hv q0 q1
  go_enter Try.func6, Try.ntmps6
  go_upto_region 3 with (first
    | (go_at_call 24; (with_reducible refine (KW.out _).mono ?_); rintro e w' ⟨rfl, rfl⟩)
    | (go_at_call 9; (with_reducible refine (KN.out _).mono ?_); rintro e w1 ⟨rfl, hu⟩; have U1 := Lib.hid hu; clear hu))
  refine (show ∀ ws : World, ws = _ → Code.wp _ _ _ _ ws from fun ws hws => ?_) _ rfl
  have hp : w.heap.size ≤ w1.heap.size := U1.out.size
  have HV0 : Hid (Vx ws w1.heap.size mx v 200 0 [] none 0) := Lib.hid (by rw [hws]; exact Vx.new Sl.none_ rfl (fun _ _ e => by cases e) (Nat.le_refl _))
  have HU0 : Hid (Up w ws) := Lib.hid (by rw [hws]; exact U1.out.alloc _ _)
  clear hws U1
  generalize w1.heap.size = p at *
  have hpl : p < ws.heap.size := HV0.out.lt
  go_wp2_with (go_at_call 25; (with_reducible refine (KP.out _ (HS.out.up HU0.out)).mono ?_); rintro e w3 ⟨Am, nm, km, M0, z, rfl, hnm, hT, hO, hu⟩; have HT := Lib.hid hT; have HSM := Lib.hid hO.all17.2; have HL := Lib.hid hO.all17.2.1; have HNm := Lib.hid (hO.off hpl); have HV3 := Lib.hid (HV0.out.up hu); have HU3 := Lib.hid (HU0.out.trans hu); clear hT hO hu)
  have HZ : Hid (0 ≤ z ∧ z ≤ 5100) := Lib.hid ⟨HT.out.1, by have h1 := HT.out.2.1; rw [HL.out] at h1; omega⟩
  clear HV0 HU0 HS KP KN KW kv hpl
  go_loopw [10, 33] (fun s t wr => ∃ (i : Nat) (now : Int) (A1 : Option Addr) (k1 : Nat), s = .int .i64 0 ∧ t = .int .i64 i ∧ i ≤ nm ∧ Hid (0 ≤ now ∧ now ≤ z ∧ okQ now (M0.take i) ∧ (i < nm → now ≤ (M0.getD i (0, 0)).1)) ∧ Hid (Vx wr p mx v 200 now (dqX mx v now (M0.take i)) A1 k1) ∧ Hid (Sl wr Am nm M0) ∧ Hid (Up w wr)) (fun _ t _ => nm - (intOf t).toNat)
  case atStart => exact ⟨0, 0, none, 0, rfl, rfl, Nat.zero_le _, Lib.hid ⟨Int.le_refl _, HZ.out.1, fun x hx => absurd hx (by simp), fun h => (HT.out.2.2 0 (by rw [HL.out]; exact h)).1⟩, HV3, HSM, HU3⟩
  case round =>
    clear HV3 HSM HU3
    obtain ⟨i, now, A1, k1, rfl, rfl, hin, HC, HV, HSM, HU⟩ := hrel
    by_cases hi : i < nm
    case pos =>
      obtain ⟨b, o, rfl, d0_, d1_⟩ := HSM.out.at_ hi
      have hil : i < M0.length := by rw [HL.out]; exact hi
      have q := HT.out.2.2 i hil
      have q2 : i + 1 < nm → (M0.getD i (0, 0)).1 ≤ (M0.getD (i + 1) (0, 0)).1 := fun h => (HT.out.2.2 (i + 1) (by rw [HL.out]; exact h)).2.2.1 (Nat.succ_pos _)
      have qc := HC.out.2.2.2 hi
      have et := takeX_getD hil
      have hz9 := HZ.out
      have KD1 := Lib.hid (fun W A k hk hS => dqA_up mx v now (M0.getD i (0, 0)).1 (M0.take i) hv1 HC.out.1 qc (by omega) HC.out.2.2.1 W A k hk hS)
      have KD2 := Lib.hid (fun W A k hk hS => dqB_up mx v (M0.getD i (0, 0)).1 (M0.getD i (0, 0)).2 (M0.take i) hv1 ⟨by omega, by omega⟩ q.2.2.2 (HC.out.2.2.1.later qc) W A k hk hS)
      rw [← et] at KD2
      unfold DqR at KD1 KD2
      have HC2 : Hid (0 ≤ (M0.getD i (0, 0)).1 ∧ (M0.getD i (0, 0)).1 ≤ z ∧ okQ (M0.getD i (0, 0)).1 (M0.take (i + 1)) ∧ (i + 1 < nm → (M0.getD i (0, 0)).1 ≤ (M0.getD (i + 1) (0, 0)).1)) := Lib.hid ⟨q.1, q.2.1, by rw [et]; exact (HC.out.2.2.1.later qc).push q.1 q.2.2.2, q2⟩
      clear q q2 qc et HC hz9
      obtain ⟨X3, hX3⟩ : ∃ X, X = dqX mx v (M0.getD i (0, 0)).1 (M0.take (i + 1)) := ⟨_, rfl⟩
      rw [← hX3] at KD2
      have HX3 := Lib.hid hX3
      clear hX3
      generalize dqX mx v now (M0.take i) = X1 at *
      generalize dqX mx v (M0.getD i (0, 0)).1 (M0.take i) = X2 at *
      generalize (M0.getD i (0, 0)).1 = t at *
      generalize (M0.getD i (0, 0)).2 = y at *
      have g2 : (i : Int) < nm := by omega
      have g3 : (0 : Int) ≤ i := by omega
      have hpc : p < wr.heap.size := HV.out.lt
      have x0 := HV.out.c0
      have x1 := HV.out.c1
      have x2 := HV.out.c2
      have x3 := HV.out.c3
      have x4 := HV.out.c4
      have zf := fun o => HU.out.ownGe hp o
      go_upto_region 9 with (go_at_call 14; (with_reducible refine (KD1.out _ A1 k1 HV.out.cap (HV.out.sl.up ((Up.refl wr).alloc _ _))).mono ?_); rintro e w5 ⟨A5, k5, rfl, hN, hS, hu⟩; have HS5 := Lib.hid hS; have HK5 := Lib.hid hN.1; have HC5 : Hid (Up wr w5) := Lib.hid (((Up.refl wr).alloc _ _).trans hu); have HN5 : Hid (∀ b o, A5 = some ⟨b, o, none⟩ → wr.heap.size ≤ b) := Lib.hid (fun b o e => by have := hN.2 b o e; (try simp at this); omega); have u0 := hu.keep wr.heap.size 0 (.int .i64 t) (by simp [go_sem]); have u1 := hu.keep wr.heap.size 1 (.int .i64 y) (by simp [go_sem]); clear hN hS hu; have z5 := fun o => (HU.out.trans HC5.out).ownGe hp o; have y0 := HC5.out.keep _ _ _ x0; have y1 := HC5.out.keep _ _ _ x1; have y2 := HC5.out.keep _ _ _ x2; have y3 := HC5.out.keep _ _ _ x3; have y4 := HC5.out.keep _ _ _ x4)
      refine (show ∀ ws6 : World, ws6 = _ → Code.wp _ _ _ _ ws6 from fun ws6 hws => ?_) _ rfl
      have HV6 : Hid (Vx ws6 p mx v 200 t X2 A5 k5) := Lib.hid (by rw [hws]; exact Vx.put (HC5.out.keep _ _ _ x0) (HC5.out.keep _ _ _ x1) (HC5.out.keep _ _ _ x2) (HC5.out.keep _ _ _ x3) (HC5.out.keep _ _ _ x4) HS5.out (fun b o e => by have := HN5.out b o e; omega) HK5.out)
      have HSM6 : Hid (Sl ws6 (some ⟨b, o, none⟩) nm M0) := Lib.hid (by rw [hws]; exact (HSM.out.up HC5.out).w5 HNm.out)
      have HU6 : Hid (Up w ws6) := Lib.hid (by rw [hws]; exact (HU.out.trans HC5.out).w5 hp)
      have r1 : ws6.cell? ⟨wr.heap.size, 1, none⟩ = some (.int .i64 y) := by rw [hws]; exact cell_w5 u1 (by omega)
      clear hws
      clear x0 x1 x2 x3 x4 y0 y1 y2 y3 y4 u0 u1 z5 zf HS5 HC5
      have x0 := HV6.out.c0
      have x1 := HV6.out.c1
      have x2 := HV6.out.c2
      have x3 := HV6.out.c3
      have x4 := HV6.out.c4
      have zf := fun o => HU6.out.ownGe hp o
      have hp6 : p < ws6.heap.size := HV6.out.lt
      go_upto_region 11 with (go_at_call 16; (with_reducible refine (KD2.out _ A5 k5 HV6.out.cap (HV6.out.sl.up (Up.refl ws6))).mono ?_); rintro e w7 ⟨A7, k7, rfl, hN, hS, hu⟩; have HS7 := Lib.hid hS; have HK7 := Lib.hid hN.1; have HC7 : Hid (Up ws6 w7) := Lib.hid ((Up.refl ws6).trans hu); have HN7 : Hid (∀ b o, A7 = some ⟨b, o, none⟩ → ws6.heap.size ≤ b) := Lib.hid (fun b o e => by have := hN.2 b o e; (try simp at this); omega); clear hN hS hu; have z7 := fun o => (HU6.out.trans HC7.out).ownGe hp o; have y0 := HC7.out.keep _ _ _ x0; have y1 := HC7.out.keep _ _ _ x1; have y2 := HC7.out.keep _ _ _ x2; have y3 := HC7.out.keep _ _ _ x3; have y4 := HC7.out.keep _ _ _ x4)
      refine (show ∀ ws8 : World, ws8 = _ → Code.wp _ _ _ _ ws8 from fun ws8 hws => ?_) _ rfl
      have HV8 : Hid (Vx ws8 p mx v 200 t X3 A7 k7) := Lib.hid (by rw [hws]; exact Vx.put (HC7.out.keep _ _ _ x0) (HC7.out.keep _ _ _ x1) (HC7.out.keep _ _ _ x2) (HC7.out.keep _ _ _ x3) (HC7.out.keep _ _ _ x4) HS7.out (fun b o e => by have := HN7.out b o e; omega) HK7.out)
      have HSM8 : Hid (Sl ws8 (some ⟨b, o, none⟩) nm M0) := Lib.hid (by rw [hws]; exact (HSM6.out.up HC7.out).w5 HNm.out)
      have HU8 : Hid (Up w ws8) := Lib.hid (by rw [hws]; exact (HU6.out.trans HC7.out).w5 hp)
      clear hws
      clear x0 x1 x2 x3 x4 y0 y1 y2 y3 y4 z7 zf HS7 HC7
      go_wp2_with fail
      go_roundw
      case rel => exact ⟨i + 1, t, A7, k7, rfl, by go_num, by omega, HC2, Lib.hid (HX3.out ▸ HV8.out), HSM8, HU8⟩
      case measure => simp [intOf]; omega
    obtain rfl : i = nm := by omega
    have f1 : decide ((i : Int) < i) = false := decide_eq_false (by omega)
    have htk : M0.take i = M0 := List.take_of_length_le (by rw [HL.out]; exact Nat.le_refl _)
    rw [htk] at HV HC
    clear htk hi hin
    obtain ⟨e0, e1, hok, _⟩ := HC.out
    have hz := HZ.out
    obtain ⟨T, hT⟩ : ∃ z, z = now + s := ⟨_, rfl⟩
    have kw : IntKind.i64.wrap (now + s) = T := by rw [hT]; exact IntWalk.i64_in _ (by omega)
    have hT2 : 0 ≤ T ∧ T ≤ 100000 := by omega
    have hok2 := hok.later (show now ≤ T by omega)
    have hlv : mlL M0 T v = livL M0 T v := mlL_livX (tickB_yes hT2.1 (by omega)) (winB_yes hv1.1 (by omega)) (fun x hx => (hok x hx).1)
    have KD := Lib.hid (fun W A k hk hS => dqA_up mx v now T M0 hv1 e0 (by omega) (by omega) hok W A k hk hS)
    unfold DqR at KD
    have KL := Lib.hid (fun W (h : Sl W Am i M0) => mliveI_up i km Am M0 T v (by omega) hT2.1 hT2.2 hv1.1 hv1.2 W h)
    rw [hlv] at KL
    have KK := Lib.hid (fun n7 k7 A7 W (hn : n7 ≤ i) (h : Sl W A7 n7 (livL M0 T v)) => (kept17_up mx n7 k7 A7 (livL M0 T v) (by omega) W h).mono (fun e w' h => show ∃ A' k', e = .returned (.slice A' (dqX mx v T M0).length k') ∧ Sl w' A' (dqX mx v T M0).length (dqX mx v T M0) ∧ Up W w' from by
      obtain ⟨A', n', k', h1, h2, h3⟩ := h
      obtain rfl := h2.all17.2.1
      exact ⟨A', k', h1, h2.all17.2, h3⟩))
    have KE := Lib.hid (fun n7 k7 A7 W (hn : n7 ≤ i) (h : Sl W A7 n7 (livL M0 T v)) => rext17_up mx n7 k7 A7 (livL M0 T v) (by omega) W h)
    have KQ := Lib.hid (fun A k W (hk : (dqX mx v T M0).length ≤ k) (h : Sl W A (dqX mx v T M0).length (dqX mx v T M0)) => (ask17_up mx v 200 T _ k A (dqX mx v T M0) (by have := dq_len17 (mx := mx) (M := M0) hv1 (show 0 ≤ T ∧ T ≤ 16777216 by omega); omega) hk W h).mono (fun e w' h => by rw [dq_ask hv1 ⟨hT2.1, by omega⟩ hok2] at h; exact h))
    have hxl := dq_len17 (mx := mx) (M := M0) hv1 (show 0 ≤ T ∧ T ≤ 16777216 by omega)
    have KI := Lib.hid (fun A B k j W (hA : Sl W A (dqX mx v T M0).length (dqX mx v T M0)) (hB : Sl W B (dqX mx v T M0).length (dqX mx v T M0)) => sameItems_t _ k j A B (dqX mx v T M0) (by omega) W hA hB)
    generalize dqX mx v now M0 = X1 at *
    generalize dqX mx v T M0 = X2 at *
    generalize livL M0 T v = Lv at *
    obtain ⟨⟨u, ok⟩, hex⟩ : ∃ z, z = exA mx Lv := ⟨_, rfl⟩
    rw [← hex] at KQ KE
    simp only at KQ KE
    have tx : decide (v < (X2.length : Int)) = false := decide_eq_false (by omega)
    have hx3 : v + 2 ≤ 27 := by omega
    clear hex hT hlv hok hok2 e0 e1 hxl HC hz
    have hpc : p < wr.heap.size := HV.out.lt
    have x0 := HV.out.c0
    have x1 := HV.out.c1
    have x2 := HV.out.c2
    have x3 := HV.out.c3
    have x4 := HV.out.c4
    go_upto_region 14 with fail
    go_cut [10] (fun s wx => ∃ (A2 : Option Addr) (k2 : Nat), s = .int .i64 0 ∧ Hid (Vx wx p mx v 200 T X2 A2 k2) ∧ Hid (Sl wx Am i M0) ∧ Hid (Up w wx))
    case first =>
      go_region_with (first
        | (go_at_call 24; (with_reducible refine (KT.out _).mono ?_); rintro e w' ⟨rfl, rfl⟩)
        | (go_at_call 14; (with_reducible refine (KD.out _ A1 k1 HV.out.cap (HV.out.sl.up (Up.refl wr).drew)).mono ?_); rintro e w5 ⟨A5, k5, rfl, hN, hS, hu⟩; have HS5 := Lib.hid hS; have HK5 := Lib.hid hN.1; have HC5 : Hid (Up wr w5) := Lib.hid ((Up.refl wr).drew.trans hu); have HN5 : Hid (∀ b o, A5 = some ⟨b, o, none⟩ → wr.heap.size ≤ b) := Lib.hid (fun b o e => by have := hN.2 b o e; (try simp at this); omega); clear hN hS hu; have z5 := fun o => (HU.out.trans HC5.out).ownGe hp o; have y0 := HC5.out.keep _ _ _ x0; have y1 := HC5.out.keep _ _ _ x1; have y2 := HC5.out.keep _ _ _ x2; have y3 := HC5.out.keep _ _ _ x3; have y4 := HC5.out.keep _ _ _ x4))
      all_goals
        go_wp2_with fail
        go_meet
        exact ⟨A5, k5, rfl, Lib.hid (Vx.put y0 y1 y2 y3 y4 HS5.out (fun b o e => by have := HN5.out b o e; omega) HK5.out), Lib.hid ((HSM.out.up HC5.out).w5 HNm.out), Lib.hid ((HU.out.trans HC5.out).w5 hp)⟩
    case rest =>
    obtain ⟨A2, k2, rfl, HV2, HSM2, HU2⟩ := hcut
    clear x0 x1 x2 x3 x4 HV HSM HU KD KT
    have x0 := HV2.out.c0
    have x1 := HV2.out.c1
    have x2 := HV2.out.c2
    have x3 := HV2.out.c3
    have x4 := HV2.out.c4
    go_upto_region 16 with (go_at_call 26; (with_reducible refine (KL.out _ HSM2.out).mono ?_); rintro e w7 ⟨A7, n7, k7, rfl, hn7, hO7, hu⟩; have HS7 := Lib.hid hO7.all17.2; have HV7 := Lib.hid (HV2.out.up hu); have HU7 := Lib.hid (HU2.out.trans hu); clear hO7 hu)
    clear x0 x1 x2 x3 x4 HV2 HSM2 HU2 KL
    have x0 := HV7.out.c0
    have x1 := HV7.out.c1
    have x2 := HV7.out.c2
    have x3 := HV7.out.c3
    have x4 := HV7.out.c4
    have hp7 : p < w7.heap.size := HV7.out.lt
    go_region_held3 (KB1 p w7 w7) (first | (with_reducible exact KB1.start (Lib.hid (Up.refl w7))) | (with_reducible exact KB1.next (by assumption) (by assumption))) (first
        | (go_at_call 28; (with_reducible refine (KK.out _ _ _ _ hn7 (HS7.out.up (KB1.to (by assumption)))).mono ?_); rintro e w8 ⟨A8, k8, rfl, hS8, hu⟩; have HS8 := Lib.hid hS8; clear hS8)
        | (go_at_call 27; (with_reducible refine (KI.out _ _ _ _ _ (HV7.out.sl.up (KB1.to (by assumption))) HS8.out).mono ?_); rintro e w9 ⟨rfl, hu⟩))
    have HF := Lib.hid (KB1.to (by assumption))
    clear ‹KB1 _ _ _ _›
    have HVf := Lib.hid (HV7.out.up HF.out)
    have HSf := Lib.hid (HS7.out.up HF.out)
    have HUf := Lib.hid (HU7.out.trans HF.out)
    clear x0 x1 x2 x3 x4 HV7 HS7 HU7
    have x0 := HVf.out.c0
    have x1 := HVf.out.c1
    have x2 := HVf.out.c2
    have x3 := HVf.out.c3
    have x4 := HVf.out.c4
    have tu : (u == u) = true := by simp
    cases ok
    all_goals
      simp only [if_true, Bool.false_eq_true, if_false] at KQ
      go_wp2_with (first
        | (go_at_call 18; (with_reducible refine (KQ.out _ _ _ HVf.out.cap HVf.out.sl).mono ?_); rintro e y1 ⟨rfl, hu⟩; have HY1 := Lib.hid (HUf.out.trans hu); have HSg := Lib.hid (HSf.out.up hu); clear hu)
        | (go_at_call 29; (with_reducible refine (KE.out _ _ _ _ hn7 HSg.out).mono ?_); rintro e y2 ⟨rfl, hu⟩; have HY2 := Lib.hid (HY1.out.trans hu); clear hu)
        | (go_at_call 12; (with_reducible refine (KA.out _).mono ?_); rintro e y3 ⟨rfl, hu⟩; have HY3 := Lib.hid (HY2.out.trans hu); clear hu))
      go_ret
      exact ⟨rfl, HY3.out⟩

set_option maxRecDepth 100000 in
theorem extremeTruth_lifted (os : Os) (started : os.Started) (H : Type) (enc : TypeId × Value → H) :
    ReturnsInHanded {} Try.checked os 6 .any (Rows.extremeTruthSpec.pre6 enc Try.prog Try.f6 Rows.extremeTruthRow.domain false) (Rows.extremeTruthSpec.post enc Try.prog Try.f6 false true false false) := by
  refine returnsInHanded_of_change_sized (C := Try.checked) extremeTruth_own started (by kernel_rfl) Try.func6
    (ChangeSpec.witness6 (enc := enc) (C := Try.checked) false ⟨#[], #[.slice none 0 0, .bool false, .int .i64 0, .int .i64 0], []⟩ 8 (by kernel_rfl) (by kernel_rfl) (by kernel_rfl) (by kernel_rfl)) ?_
  intro W base args ds gs before hval0 hW hcnd hsz0 _
  have hval : ∀ (j : Nat) t v, Try.f6.params[j]? = some t → args[j]? = some v → Value.okWide Try.prog W .any base t v := hval0
  have hW' := hW
  obtain ⟨p, q, hA0, hV, rfl, hfz, hnd⟩ := hW'
  have hA : DataW.TrodAll enc Try.prog W 0 (fun _ => true) true Try.f6.params.toList args.toList ds p := hA0
  rw [Try.params6] at hA hval
  obtain ⟨v0, vs0, d0, ds0, p0, q0, hargs, rfl, rfl, h0, r0⟩ := trodAll_cons hA
  obtain ⟨v1, vs1, d1, ds1, p1, q1, rfl, rfl, rfl, h1, r1⟩ := trodAll_cons r0
  obtain ⟨v2, vs2, d2, ds2, p2, q2, rfl, rfl, rfl, h2, r2⟩ := trodAll_cons r1
  obtain ⟨v3, vs3, d3, ds3, p3, q3, rfl, rfl, rfl, h3, r3⟩ := trodAll_cons r2
  obtain ⟨rfl, rfl, rfl⟩ := trodAll_nil r3
  obtain rfl : args = #[v0, v1, v2, v3] := by cases args; simp_all
  obtain ⟨rfl, rfl⟩ := trodVars_none hV
  have hlt := fun x hx => hW.lt x hx
  have k0 := h0
  obtain ⟨n0, m0, A0, L0, rfl, hk0, hS0, hI0⟩ := open_items2 (hval 0 22 v0 rfl rfl) h0
  have k1 := h1
  obtain ⟨a1, rfl, rfl, rfl⟩ := Go.RowKit.open_bool Try.underlying4 (hval 1 4 v1 rfl rfl) h1
  have k2 := h2
  obtain ⟨a2, rfl, rfl, rfl, w2⟩ := open_int Try.underlying2 (hval 2 2 v2 rfl rfl) h2
  have k3 := h3
  obtain ⟨a3, rfl, rfl, rfl, w3⟩ := open_int Try.underlying2 (hval 3 2 v3 rfl rfl) h3
  refine (extremeTruth_walk n0 m0 A0 L0 hk0 hI0 a1 a2 w2 a3 w3 W hS0).mono fun e W' ⟨he, hg⟩ => ?_
  subst he
  exact ⟨_, rfl, post_of_same (pv := []) hW (fun _ _ _ => (trodAll_cons_mk (shut_bool Try.underlying4 _) trodAll_mk0)) (fun sp hsp => (trodAll_cons_mk (stay (by kernel_rfl) (of_decide_eq_true (by kernel_rfl)) k0 hg hlt (fun x hx => by first | (simp at hx; done) | simp [hx]) hsp) (trodAll_cons_mk (stay (by kernel_rfl) (of_decide_eq_true (by kernel_rfl)) k1 hg hlt (fun x hx => by first | (simp at hx; done) | simp [hx]) hsp) (trodAll_cons_mk (stay (by kernel_rfl) (of_decide_eq_true (by kernel_rfl)) k2 hg hlt (fun x hx => by first | (simp at hx; done) | simp [hx]) hsp) (trodAll_cons_mk (stay (by kernel_rfl) (of_decide_eq_true (by kernel_rfl)) k3 hg hlt (fun x hx => by first | (simp at hx; done) | simp [hx]) hsp) trodAll_mk0))))) (fun _ _ => rfl) rfl
    (hg.grown.frame _) hg.grown.2.1 (ok_one (by kernel_rfl) rfl (okWide_bool_mk Try.underlying4 _))⟩

theorem extremeTruth_over : Rows.extremeTruthRow.holds Try.pinned (OpenSpec.ofChange Rows.extremeTruthSpec) :=
  OpenClaim.holds_of_wide 6 Try.f6 rfl rfl rfl rfl rfl rfl rfl ⟨rfl, rfl, rfl, rfl, rfl⟩ rfl rfl rfl rfl rfl (by kernel_rfl) Try.func6 (by kernel_rfl)
    (of_decide_eq_true (by kernel_rfl)) (by unfold Func.isWrapper; first | (rw [if_pos (by decide +kernel)]; kernel_rfl) | (rw [if_neg (by decide +kernel)]; exact ⟨rfl, rfl⟩))
    (fun os started H enc _ => extremeTruth_lifted os started H enc)

theorem extremeTruth_holds : Rows.ExtremeTruthSaid :=
  extremeTruth_over
end Go.Proofs.Ytfcknhpllhkpeaa
