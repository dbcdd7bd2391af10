/- Proved: for every two lists of raw items and any numbers the law ExtremeBoth returns true: merging two deques gives the deque of the items of both. Conditions: none. -/
import Derived.Test.YtfcknhpllhkpeaaRows
import Derived.Test.YtfcknhpllhkpeaaZEFrameq95
import Derived.Test.YtfcknhpllhkpeaaZUPlayq116
namespace Go.Proofs.Ytfcknhpllhkpeaa
open Go.ChangeShapes Go.WideShapes Go.ChangeAt Go.RowKit Go.Joins
set_option linter.unusedVariables false

theorem extremeBoth_own : ownKnob Try.prog.godebug = none := by kernel_rfl

set_option maxHeartbeats 16000000 in
set_option maxRecDepth 100000 in
theorem extremeBoth_walk (n k : Nat) (A : Option Addr) (L : List It) (hk : n ≤ k) (hI : InI L) (n' k' : Nat) (A' : Option Addr) (L' : List It) (hk' : n' ≤ k') (hI' : InI L') (mx : Bool) (a0 : Int) (_ : (Lit.int .i64 a0).wf = true) (w : World) (hS : Sl w A n L) (hS' : Sl w A' n' L') :
    Calls Try.prog 8 #[.slice A n k, .slice A' n' k', .bool mx, .int .i64 a0] w fun e w' => e = .returned (.bool true) ∧ Up w w' := by
  have KA := Lib.hid awake17_up
  have KW := Lib.hid (fun W => modm_any a0 20 (by decide) (by decide) W)
  have q0 := Int.emod_nonneg a0 (show (20 : Int) ≠ 0 by decide)
  have q1 := Int.emod_lt_of_pos a0 (show (0 : Int) < 20 by decide)
  obtain ⟨v, hv⟩ : ∃ z, z = 1 + a0 % 20 := ⟨_, rfl⟩
  have kv : IntKind.i64.wrap (1 + a0 % 20) = v := by rw [hv]; exact IntWalk.i64_in _ (by omega)
  have hv1 : 1 ≤ v ∧ v ≤ 25 := by omega
  generalize a0 % 20 = rv at *
  have KP1 := Lib.hid (fun W (h : Sl W A n L) => itemsI_up n k A L v hv1.1 hv1.2 60 (by decide) W h)
  rw [show ((60 : Nat) : Int) = 60 from rfl] at KP1
  have KP2 := Lib.hid (fun W (h : Sl W A' n' L') => itemsI_up n' k' A' L' v hv1.1 hv1.2 60 (by decide) W h)
  rw [show ((60 : Nat) : Int) = 60 from rfl] at KP2
  have KN := Lib.hid (fun W => dqN_up mx v 200 hv1 (by decide) W)
  have HS := Lib.hid hS
  have HS' := Lib.hid hS'
  clear hS hS' hI hI' hv q0 q1
  go_enter Try.func8, Try.ntmps8
  go_upto_region 3 with (first
    | (go_at_call 24; (with_reducible refine (KW.out _).mono ?_); rintro e w' ⟨rfl, rfl⟩)
    | (go_at_call 9; (with_reducible refine (KN.out _).mono ?_); rintro e w1 ⟨rfl, hu⟩; have U1 := Lib.hid hu; clear hu))
  refine (show ∀ wp : World, wp = _ → Code.wp _ _ _ _ wp from fun wp hws => ?_) _ rfl
  have hp1 : w.heap.size ≤ w1.heap.size := U1.out.size
  have HX0 : Hid (Vx wp w1.heap.size mx v 200 0 [] none 0) := Lib.hid (by rw [hws]; exact Vx.new Sl.none_ rfl (fun _ _ e => by cases e) (Nat.le_refl _))
  have HU0 : Hid (Up w wp) := Lib.hid (by rw [hws]; exact U1.out.alloc _ _)
  clear hws U1
  generalize w1.heap.size = p1 at *
  have hl1 : p1 < wp.heap.size := HX0.out.lt
  go_upto_region 4 with (go_at_call 9; (with_reducible refine (KN.out _).mono ?_); rintro e w2 ⟨rfl, hu⟩; have U2 := Lib.hid hu; clear hu)
  refine (show ∀ wq : World, wq = _ → Code.wp _ _ _ _ wq from fun wq hws => ?_) _ rfl
  have hs2 := U2.out.size
  have hp2 : w.heap.size ≤ w2.heap.size := by omega
  have h12 : p1 ≠ w2.heap.size := by omega
  have HY0 : Hid (Vx wq w2.heap.size mx v 200 0 [] none 0) := Lib.hid (by rw [hws]; exact Vx.new Sl.none_ rfl (fun _ _ e => by cases e) (Nat.le_refl _))
  have HUq : Hid (Up w wq) := Lib.hid (by rw [hws]; exact (HU0.out.trans U2.out).alloc _ _)
  have HXq : Hid (Vx wq p1 mx v 200 0 [] none 0) := Lib.hid (by rw [hws]; exact (HX0.out.up U2.out).up ((Up.refl _).alloc _ _))
  clear hws U2 HX0 HU0 hs2 hl1
  generalize w2.heap.size = p2 at *
  have hl1 : p1 < wq.heap.size := HXq.out.lt
  have hl2 : p2 < wq.heap.size := HY0.out.lt
  have h21 : p2 ≠ p1 := fun h => h12 h.symm
  have HSq := Lib.hid (HS.out.up HUq.out)
  have HSq' := Lib.hid (HS'.out.up HUq.out)
  go_upto_region 6 with (first
    | (go_at_call 25; (with_reducible refine (KP1.out _ HSq.out).mono ?_); rintro e w4 ⟨Am, n1, km, M1, z1, rfl, hn, hT, hO, hu⟩; have HNM1 := Lib.hid hn; have HTM1 := Lib.hid hT; have HRM1 := Lib.hid hO.all17.2; have HOM1 := Lib.hid hO.nw; have HCi4 := Lib.hid hu; clear hn hT hO hu)
    | (go_at_call 25; (with_reducible refine (KP2.out _ (HSq'.out.up HCi4.out)).mono ?_); rintro e w5 ⟨Bm, n2, jm, M2, z2, rfl, hn, hT, hO, hu⟩; have HNM2 := Lib.hid hn; have HTM2 := Lib.hid hT; have HRM2 := Lib.hid hO.all17.2; have HOM2 := Lib.hid hO.nw; have HCi5 := Lib.hid hu; clear hn hT hO hu))
  have HC5 := Lib.hid (HCi4.out.trans HCi5.out)
  have HR1 := Lib.hid (HRM1.out.up HCi5.out)
  have HS4 := HCi4.out.size
  have HM1 : Hid (∀ b o, Am = some ⟨b, o, none⟩ → b ≠ p1) := Lib.hid (fun b o e => by have := HOM1.out b o e; omega)
  have HM2 : Hid (∀ b o, Am = some ⟨b, o, none⟩ → b ≠ p2) := Lib.hid (fun b o e => by have := HOM1.out b o e; omega)
  have HN1 : Hid (∀ b o, Bm = some ⟨b, o, none⟩ → b ≠ p1) := Lib.hid (fun b o e => by have := HOM2.out b o e; omega)
  have HN2 : Hid (∀ b o, Bm = some ⟨b, o, none⟩ → b ≠ p2) := Lib.hid (fun b o e => by have := HOM2.out b o e; omega)
  have HL1 := Lib.hid HR1.out.1
  have HL2 := Lib.hid HRM2.out.1
  have hn1 := HNM1.out
  have hn2 := HNM2.out
  have HUb : Hid (∀ x ∈ M1 ++ M2, 0 ≤ x.1 ∧ x.1 ≤ 5100) := Lib.hid (fun x hx => by
    rcases List.mem_append.1 hx with h | h
    · obtain ⟨e, he, rfl⟩ := getD_memT h
      have q := HTM1.out.2.2 e he
      have := HTM1.out.2.1
      rw [HL1.out] at this
      omega
    · obtain ⟨e, he, rfl⟩ := getD_memT h
      have q := HTM2.out.2.2 e he
      have := HTM2.out.2.1
      rw [HL2.out] at this
      omega)
  obtain ⟨v6, w6, hr1, ho1, hu1⟩ := append0_run 22 w5 (w5.alloc (.cells #[] 41)) w5.heap.size (own_empty' (w := w5) rfl (Nat.le_refl _)) ((Up.refl _).alloc _ _) Am n1 km M1 (HR1.out.up ((Up.refl _).alloc _ _)) (by omega)
  obtain ⟨A6, k6, rfl, _, _⟩ := ho1.sl
  have hu6 : Up w5 w6 := ((Up.refl _).alloc _ _).trans hu1
  obtain ⟨v7, w7, hr2, ho2, hu2⟩ := append_run 22 w5 w6 _ n1 M1 ho1 hu6 Bm n2 jm M2 (HRM2.out.up hu6) (by omega)
  obtain ⟨A7, k7, rfl, _, _⟩ := ho2.sl
  obtain ⟨nu, hnu⟩ : ∃ z, z = n1 + n2 := ⟨_, rfl⟩
  rw [← hnu] at hr2 ho2
  have hnu3 : nu ≤ 1000 := by omega
  clear hnu
  have HR7 := Lib.hid ho2.all17.2
  have HLU : Hid ((M1 ++ M2).length = nu) := Lib.hid HR7.out.1
  have HC7 := Lib.hid hu2
  clear ho1 ho2 hu1 hu2 hu6 HNM1 HNM2 HOM1 HOM2 HRM1 HCi4 HCi5 HS4 HS HS' HSq HSq' KP1 KP2 KN KW kv
  go_wp2_with (first
    | (refine wpList_append_run (o := ⟨some 48, _, _, _, _, _⟩) rfl (.tmp 46) (.tmp 47) _ rfl _ _ rfl rfl _ _ hr1 ?_)
    | (refine wpList_append_run (o := ⟨some 50, _, _, _, _, _⟩) rfl (.tmp 48) (.tmp 49) _ rfl _ _ rfl rfl _ _ hr2 ?_))
  clear hr1 hr2
  go_loopw [15, 52] (fun s t wr => ∃ (i : Nat) (T : Int), s = .int .i64 T ∧ t = .int .i64 i ∧ i ≤ nu ∧ Hid (0 ≤ T ∧ T ≤ 5100 ∧ ∀ j, j < i → ((M1 ++ M2).getD j (0, 0)).1 ≤ T) ∧ Hid (Up w7 wr)) (fun _ t _ => nu - (intOf t).toNat)
  case atStart => exact ⟨0, 0, rfl, rfl, Nat.zero_le _, Lib.hid ⟨Int.le_refl _, by omega, fun j hj => absurd hj (Nat.not_lt_zero _)⟩, Lib.hid (Up.refl _)⟩
  case round =>
    obtain ⟨i, T, rfl, rfl, hin, HB, HW⟩ := hrel
    by_cases hi : i < nu
    case pos =>
      obtain ⟨b, o, rfl, d0, d1⟩ := (HR7.out.up HW.out).at_ hi
      have hU := HUb.out _ (mem_getDT (show i < (M1 ++ M2).length by rw [HLU.out]; exact hi))
      have HB2 : Hid (∀ q, T ≤ q → ((M1 ++ M2).getD i (0, 0)).1 ≤ q → ∀ j, j < i + 1 → ((M1 ++ M2).getD j (0, 0)).1 ≤ q) := Lib.hid (fun q h1 h2 j hj => by
        rcases Nat.lt_or_ge j i with y | y
        · have := HB.out.2.2 j y; omega
        · rw [show j = i by omega]; exact h2)
      have HB0 : Hid (0 ≤ T ∧ T ≤ 5100) := Lib.hid ⟨HB.out.1, HB.out.2.1⟩
      generalize ((M1 ++ M2).getD i (0, 0)).1 = t at *
      generalize ((M1 ++ M2).getD i (0, 0)).2 = y at *
      have g2 : (i : Int) < nu := by omega
      have g3 : (0 : Int) ≤ i := by omega
      clear HB
      by_cases ht : T < t
      · have f1 : decide (T < t) = true := decide_eq_true ht
        have HB3 := Lib.hid (HB2.out t (by omega) (Int.le_refl _))
        have Ht := Lib.hid hU
        clear ht hU HB2
        go_wp2_with fail
        go_roundw
        case rel => exact ⟨i + 1, t, rfl, by go_num, by omega, Lib.hid ⟨Ht.out.1, Ht.out.2, HB3.out⟩, Lib.hid (HW.out.alloc _ _)⟩
        case measure => simp [intOf]; omega
      · have f1 : decide (T < t) = false := decide_eq_false ht
        have HB3 := Lib.hid (HB2.out T (Int.le_refl _) (by omega))
        clear ht hU HB2
        go_wp2_with fail
        go_roundw
        case rel => exact ⟨i + 1, T, rfl, by go_num, by omega, Lib.hid ⟨HB0.out.1, HB0.out.2, HB3.out⟩, Lib.hid (HW.out.alloc _ _)⟩
        case measure => simp [intOf]; omega
    obtain rfl : i = nu := by omega
    have f1 : decide ((i : Int) < i) = false := decide_eq_false (by omega)
    have HZ : Hid (0 ≤ T ∧ T ≤ 5100) := Lib.hid ⟨HB.out.1, HB.out.2.1⟩
    have hall : ∀ x ∈ M1 ++ M2, x.1 ≤ T := fun x hx => by
      obtain ⟨e, he, rfl⟩ := getD_memT hx
      exact HB.out.2.2 e (by rw [HLU.out] at he; exact he)
    have HTa : Hid (True ∧ True ∧ ∀ j, j < M1.length → 0 ≤ (M1.getD j (0, 0)).1 ∧ (M1.getD j (0, 0)).1 ≤ T ∧ (0 < j → (M1.getD (j - 1) (0, 0)).1 ≤ (M1.getD j (0, 0)).1) ∧ valueB (M1.getD j (0, 0)).2 = true) := Lib.hid ⟨trivial, trivial, fun j hj => by
      have q := HTM1.out.2.2 j hj
      exact ⟨q.1, hall _ (List.mem_append.2 (Or.inl (mem_getDT hj))), q.2.2⟩⟩
    have HTb : Hid (True ∧ True ∧ ∀ j, j < M2.length → 0 ≤ (M2.getD j (0, 0)).1 ∧ (M2.getD j (0, 0)).1 ≤ T ∧ (0 < j → (M2.getD (j - 1) (0, 0)).1 ≤ (M2.getD j (0, 0)).1) ∧ valueB (M2.getD j (0, 0)).2 = true) := Lib.hid ⟨trivial, trivial, fun j hj => by
      have q := HTM2.out.2.2 j hj
      exact ⟨q.1, hall _ (List.mem_append.2 (Or.inr (mem_getDT hj))), q.2.2⟩⟩
    have HWa := Lib.hid (HC7.out.trans HW.out)
    have HSMa := Lib.hid (HR1.out.up HWa.out)
    have HSNa := Lib.hid (HRM2.out.up HWa.out)
    have HXa := Lib.hid (HXq.out.up (HC5.out.trans HWa.out))
    have HYa := Lib.hid (HY0.out.up (HC5.out.trans HWa.out))
    have HUa := Lib.hid (HUq.out.trans (HC5.out.trans HWa.out))
    obtain ⟨wo, hwo⟩ : ∃ z, z = wr := ⟨_, rfl⟩
    subst hwo
    clear hall HB HW HC7 HR7 HR1 HRM2 HXq HY0 HUq HC5 HWa HTM1 HTM2 HUb HLU hin hi hl1 hl2
    go_wp2_with fail
    go_loopw [10, 65] (fun s t wr => ∃ (i : Nat) (now : Int) (A1 : Option Addr) (k1 : Nat), s = .int .i64 0 ∧ t = .int .i64 i ∧ i ≤ n1 ∧ Hid (0 ≤ now ∧ now ≤ T ∧ okQ now (M1.take i) ∧ (i < n1 → now ≤ (M1.getD i (0, 0)).1)) ∧ Hid (Vx wr p1 mx v 200 now (dqX mx v now (M1.take i)) A1 k1) ∧ Hid (∀ b o, A1 = some ⟨b, o, none⟩ → b ≠ p2) ∧ Hid (Sl wr Am n1 M1) ∧ Hid (Sl wr Bm n2 M2) ∧ Hid (Vx wr p2 mx v 200 0 [] none 0) ∧ Hid (Up w wr)) (fun _ t _ => n1 - (intOf t).toNat)
    case atStart => exact ⟨0, 0, none, 0, rfl, rfl, Nat.zero_le _, Lib.hid ⟨Int.le_refl _, HZ.out.1, fun x hx => absurd hx (by simp), fun h => (HTa.out.2.2 0 (by rw [HL1.out]; exact h)).1⟩, HXa, Lib.hid (fun _ _ e => by cases e), HSMa, HSNa, HYa, HUa⟩
    case round =>
      clear HXa HYa HSMa HSNa HUa
      obtain ⟨i, now, A1, k1, rfl, rfl, hin, HC, HV, HO, HSM, HSN, HY, HU⟩ := hrel
      by_cases hi : i < n1
      case pos =>
        obtain ⟨b, o, rfl, d0_, d1_⟩ := HSM.out.at_ hi
        have hil : i < M1.length := by rw [HL1.out]; exact hi
        have q := HTa.out.2.2 i hil
        have q2 : i + 1 < n1 → (M1.getD i (0, 0)).1 ≤ (M1.getD (i + 1) (0, 0)).1 := fun h => (HTa.out.2.2 (i + 1) (by rw [HL1.out]; exact h)).2.2.1 (Nat.succ_pos _)
        have qc := HC.out.2.2.2 hi
        have et := takeX_getD hil
        have hz9 := HZ.out
        have KD1 := Lib.hid (fun W A k hk hS => dqA_up mx v now (M1.getD i (0, 0)).1 (M1.take i) hv1 HC.out.1 qc (by omega) HC.out.2.2.1 W A k hk hS)
        have KD2 := Lib.hid (fun W A k hk hS => dqB_up mx v (M1.getD i (0, 0)).1 (M1.getD i (0, 0)).2 (M1.take i) hv1 ⟨by omega, by omega⟩ q.2.2.2 (HC.out.2.2.1.later qc) W A k hk hS)
        rw [← et] at KD2
        unfold DqR at KD1 KD2
        have HC2 : Hid (0 ≤ (M1.getD i (0, 0)).1 ∧ (M1.getD i (0, 0)).1 ≤ T ∧ okQ (M1.getD i (0, 0)).1 (M1.take (i + 1)) ∧ (i + 1 < n1 → (M1.getD i (0, 0)).1 ≤ (M1.getD (i + 1) (0, 0)).1)) := Lib.hid ⟨q.1, q.2.1, by rw [et]; exact (HC.out.2.2.1.later qc).push q.1 q.2.2.2, q2⟩
        clear q q2 qc et HC hz9
        obtain ⟨X3, hX3⟩ : ∃ X, X = dqX mx v (M1.getD i (0, 0)).1 (M1.take (i + 1)) := ⟨_, rfl⟩
        rw [← hX3] at KD2
        have HX3 := Lib.hid hX3
        clear hX3
        generalize dqX mx v now (M1.take i) = X1 at *
        generalize dqX mx v (M1.getD i (0, 0)).1 (M1.take i) = X2 at *
        generalize (M1.getD i (0, 0)).1 = t at *
        generalize (M1.getD i (0, 0)).2 = y at *
        have g2 : (i : Int) < n1 := by omega
        have g3 : (0 : Int) ≤ i := by omega
        have hpc : p1 < wr.heap.size := HV.out.lt
        have x0 := HV.out.c0
        have x1 := HV.out.c1
        have x2 := HV.out.c2
        have x3 := HV.out.c3
        have x4 := HV.out.c4
        have zf := fun o => HU.out.ownGe hp1 o
        go_upto_region 17 with (go_at_call 14; (with_reducible refine (KD1.out _ A1 k1 HV.out.cap (HV.out.sl.up ((Up.refl wr).alloc _ _))).mono ?_); rintro e w5 ⟨A5, k5, rfl, hN, hS, hu⟩; have HS5 := Lib.hid hS; have HK5 := Lib.hid hN.1; have HC5 : Hid (Up wr w5) := Lib.hid (((Up.refl wr).alloc _ _).trans hu); have HN5 : Hid (∀ b o, A5 = some ⟨b, o, none⟩ → wr.heap.size ≤ b) := Lib.hid (fun b o e => by have := hN.2 b o e; (try simp at this); omega); have u0 := hu.keep wr.heap.size 0 (.int .i64 t) (by simp [go_sem]); have u1 := hu.keep wr.heap.size 1 (.int .i64 y) (by simp [go_sem]); clear hN hS hu; have z5 := fun o => (HU.out.trans HC5.out).ownGe hp1 o; have y0 := HC5.out.keep _ _ _ x0; have y1 := HC5.out.keep _ _ _ x1; have y2 := HC5.out.keep _ _ _ x2; have y3 := HC5.out.keep _ _ _ x3; have y4 := HC5.out.keep _ _ _ x4)
        refine (show ∀ ws6 : World, ws6 = _ → Code.wp _ _ _ _ ws6 from fun ws6 hws => ?_) _ rfl
        have HV6 : Hid (Vx ws6 p1 mx v 200 t X2 A5 k5) := Lib.hid (by rw [hws]; exact Vx.put (HC5.out.keep _ _ _ x0) (HC5.out.keep _ _ _ x1) (HC5.out.keep _ _ _ x2) (HC5.out.keep _ _ _ x3) (HC5.out.keep _ _ _ x4) HS5.out (fun b o e => by have := HN5.out b o e; omega) HK5.out)
        have HSM6 : Hid (Sl ws6 (some ⟨b, o, none⟩) n1 M1) := Lib.hid (by rw [hws]; exact (HSM.out.up HC5.out).w5 HM1.out)
        have HSN6 : Hid (Sl ws6 Bm n2 M2) := Lib.hid (by rw [hws]; exact (HSN.out.up HC5.out).w5 HN1.out)
        have HY6 : Hid (Vx ws6 p2 mx v 200 0 [] none 0) := Lib.hid (by rw [hws]; exact (HY.out.up HC5.out).w5 h12 (fun _ _ e => by cases e))
        have HU6 : Hid (Up w ws6) := Lib.hid (by rw [hws]; exact (HU.out.trans HC5.out).w5 hp1)
        have r1 : ws6.cell? ⟨wr.heap.size, 1, none⟩ = some (.int .i64 y) := by rw [hws]; exact cell_w5 u1 (by omega)
        clear hws
        clear x0 x1 x2 x3 x4 y0 y1 y2 y3 y4 u0 u1 z5 zf HS5 HC5
        have x0 := HV6.out.c0
        have x1 := HV6.out.c1
        have x2 := HV6.out.c2
        have x3 := HV6.out.c3
        have x4 := HV6.out.c4
        have zf := fun o => HU6.out.ownGe hp1 o
        have hp6 : p1 < ws6.heap.size := HV6.out.lt
        go_upto_region 19 with (go_at_call 16; (with_reducible refine (KD2.out _ A5 k5 HV6.out.cap (HV6.out.sl.up (Up.refl ws6))).mono ?_); rintro e w7 ⟨A7, k7, rfl, hN, hS, hu⟩; have HS7 := Lib.hid hS; have HK7 := Lib.hid hN.1; have HC7 : Hid (Up ws6 w7) := Lib.hid ((Up.refl ws6).trans hu); have HN7 : Hid (∀ b o, A7 = some ⟨b, o, none⟩ → ws6.heap.size ≤ b) := Lib.hid (fun b o e => by have := hN.2 b o e; (try simp at this); omega); clear hN hS hu; have z7 := fun o => (HU6.out.trans HC7.out).ownGe hp1 o; have y0 := HC7.out.keep _ _ _ x0; have y1 := HC7.out.keep _ _ _ x1; have y2 := HC7.out.keep _ _ _ x2; have y3 := HC7.out.keep _ _ _ x3; have y4 := HC7.out.keep _ _ _ x4)
        refine (show ∀ ws8 : World, ws8 = _ → Code.wp _ _ _ _ ws8 from fun ws8 hws => ?_) _ rfl
        have HV8 : Hid (Vx ws8 p1 mx v 200 t X3 A7 k7) := Lib.hid (by rw [hws]; exact Vx.put (HC7.out.keep _ _ _ x0) (HC7.out.keep _ _ _ x1) (HC7.out.keep _ _ _ x2) (HC7.out.keep _ _ _ x3) (HC7.out.keep _ _ _ x4) HS7.out (fun b o e => by have := HN7.out b o e; omega) HK7.out)
        have HSM8 : Hid (Sl ws8 (some ⟨b, o, none⟩) n1 M1) := Lib.hid (by rw [hws]; exact (HSM6.out.up HC7.out).w5 HM1.out)
        have HSN8 : Hid (Sl ws8 Bm n2 M2) := Lib.hid (by rw [hws]; exact (HSN6.out.up HC7.out).w5 HN1.out)
        have HY8 : Hid (Vx ws8 p2 mx v 200 0 [] none 0) := Lib.hid (by rw [hws]; exact (HY6.out.up HC7.out).w5 h12 (fun _ _ e => by cases e))
        have HU8 : Hid (Up w ws8) := Lib.hid (by rw [hws]; exact (HU6.out.trans HC7.out).w5 hp1)
        clear hws
        clear x0 x1 x2 x3 x4 y0 y1 y2 y3 y4 z7 zf HS7 HC7
        have ho6 : p2 < ws6.heap.size := HY6.out.lt
        go_wp2_with fail
        go_roundw
        case rel => exact ⟨i + 1, t, A7, k7, rfl, by go_num, by omega, HC2, Lib.hid (HX3.out ▸ HV8.out), Lib.hid (fun b o e => by have := HN7.out b o e; omega), HSM8, HSN8, HY8, HU8⟩
        case measure => simp [intOf]; omega
      obtain rfl : i = n1 := by omega
      have f2 : decide ((i : Int) < i) = false := decide_eq_false (by omega)
      have htk : M1.take i = M1 := List.take_of_length_le (by rw [HL1.out]; exact Nat.le_refl _)
      rw [htk] at HV HC
      obtain ⟨e0, e1, hok, _⟩ := HC.out
      have hz := HZ.out
      have KDx := Lib.hid (fun W A k hk hS => dqA_up mx v now T M1 hv1 e0 e1 (by omega) hok W A k hk hS)
      unfold DqR at KDx
      have Hok1 := Lib.hid (hok.later e1)
      obtain ⟨Xa, hXa⟩ : ∃ X, X = dqX mx v now M1 := ⟨_, rfl⟩
      rw [← hXa] at HV KDx
      obtain ⟨nx, hnx⟩ : ∃ z, z = now := ⟨_, rfl⟩
      subst hnx
      obtain ⟨Aa, hAa⟩ : ∃ z, z = A1 := ⟨_, rfl⟩
      subst hAa
      obtain ⟨ka, hka⟩ : ∃ z, z = k1 := ⟨_, rfl⟩
      subst hka
      have HO1 := HO
      have HX1 := HV
      have HSM1 := HSM
      have HSN1 := HSN
      have HY1 := HY
      have HU1 := HU
      obtain ⟨wo2, hwo⟩ : ∃ z, z = wr := ⟨_, rfl⟩
      subst hwo
      obtain ⟨m1, hm1⟩ : ∃ z, z = i := ⟨_, rfl⟩
      subst hm1
      clear htk hok e0 e1 hz HC hXa hi hin HV HSM HSN HY HU HO HTa HL1
      go_wp2_with fail
      go_loopw [12, 90] (fun s t wr => ∃ (i : Nat) (now : Int) (A1 : Option Addr) (k1 : Nat), s = .int .i64 0 ∧ t = .int .i64 i ∧ i ≤ n2 ∧ Hid (0 ≤ now ∧ now ≤ T ∧ okQ now (M2.take i) ∧ (i < n2 → now ≤ (M2.getD i (0, 0)).1)) ∧ Hid (Vx wr p2 mx v 200 now (dqX mx v now (M2.take i)) A1 k1) ∧ Hid (∀ b o, A1 = some ⟨b, o, none⟩ → b ≠ p1) ∧ Hid (Sl wr Am m1 M1) ∧ Hid (Sl wr Bm n2 M2) ∧ Hid (Vx wr p1 mx v 200 nx Xa Aa ka) ∧ Hid (Up w wr)) (fun _ t _ => n2 - (intOf t).toNat)
      case atStart => exact ⟨0, 0, none, 0, rfl, rfl, Nat.zero_le _, Lib.hid ⟨Int.le_refl _, HZ.out.1, fun x hx => absurd hx (by simp), fun h => (HTb.out.2.2 0 (by rw [HL2.out]; exact h)).1⟩, HY1, Lib.hid (fun _ _ e => by cases e), HSM1, HSN1, HX1, HU1⟩
      case round =>
        clear HX1 HY1 HSM1 HSN1 HU1
        obtain ⟨i, now, A1, k1, rfl, rfl, hin, HC, HV, HO, HSM, HSN, HY, HU⟩ := hrel
        by_cases hi : i < n2
        case pos =>
          obtain ⟨b, o, rfl, d0_, d1_⟩ := HSN.out.at_ hi
          have hil : i < M2.length := by rw [HL2.out]; exact hi
          have q := HTb.out.2.2 i hil
          have q2 : i + 1 < n2 → (M2.getD i (0, 0)).1 ≤ (M2.getD (i + 1) (0, 0)).1 := fun h => (HTb.out.2.2 (i + 1) (by rw [HL2.out]; exact h)).2.2.1 (Nat.succ_pos _)
          have qc := HC.out.2.2.2 hi
          have et := takeX_getD hil
          have hz9 := HZ.out
          have KD1 := Lib.hid (fun W A k hk hS => dqA_up mx v now (M2.getD i (0, 0)).1 (M2.take i) hv1 HC.out.1 qc (by omega) HC.out.2.2.1 W A k hk hS)
          have KD2 := Lib.hid (fun W A k hk hS => dqB_up mx v (M2.getD i (0, 0)).1 (M2.getD i (0, 0)).2 (M2.take i) hv1 ⟨by omega, by omega⟩ q.2.2.2 (HC.out.2.2.1.later qc) W A k hk hS)
          rw [← et] at KD2
          unfold DqR at KD1 KD2
          have HC2 : Hid (0 ≤ (M2.getD i (0, 0)).1 ∧ (M2.getD i (0, 0)).1 ≤ T ∧ okQ (M2.getD i (0, 0)).1 (M2.take (i + 1)) ∧ (i + 1 < n2 → (M2.getD i (0, 0)).1 ≤ (M2.getD (i + 1) (0, 0)).1)) := Lib.hid ⟨q.1, q.2.1, by rw [et]; exact (HC.out.2.2.1.later qc).push q.1 q.2.2.2, q2⟩
          clear q q2 qc et HC hz9
          obtain ⟨X3, hX3⟩ : ∃ X, X = dqX mx v (M2.getD i (0, 0)).1 (M2.take (i + 1)) := ⟨_, rfl⟩
          rw [← hX3] at KD2
          have HX3 := Lib.hid hX3
          clear hX3
          generalize dqX mx v now (M2.take i) = X1 at *
          generalize dqX mx v (M2.getD i (0, 0)).1 (M2.take i) = X2 at *
          generalize (M2.getD i (0, 0)).1 = t at *
          generalize (M2.getD i (0, 0)).2 = y at *
          have g2 : (i : Int) < n2 := by omega
          have g3 : (0 : Int) ≤ i := by omega
          have hpc : p2 < wr.heap.size := HV.out.lt
          have x0 := HV.out.c0
          have x1 := HV.out.c1
          have x2 := HV.out.c2
          have x3 := HV.out.c3
          have x4 := HV.out.c4
          have zf := fun o => HU.out.ownGe hp2 o
          go_upto_region 25 with (go_at_call 14; (with_reducible refine (KD1.out _ A1 k1 HV.out.cap (HV.out.sl.up ((Up.refl wr).alloc _ _))).mono ?_); rintro e w5 ⟨A5, k5, rfl, hN, hS, hu⟩; have HS5 := Lib.hid hS; have HK5 := Lib.hid hN.1; have HC5 : Hid (Up wr w5) := Lib.hid (((Up.refl wr).alloc _ _).trans hu); have HN5 : Hid (∀ b o, A5 = some ⟨b, o, none⟩ → wr.heap.size ≤ b) := Lib.hid (fun b o e => by have := hN.2 b o e; (try simp at this); omega); have u0 := hu.keep wr.heap.size 0 (.int .i64 t) (by simp [go_sem]); have u1 := hu.keep wr.heap.size 1 (.int .i64 y) (by simp [go_sem]); clear hN hS hu; have z5 := fun o => (HU.out.trans HC5.out).ownGe hp2 o; have y0 := HC5.out.keep _ _ _ x0; have y1 := HC5.out.keep _ _ _ x1; have y2 := HC5.out.keep _ _ _ x2; have y3 := HC5.out.keep _ _ _ x3; have y4 := HC5.out.keep _ _ _ x4)
          refine (show ∀ ws6 : World, ws6 = _ → Code.wp _ _ _ _ ws6 from fun ws6 hws => ?_) _ rfl
          have HV6 : Hid (Vx ws6 p2 mx v 200 t X2 A5 k5) := Lib.hid (by rw [hws]; exact Vx.put (HC5.out.keep _ _ _ x0) (HC5.out.keep _ _ _ x1) (HC5.out.keep _ _ _ x2) (HC5.out.keep _ _ _ x3) (HC5.out.keep _ _ _ x4) HS5.out (fun b o e => by have := HN5.out b o e; omega) HK5.out)
          have HSM6 : Hid (Sl ws6 Am m1 M1) := Lib.hid (by rw [hws]; exact (HSM.out.up HC5.out).w5 HM2.out)
          have HSN6 : Hid (Sl ws6 (some ⟨b, o, none⟩) n2 M2) := Lib.hid (by rw [hws]; exact (HSN.out.up HC5.out).w5 HN2.out)
          have HY6 : Hid (Vx ws6 p1 mx v 200 nx Xa Aa ka) := Lib.hid (by rw [hws]; exact (HY.out.up HC5.out).w5 h21 HO1.out)
          have HU6 : Hid (Up w ws6) := Lib.hid (by rw [hws]; exact (HU.out.trans HC5.out).w5 hp2)
          have r1 : ws6.cell? ⟨wr.heap.size, 1, none⟩ = some (.int .i64 y) := by rw [hws]; exact cell_w5 u1 (by omega)
          clear hws
          clear x0 x1 x2 x3 x4 y0 y1 y2 y3 y4 u0 u1 z5 zf HS5 HC5
          have x0 := HV6.out.c0
          have x1 := HV6.out.c1
          have x2 := HV6.out.c2
          have x3 := HV6.out.c3
          have x4 := HV6.out.c4
          have zf := fun o => HU6.out.ownGe hp2 o
          have hp6 : p2 < ws6.heap.size := HV6.out.lt
          go_upto_region 27 with (go_at_call 16; (with_reducible refine (KD2.out _ A5 k5 HV6.out.cap (HV6.out.sl.up (Up.refl ws6))).mono ?_); rintro e w7 ⟨A7, k7, rfl, hN, hS, hu⟩; have HS7 := Lib.hid hS; have HK7 := Lib.hid hN.1; have HC7 : Hid (Up ws6 w7) := Lib.hid ((Up.refl ws6).trans hu); have HN7 : Hid (∀ b o, A7 = some ⟨b, o, none⟩ → ws6.heap.size ≤ b) := Lib.hid (fun b o e => by have := hN.2 b o e; (try simp at this); omega); clear hN hS hu; have z7 := fun o => (HU6.out.trans HC7.out).ownGe hp2 o; have y0 := HC7.out.keep _ _ _ x0; have y1 := HC7.out.keep _ _ _ x1; have y2 := HC7.out.keep _ _ _ x2; have y3 := HC7.out.keep _ _ _ x3; have y4 := HC7.out.keep _ _ _ x4)
          refine (show ∀ ws8 : World, ws8 = _ → Code.wp _ _ _ _ ws8 from fun ws8 hws => ?_) _ rfl
          have HV8 : Hid (Vx ws8 p2 mx v 200 t X3 A7 k7) := Lib.hid (by rw [hws]; exact Vx.put (HC7.out.keep _ _ _ x0) (HC7.out.keep _ _ _ x1) (HC7.out.keep _ _ _ x2) (HC7.out.keep _ _ _ x3) (HC7.out.keep _ _ _ x4) HS7.out (fun b o e => by have := HN7.out b o e; omega) HK7.out)
          have HSM8 : Hid (Sl ws8 Am m1 M1) := Lib.hid (by rw [hws]; exact (HSM6.out.up HC7.out).w5 HM2.out)
          have HSN8 : Hid (Sl ws8 (some ⟨b, o, none⟩) n2 M2) := Lib.hid (by rw [hws]; exact (HSN6.out.up HC7.out).w5 HN2.out)
          have HY8 : Hid (Vx ws8 p1 mx v 200 nx Xa Aa ka) := Lib.hid (by rw [hws]; exact (HY6.out.up HC7.out).w5 h21 HO1.out)
          have HU8 : Hid (Up w ws8) := Lib.hid (by rw [hws]; exact (HU6.out.trans HC7.out).w5 hp2)
          clear hws
          clear x0 x1 x2 x3 x4 y0 y1 y2 y3 y4 z7 zf HS7 HC7
          have ho6 : p1 < ws6.heap.size := HY6.out.lt
          go_wp2_with fail
          go_roundw
          case rel => exact ⟨i + 1, t, A7, k7, rfl, by go_num, by omega, HC2, Lib.hid (HX3.out ▸ HV8.out), Lib.hid (fun b o e => by have := HN7.out b o e; omega), HSM8, HSN8, HY8, HU8⟩
          case measure => simp [intOf]; omega
        obtain rfl : i = n2 := by omega
        have f3 : decide ((i : Int) < i) = false := decide_eq_false (by omega)
        have htk : M2.take i = M2 := List.take_of_length_le (by rw [HL2.out]; exact Nat.le_refl _)
        rw [htk] at HV HC
        obtain ⟨e0, e1, hok, _⟩ := HC.out
        have hz := HZ.out
        have hok2 := hok.later e1
        have hok1 := Hok1.out
        have KDy := Lib.hid (fun W A k hk hS => dqA_up mx v now T M2 hv1 e0 e1 (by omega) hok W A k hk hS)
        have KM := Lib.hid (fun W A k B j hk hj hS hT => dqM_up mx v T M1 M2 hv1 ⟨hz.1, by omega⟩ hok1 hok2 W A k B j hk hj hS hT)
        unfold DqR at KDy KM
        have hl1 : mlL M1 T v = livL M1 T v := mlL_livX (tickB_yes hz.1 (by omega)) (winB_yes hv1.1 (by omega)) (fun x hx => (hok1 x hx).1)
        have hl2 : mlL M2 T v = livL M2 T v := mlL_livX (tickB_yes hz.1 (by omega)) (winB_yes hv1.1 (by omega)) (fun x hx => (hok2 x hx).1)
        have KL1 := Lib.hid (fun W (h : Sl W Am m1 M1) => mliveI_up m1 km Am M1 T v (by omega) hz.1 (by omega) hv1.1 hv1.2 W h)
        have KL2 := Lib.hid (fun W (h : Sl W Bm i M2) => mliveI_up i jm Bm M2 T v (by omega) hz.1 (by omega) hv1.1 hv1.2 W h)
        rw [hl1] at KL1
        rw [hl2] at KL2
        have KK := Lib.hid (fun q7 j7 A7 W (hn : q7 ≤ 1000) (h : Sl W A7 q7 (livL M1 T v ++ livL M2 T v)) => (kept17_up mx q7 j7 A7 (livL M1 T v ++ livL M2 T v) (by omega) W h).mono (fun e w' h => show ∃ A' k', e = .returned (.slice A' (dqX mx v T (M1 ++ M2)).length k') ∧ Sl w' A' (dqX mx v T (M1 ++ M2)).length (dqX mx v T (M1 ++ M2)) ∧ Up W w' from by
          obtain ⟨A', n', k', h1, h2, h3⟩ := h
          rw [← livL_app] at h2
          obtain rfl := h2.all17.2.1
          exact ⟨A', k', h1, h2.all17.2, h3⟩))
        have hxl := dq_len17 (mx := mx) (M := M1 ++ M2) hv1 (show 0 ≤ T ∧ T ≤ 16777216 by omega)
        have KI := Lib.hid (fun A B k j W (hA : Sl W A (dqX mx v T (M1 ++ M2)).length (dqX mx v T (M1 ++ M2))) (hB : Sl W B (dqX mx v T (M1 ++ M2)).length (dqX mx v T (M1 ++ M2))) => sameItems_t _ k j A B (dqX mx v T (M1 ++ M2)) (by omega) W hA hB)
        generalize dqX mx v T (M1 ++ M2) = X3 at *
        generalize dqX mx v T M1 = X1 at *
        generalize dqX mx v T M2 = X2 at *
        generalize dqX mx v now M2 = Xb at *
        generalize livL M1 T v = Z1 at *
        generalize livL M2 T v = Z2 at *
        clear htk hok hok1 hok2 e0 e1 hz hl1 hl2 hxl HC Hok1 hi hin HTb HL2
        have x0 := HY.out.c0
        have x1 := HY.out.c1
        have x2 := HY.out.c2
        have x3 := HY.out.c3
        have x4 := HY.out.c4
        have hq1 : p1 < wr.heap.size := HY.out.lt
        have hq2 : p2 < wr.heap.size := HV.out.lt
        go_upto_region 31 with (go_at_call 14; (with_reducible refine (KDx.out _ Aa ka HY.out.cap (HY.out.sl.up (Up.refl wr))).mono ?_); rintro e w5 ⟨A5, k5, rfl, hN, hS, hu⟩; have HS5 := Lib.hid hS; have HK5 := Lib.hid hN.1; have HC5 : Hid (Up wr w5) := Lib.hid ((Up.refl wr).trans hu); have HN5 : Hid (∀ b o, A5 = some ⟨b, o, none⟩ → wr.heap.size ≤ b) := Lib.hid (fun b o e => by have := hN.2 b o e; (try simp at this); omega); clear hN hS hu; have z5 := fun o => (HU.out.trans HC5.out).ownGe hp1 o; have y0 := HC5.out.keep _ _ _ x0; have y1 := HC5.out.keep _ _ _ x1; have y2 := HC5.out.keep _ _ _ x2; have y3 := HC5.out.keep _ _ _ x3; have y4 := HC5.out.keep _ _ _ x4)
        refine (show ∀ ws6 : World, ws6 = _ → Code.wp _ _ _ _ ws6 from fun ws6 hws => ?_) _ rfl
        have HV6 : Hid (Vx ws6 p1 mx v 200 T X1 A5 k5) := Lib.hid (by rw [hws]; exact Vx.put (HC5.out.keep _ _ _ x0) (HC5.out.keep _ _ _ x1) (HC5.out.keep _ _ _ x2) (HC5.out.keep _ _ _ x3) (HC5.out.keep _ _ _ x4) HS5.out (fun b o e => by have := HN5.out b o e; omega) HK5.out)
        have HSM6 : Hid (Sl ws6 Am m1 M1) := Lib.hid (by rw [hws]; exact (HSM.out.up HC5.out).w5 HM1.out)
        have HSN6 : Hid (Sl ws6 Bm i M2) := Lib.hid (by rw [hws]; exact (HSN.out.up HC5.out).w5 HN1.out)
        have HY6 : Hid (Vx ws6 p2 mx v 200 now Xb A1 k1) := Lib.hid (by rw [hws]; exact (HV.out.up HC5.out).w5 h12 HO.out)
        have HU6 : Hid (Up w ws6) := Lib.hid (by rw [hws]; exact (HU.out.trans HC5.out).w5 hp1)
        clear hws
        have ho6 : p2 < ws6.heap.size := HY6.out.lt
        clear x0 x1 x2 x3 x4 y0 y1 y2 y3 y4 z5 HS5 HC5
        have x0 := HY6.out.c0
        have x1 := HY6.out.c1
        have x2 := HY6.out.c2
        have x3 := HY6.out.c3
        have x4 := HY6.out.c4
        have hq6 : p1 < ws6.heap.size := HV6.out.lt
        go_upto_region 32 with (go_at_call 14; (with_reducible refine (KDy.out _ A1 k1 HY6.out.cap (HY6.out.sl.up (Up.refl ws6))).mono ?_); rintro e w7 ⟨A7, k7, rfl, hN, hS, hu⟩; have HS7 := Lib.hid hS; have HK7 := Lib.hid hN.1; have HC7 : Hid (Up ws6 w7) := Lib.hid ((Up.refl ws6).trans hu); have HN7 : Hid (∀ b o, A7 = some ⟨b, o, none⟩ → ws6.heap.size ≤ b) := Lib.hid (fun b o e => by have := hN.2 b o e; (try simp at this); omega); clear hN hS hu; have z7 := fun o => (HU6.out.trans HC7.out).ownGe hp2 o; have y0 := HC7.out.keep _ _ _ x0; have y1 := HC7.out.keep _ _ _ x1; have y2 := HC7.out.keep _ _ _ x2; have y3 := HC7.out.keep _ _ _ x3; have y4 := HC7.out.keep _ _ _ x4)
        refine (show ∀ ws8 : World, ws8 = _ → Code.wp _ _ _ _ ws8 from fun ws8 hws => ?_) _ rfl
        have HV8 : Hid (Vx ws8 p2 mx v 200 T X2 A7 k7) := Lib.hid (by rw [hws]; exact Vx.put (HC7.out.keep _ _ _ x0) (HC7.out.keep _ _ _ x1) (HC7.out.keep _ _ _ x2) (HC7.out.keep _ _ _ x3) (HC7.out.keep _ _ _ x4) HS7.out (fun b o e => by have := HN7.out b o e; omega) HK7.out)
        have HSM8 : Hid (Sl ws8 Am m1 M1) := Lib.hid (by rw [hws]; exact (HSM6.out.up HC7.out).w5 HM2.out)
        have HSN8 : Hid (Sl ws8 Bm i M2) := Lib.hid (by rw [hws]; exact (HSN6.out.up HC7.out).w5 HN2.out)
        have HY8 : Hid (Vx ws8 p1 mx v 200 T X1 A5 k5) := Lib.hid (by rw [hws]; exact (HV6.out.up HC7.out).w5 h21 (fun b o e => by have := HN5.out b o e; omega))
        have HU8 : Hid (Up w ws8) := Lib.hid (by rw [hws]; exact (HU6.out.trans HC7.out).w5 hp2)
        clear hws
        clear x0 x1 x2 x3 x4 y0 y1 y2 y3 y4 z7 HS7 HC7
        have x0 := HV8.out.c0
        have x1 := HV8.out.c1
        have x2 := HV8.out.c2
        have x3 := HV8.out.c3
        have x4 := HV8.out.c4
        have e0 := HY8.out.c0
        have e1 := HY8.out.c1
        have e2 := HY8.out.c2
        have e3 := HY8.out.c3
        have e4 := HY8.out.c4
        go_upto_region 34 with (first
          | (go_at_call 22; (with_reducible refine (KM.out _ _ _ _ _ HY8.out.cap HV8.out.cap HY8.out.sl HV8.out.sl).mono ?_); rintro e w9 ⟨A9, k9, rfl, hN, hS, hu⟩; have HS9 := Lib.hid hS; have HC9 := Lib.hid hu; have HN9 := Lib.hid (hS.up ((Up.refl w9).alloc #[.bool mx, .int .i64 v, .int .i64 200, .int .i64 T, .slice A9 X3.length k9] 24)); clear hN hS hu)
          | (go_at_call 26; (with_reducible refine (KL1.out _ (HSM8.out.up (HC9.out.trans ((Up.refl w9).alloc _ _)))).mono ?_); rintro e w10 ⟨A10, n10, k10, rfl, hn10, hO, hu⟩; have HO10 := Lib.hid hO; have HC10 := Lib.hid (((Up.refl w9).alloc _ _).trans hu); have HD10 := Lib.hid hu; clear hO)
          | (go_at_call 26; (with_reducible refine (KL2.out _ (HSN8.out.up (HC9.out.trans HC10.out))).mono ?_); rintro e w11 ⟨A11, n11, k11, rfl, hn11, hO, hu2⟩; have HS11 := Lib.hid hO.all17.2; have HC11 := Lib.hid (HD10.out.trans hu2); obtain ⟨v12, w12, hr, hO12, hU12⟩ := append_run 22 _ w11 (.slice A10 n10 k10) n10 Z1 (HO10.out.of_up hu2) HC11.out A11 n11 k11 Z2 HS11.out (by omega); obtain ⟨A12, k12, rfl, _, _⟩ := hO12.sl; have HS12 := Lib.hid hO12.all17.2; have HC12 := Lib.hid (((Up.refl w9).alloc _ _).trans hU12); have b4 := hU12.keep w9.heap.size 4 (.slice A9 X3.length k9) (by simp [go_sem]); have HR12 := Lib.hid (HN9.out.up hU12); clear hO hu hu2 hO12 hU12)
          | (refine wpList_append_run (o := ⟨some 145, _, _, _, _, _⟩) rfl (.tmp 140) (.tmp 144) _ rfl _ _ rfl rfl _ _ hr ?_))
        have hb4 : w9.heap.size < w12.heap.size := World.block_lt_of_cell? _ _ b4
        have HUz := Lib.hid (HU8.out.trans (HC9.out.trans HC12.out))
        clear hr
        go_region_held3 (KB1 w9.heap.size w12 w12) (first | (with_reducible exact KB1.start (Lib.hid (Up.refl w12))) | (with_reducible exact KB1.next (by assumption) (by assumption))) (first
            | (go_at_call 28; (with_reducible refine (KK.out _ _ _ _ (by omega) (HS12.out.up (KB1.to (by assumption)))).mono ?_); rintro e w13 ⟨A13, k13, rfl, hS13, hu⟩; have HS13 := Lib.hid hS13; clear hS13)
            | (go_at_call 27; (with_reducible refine (KI.out _ _ _ _ _ (HR12.out.up (KB1.to (by assumption))) HS13.out).mono ?_); rintro e w14 ⟨rfl, hu⟩)
            | (go_at_call 12; (with_reducible refine (KA.out _).mono ?_); rintro e w15 ⟨rfl, hu⟩))
        go_wp2_with fail
        go_ret
        exact ⟨rfl, HUz.out.trans (KB1.to (by assumption))⟩

set_option maxRecDepth 100000 in
theorem extremeBoth_lifted (os : Os) (started : os.Started) (H : Type) (enc : TypeId × Value → H) :
    ReturnsInHanded {} Try.checked os 8 .any (Rows.extremeBothSpec.pre6 enc Try.prog Try.f8 Rows.extremeBothRow.domain false) (Rows.extremeBothSpec.post enc Try.prog Try.f8 false true false false) := by
  refine returnsInHanded_of_change_sized (C := Try.checked) extremeBoth_own started (by kernel_rfl) Try.func8
    (ChangeSpec.witness6 (enc := enc) (C := Try.checked) false ⟨#[], #[.slice none 0 0, .slice none 0 0, .bool false, .int .i64 0], []⟩ 8 (by kernel_rfl) (by kernel_rfl) (by kernel_rfl) (by kernel_rfl)) ?_
  intro W base args ds gs before hval0 hW hcnd hsz0 _
  have hval : ∀ (j : Nat) t v, Try.f8.params[j]? = some t → args[j]? = some v → Value.okWide Try.prog W .any base t v := hval0
  have hW' := hW
  obtain ⟨p, q, hA0, hV, rfl, hfz, hnd⟩ := hW'
  have hA : DataW.TrodAll enc Try.prog W 0 (fun _ => true) true Try.f8.params.toList args.toList ds p := hA0
  rw [Try.params8] at hA hval
  obtain ⟨v0, vs0, d0, ds0, p0, q0, hargs, rfl, rfl, h0, r0⟩ := trodAll_cons hA
  obtain ⟨v1, vs1, d1, ds1, p1, q1, rfl, rfl, rfl, h1, r1⟩ := trodAll_cons r0
  obtain ⟨v2, vs2, d2, ds2, p2, q2, rfl, rfl, rfl, h2, r2⟩ := trodAll_cons r1
  obtain ⟨v3, vs3, d3, ds3, p3, q3, rfl, rfl, rfl, h3, r3⟩ := trodAll_cons r2
  obtain ⟨rfl, rfl, rfl⟩ := trodAll_nil r3
  obtain rfl : args = #[v0, v1, v2, v3] := by cases args; simp_all
  obtain ⟨rfl, rfl⟩ := trodVars_none hV
  have hlt := fun x hx => hW.lt x hx
  have k0 := h0
  obtain ⟨n0, m0, A0, L0, rfl, hk0, hS0, hI0⟩ := open_items2 (hval 0 22 v0 rfl rfl) h0
  have k1 := h1
  obtain ⟨n1, m1, A1, L1, rfl, hk1, hS1, hI1⟩ := open_items2 (hval 1 22 v1 rfl rfl) h1
  have k2 := h2
  obtain ⟨a2, rfl, rfl, rfl⟩ := Go.RowKit.open_bool Try.underlying4 (hval 2 4 v2 rfl rfl) h2
  have k3 := h3
  obtain ⟨a3, rfl, rfl, rfl, w3⟩ := open_int Try.underlying2 (hval 3 2 v3 rfl rfl) h3
  refine (extremeBoth_walk n0 m0 A0 L0 hk0 hI0 n1 m1 A1 L1 hk1 hI1 a2 a3 w3 W hS0 hS1).mono fun e W' ⟨he, hg⟩ => ?_
  subst he
  exact ⟨_, rfl, post_of_same (pv := []) hW (fun _ _ _ => (trodAll_cons_mk (shut_bool Try.underlying4 _) trodAll_mk0)) (fun sp hsp => (trodAll_cons_mk (stay (by kernel_rfl) (of_decide_eq_true (by kernel_rfl)) k0 hg hlt (fun x hx => by first | (simp at hx; done) | simp [hx]) hsp) (trodAll_cons_mk (stay (by kernel_rfl) (of_decide_eq_true (by kernel_rfl)) k1 hg hlt (fun x hx => by first | (simp at hx; done) | simp [hx]) hsp) (trodAll_cons_mk (stay (by kernel_rfl) (of_decide_eq_true (by kernel_rfl)) k2 hg hlt (fun x hx => by first | (simp at hx; done) | simp [hx]) hsp) (trodAll_cons_mk (stay (by kernel_rfl) (of_decide_eq_true (by kernel_rfl)) k3 hg hlt (fun x hx => by first | (simp at hx; done) | simp [hx]) hsp) trodAll_mk0))))) (fun _ _ => rfl) rfl
    (hg.grown.frame _) hg.grown.2.1 (ok_one (by kernel_rfl) rfl (okWide_bool_mk Try.underlying4 _))⟩

theorem extremeBoth_over : Rows.extremeBothRow.holds Try.pinned (OpenSpec.ofChange Rows.extremeBothSpec) :=
  OpenClaim.holds_of_wide 8 Try.f8 rfl rfl rfl rfl rfl rfl rfl ⟨rfl, rfl, rfl, rfl, rfl⟩ rfl rfl rfl rfl rfl (by kernel_rfl) Try.func8 (by kernel_rfl)
    (of_decide_eq_true (by kernel_rfl)) (by unfold Func.isWrapper; first | (rw [if_pos (by decide +kernel)]; kernel_rfl) | (rw [if_neg (by decide +kernel)]; exact ⟨rfl, rfl⟩))
    (fun os started H enc _ => extremeBoth_lifted os started H enc)

theorem extremeBoth_holds : Rows.ExtremeBothSaid :=
  extremeBoth_over
end Go.Proofs.Ytfcknhpllhkpeaa
