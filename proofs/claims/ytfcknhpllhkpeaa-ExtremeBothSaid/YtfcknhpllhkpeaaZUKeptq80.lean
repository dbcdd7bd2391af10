/- Kept of the reference of layer 17. -/
import Derived.Test.YtfcknhpllhkpeaaRows
import Derived.Test.YtfcknhpllhkpeaaZUPushq70
namespace Go.Proofs.Ytfcknhpllhkpeaa
open Go.RowKit
set_option linter.unusedVariables false

/-- Item q rules item p out (at i and j), as Kept asks. -/
def hitX (mx : Bool) (i j : Nat) (p q : It) : Bool := decide (i ≠ j) && (decide (p.1 ≤ q.1) && (decide (sgE mx p.2 ≤ sgE mx q.2) && (!(p.1 == q.1 && p.2 == q.2) || decide (j < i))))
def kjX (mx : Bool) (L : List It) (i n : Nat) : Bool := (List.range n).all (fun j => decide (¬ (i ≠ j ∧ rulE mx (L.getD j (0, 0)) (L.getD i (0, 0)) ∧ (L.getD i (0, 0) ≠ L.getD j (0, 0) ∨ j < i))))
theorem kjX_all (mx : Bool) (L : List It) (i : Nat) : kjX mx L i L.length = keI mx L i := rfl
theorem kjX_step (mx : Bool) (L : List It) (i j : Nat) : kjX mx L i (j + 1) = (kjX mx L i j && !hitX mx i j ((L.getD i (0, 0)).1, (L.getD i (0, 0)).2) ((L.getD j (0, 0)).1, (L.getD j (0, 0)).2)) := by
  unfold kjX
  rw [List.range_succ, List.all_append]
  congr 1
  simp only [List.all_cons, List.all_nil, Bool.and_true]
  unfold hitX rulE
  rw [Bool.eq_iff_iff, decide_eq_true_eq]
  simp only [Bool.not_eq_true', Bool.and_eq_false_iff, Bool.or_eq_false_iff, Bool.not_eq_false', Bool.and_eq_true, beq_iff_eq, decide_eq_false_iff_not]
  rw [show (L.getD i (0, 0) ≠ L.getD j (0, 0)) ↔ ¬ ((L.getD i (0, 0)).1 = (L.getD j (0, 0)).1 ∧ (L.getD i (0, 0)).2 = (L.getD j (0, 0)).2) from not_congr Prod.ext_iff]
  by_cases a : i = j <;> by_cases b : (L.getD i (0, 0)).1 ≤ (L.getD j (0, 0)).1 <;> by_cases c : sgE mx (L.getD i (0, 0)).2 ≤ sgE mx (L.getD j (0, 0)).2 <;> by_cases d : ((L.getD i (0, 0)).1 = (L.getD j (0, 0)).1 ∧ (L.getD i (0, 0)).2 = (L.getD j (0, 0)).2) <;> by_cases e : j < i <;> simp_all <;> omega
theorem sliceFromI_run (A : Option Addr) (n k m : Nat) (h : m ≤ n) (w : World) : (Instr.slice 22 (.slice A n k) (some (.int .i64 m)) none none).run Try.prog w = .ok (.slice (if k = m then A else A.map (·.add (m * 2))) (n - m) (k - m)) w := by
  have qs := Try.sizeOf41
  have ht := Try.underlying22
  have h1 : (m : Int) ≤ n := by omega
  simp [Instr.slice, run_underlying ht, Instr.sliceBounds, run_sliceBound, qs, h1, Int.natCast_nonneg]
set_option maxHeartbeats 4000000 in
set_option maxRecDepth 100000 in
theorem kept17_up (mx : Bool) (n k : Nat) (A : Option Addr) (L : List It) (hn : n ≤ 100000) (w : World) (hS : Sl w A n L) :
    Calls Try.prog 28 #[.slice A n k, .bool mx] w fun e w' => RwX (kpX mx L) w e w' := by
  have HL := Lib.hid hS.1
  have HS := Lib.hid hS
  have HZ : Hid (kpX mx L = keS mx L n) := Lib.hid (by unfold kpX; rw [hS.1])
  have KB0 := Lib.hid (fun a b W => better17_any mx a b W)
  unfold RwX
  clear hS
  go_enter Try.func28, Try.ntmps28
  go_wp2_with fail
  go_loopw [5, 14] (fun s t wr => ∃ (i m k1 : Nat) (A1 : Option Addr), s = .slice A1 m k1 ∧ t = .int .i64 i ∧ i ≤ n ∧ m ≤ i ∧ Hid (Own w wr (.slice A1 m k1) m (keS mx L i)) ∧ Hid (Up w wr)) (fun _ t _ => n - (intOf t).toNat)
  case atStart => exact ⟨0, 0, 0, none, rfl, rfl, Nat.zero_le _, Nat.le_refl _, Lib.hid (Own.nil _ _), Lib.hid (Up.refl _)⟩
  case round =>
    obtain ⟨wo, hwo⟩ : ∃ z, z = wr := ⟨_, rfl⟩
    subst hwo
    obtain ⟨i, m, k1, A1, rfl, rfl, hin, hmi, HO, HW⟩ := hrel
    by_cases hi : i < n
    case neg =>
      obtain rfl : i = n := by omega
      have f1 : decide ((i : Int) < i) = false := decide_eq_false (by omega)
      go_wp2_with fail
      go_ret
      exact ⟨A1, m, k1, rfl, by rw [HZ.out]; exact HO.out, HW.out⟩
    clear HZ
    obtain ⟨b, o, rfl, x0, x1⟩ := (HS.out.up HW.out).at_ hi
    have hb : b < wo.heap.size := World.block_lt_of_cell? _ _ x0
    have hil : i < L.length := by rw [HL.out]; exact hi
    have HSTEP := Lib.hid (fun e => kjX_step mx L i e)
    have HALL : Hid (kjX mx L i n = keI mx L i) := Lib.hid (by rw [← HL.out]; exact kjX_all mx L i)
    have HIN0 : Hid (keI mx L i = true → keS mx L (i + 1) = insE ((L.getD i (0, 0)).1, (L.getD i (0, 0)).2) (keS mx L i)) := Lib.hid (fun h => by show (if keI mx L i = true then _ else _) = _; rw [if_pos h])
    have HOUT0 : Hid (keI mx L i = false → keS mx L (i + 1) = keS mx L i) := Lib.hid (fun h => by show (if keI mx L i = true then _ else _) = _; rw [if_neg (by rw [h]; decide)])
    have HPW := Lib.hid (keS_facts (mx := mx) (L := L) i (by omega)).1
    have hd := fun j (hj : j < n) => (HS.out.up HW.out).at_ hj
    generalize keS mx L i = K at *
    obtain ⟨p, hp⟩ : ∃ z, z = L.getD i (0, 0) := ⟨_, rfl⟩
    rw [← hp] at x0 x1 HIN0
    have HSTEP2 : Hid (∀ e, kjX mx L i (e + 1) = (kjX mx L i e && !hitX mx i e (p.1, p.2) ((L.getD e (0, 0)).1, (L.getD e (0, 0)).2))) := Lib.hid (fun e => by rw [HSTEP.out e, ← hp])
    clear hp HSTEP
    obtain ⟨p0, p1⟩ := p
    simp only at x0 x1 HSTEP2 HIN0
    have g2 : (i : Int) < n := by omega
    have g3 : (0 : Int) ≤ i := by omega
    go_wp2_with fail
    refine (show ∀ wa : World, wa = _ → Code.wp _ _ _ _ wa from fun wa hwa => ?_) _ rfl
    have HWa : Hid (Up w wa) := Lib.hid ((HW.out.alloc _ _).trans (Up.of_eq hwa))
    have HAw : Hid (Up wo wa) := Lib.hid (((Up.refl wo).alloc _ _).trans (Up.of_eq hwa))
    have y0 : wa.cell? ⟨wo.heap.size, 0, none⟩ = some (.int .i64 p0) := by rw [hwa]; simp [go_sem]
    have y1 : wa.cell? ⟨wo.heap.size, 1, none⟩ = some (.int .i64 p1) := by rw [hwa]; simp [go_sem]
    clear hwa x0 x1
    go_loopw [8, 21] (fun s t wi => ∃ (e : Nat) (r : Bool), s = .bool r ∧ t = .int .i64 e ∧ e ≤ n ∧ Hid (r = kjX mx L i e) ∧ Hid (Up wa wi)) (fun _ t _ => n - (intOf t).toNat)
    case atStart => exact ⟨0, true, rfl, rfl, Nat.zero_le _, Lib.hid rfl, Lib.hid (Up.refl _)⟩
    case round =>
      obtain ⟨wi, hwi⟩ : ∃ z, z = wr := ⟨_, rfl⟩
      subst hwi
      obtain ⟨e, r, rfl, rfl, hen, HR, HI⟩ := hrel
      have x0 := HI.out.keep _ _ _ y0
      have x1 := HI.out.keep _ _ _ y1
      have hxb : wo.heap.size < wi.heap.size := World.block_lt_of_cell? _ _ x0
      by_cases he : e < n
      case neg =>
        obtain rfl : e = n := by omega
        have f1 : decide ((e : Int) < e) = false := decide_eq_false (by omega)
        have HRK : Hid (r = keI mx L i) := Lib.hid (HR.out.trans HALL.out)
        have HA : Hid (Up wo wi) := Lib.hid (HAw.out.trans HI.out)
        clear HR HALL HSTEP2 hd KB0 y0 y1 HL HS
        cases r
        · have HE : Hid (keS mx L (i + 1) = K) := Lib.hid (HOUT0.out HRK.out.symm)
          clear HIN0 HOUT0 HRK HPW
          go_wp2_with fail
          go_roundw
          case rel => exact ⟨i + 1, m, k1, A1, rfl, by go_num, by omega, by omega, Lib.hid (by rw [HE.out]; exact HO.out.of_up HA.out), Lib.hid (HWa.out.trans HI.out)⟩
          case measure => simp [intOf]; omega
        have HIN : Hid (keS mx L (i + 1) = insE (p0, p1) K) := Lib.hid (HIN0.out HRK.out.symm)
        have HSP := Lib.hid (fun k h1 h2 h3 => insE_split (x := (p0, p1)) (k := k) HPW.out h1 h2 h3)
        have hmk : m ≤ k1 := HO.out.all17.1.1
        have hKl : K.length = m := HO.out.all17.2.1
        rw [hKl] at HSP
        clear HIN0 HOUT0 HRK HPW
        have HWi := Lib.hid (HWa.out.trans HI.out)
        go_wp2_with fail
        go_loopw [11] (fun s wk => ∃ f : Nat, s = .int .i64 f ∧ f ≤ m ∧ Hid (∀ j, f ≤ j → j < m → p0 < (K.getD j (0, 0)).1) ∧ Hid (Up wi wk)) (fun s _ => (intOf s).toNat)
        case atStart => exact ⟨m, rfl, Nat.le_refl _, Lib.hid (fun j h1 h2 => by omega), Lib.hid (Up.refl _)⟩
        case round =>
          obtain ⟨wk, hwk⟩ : ∃ z, z = wr := ⟨_, rfl⟩
          subst hwk
          obtain ⟨f, rfl, hfm, HP2, HK2⟩ := hrel
          have z0 := HK2.out.keep _ _ _ x0
          have z1 := HK2.out.keep _ _ _ x1
          have hf0 : (0 : Int) ≤ f := by omega
          rcases Nat.eq_zero_or_pos f with h0 | h0
          · have t1 : decide (0 < f) = false := decide_eq_false (by omega)
            have t2 : decide ((0 : Int) < (f : Int)) = false := decide_eq_false (by omega)
            have H0 := Lib.hid h0
            clear h0
            go_wp2_with fail
            go_quiet (fail)
            go_upto_region 16 with fail
            refine (show ∀ W : World, W = _ → Code.wp _ _ _ _ W from fun W hW => ?_) _ rfl
            have HV := (HK2.out.trans (((Up.refl _).drewN _).trans (Up.of_eq hW)))
            have b0 := HV.keep _ _ _ x0
            have b1 := HV.keep _ _ _ x1
            have hUV := HWi.out.trans HV
            have hOV := HO.out.of_up (HA.out.trans HV)
            clear hW HV
            have hE : K.take f ++ (p0, p1) :: K.drop f = insE (p0, p1) K := HSP.out f hfm HP2.out (fun h => by have := H0.out; omega)
            have hsT := fun V => sliceToI_run A1 m k1 f (by omega) V
            have hsF := fun V => sliceFromI_run A1 m k1 f hfm V
            have hSt : Sl W A1 f (K.take f) := hOV.all17.2.first hfm
            have hSd := hOV.all17.2.cut hfm hmk
            obtain ⟨Af, hAf⟩ : ∃ z, z = (if k1 = f then A1 else A1.map (·.add (f * 2))) := ⟨_, rfl⟩
            rw [← hAf] at hSd
            simp only [← hAf] at hsF
            have hcat : K.take f ++ [(p0, p1)] ++ K.drop f = keS mx L (i + 1) := by rw [List.append_assoc, HIN.out, ← hE]; rfl
            have hln : f + 1 + (m - f) = m + 1 := by omega
            have hf0 : (0 : Int) ≤ f := by omega
            have hfk : (f : Int) ≤ k1 := by omega
            have hfi : (f : Int) ≤ m := by omega
            obtain ⟨v1, w6a, r1, o1, u1⟩ := append0_run 22 W (W.drew.alloc (.cells #[] 41)) W.heap.size (own_empty' (w := W.drew) rfl (Nat.le_refl _)) ((Up.refl W).drew.alloc _ _) A1 f k1 (K.take f) (hSt.up ((Up.refl W).drew.alloc _ _)) (by omega)
            obtain ⟨A1a, k1a, rfl, _, _⟩ := o1.sl
            have v1 : Up W w6a := ((Up.refl W).drew.alloc _ _).trans u1
            obtain ⟨v2, w7a, r2, o2, u2⟩ := append_run 22 W (w6a.alloc (.cells #[.int .i64 p0, .int .i64 p1] 41)) _ f (K.take f) (o1.of_up ((Up.refl _).alloc _ _)) (v1.alloc _ _) (some ⟨w6a.heap.size, 0, none⟩) 1 1 [(p0, p1)] (one_new w6a p0 p1) (by omega)
            obtain ⟨A2a, k2a, rfl, _, _⟩ := o2.sl
            obtain ⟨v3, w8a, r3, o3, u3⟩ := append_run 22 W w7a _ (f + 1) _ o2 u2 Af (m - f) (k1 - f) (K.drop f) (hSd.up u2) (by omega)
            obtain ⟨A3a, k3a, rfl, _, _⟩ := o3.sl
            rw [hcat, hln] at o3
            rw [hln] at r3
            have LAa := Lib.hid (And.intro (o3.weak17 hUV.size) (hUV.trans u3))
            have R1a := Lib.hid r1
            have R2a := Lib.hid r2
            have R3a := Lib.hid r3
            have b0a := v1.keep _ _ _ b0
            have b1a := v1.keep _ _ _ b1
            have lta : wo.heap.size < w6a.heap.size := World.block_lt_of_cell? _ _ b0a
            clear r1 r2 r3 o1 o2 o3 u1 u2 u3 v1
            obtain ⟨v1, w6b, r1, o1, u1⟩ := append0_run 22 W ((W.drew.alloc (.cells #[] 41)).alloc (.cells #[.int .i64 p0, .int .i64 p1] 41)) W.heap.size ((own_empty' (w := W.drew) rfl (Nat.le_refl _)).of_up ((Up.refl _).alloc _ _)) (((Up.refl W).drew.alloc _ _).alloc _ _) A1 f k1 (K.take f) (hSt.up (((Up.refl W).drew.alloc _ _).alloc _ _)) (by omega)
            obtain ⟨A1b, k1b, rfl, _, _⟩ := o1.sl
            have v1 : Up W w6b := (((Up.refl W).drew.alloc _ _).alloc _ _).trans u1
            obtain ⟨v2, w7b, r2, o2, u2⟩ := append_run 22 W w6b _ f (K.take f) o1 v1 (some ⟨(W.heap.size + 1), 0, none⟩) 1 1 [(p0, p1)] ((one_new' _ p0 p1 (by simp)).up u1) (by omega)
            obtain ⟨A2b, k2b, rfl, _, _⟩ := o2.sl
            obtain ⟨v3, w8b, r3, o3, u3⟩ := append_run 22 W w7b _ (f + 1) _ o2 u2 Af (m - f) (k1 - f) (K.drop f) (hSd.up u2) (by omega)
            obtain ⟨A3b, k3b, rfl, _, _⟩ := o3.sl
            rw [hcat, hln] at o3
            rw [hln] at r3
            have LAb := Lib.hid (And.intro (o3.weak17 hUV.size) (hUV.trans u3))
            have R1b := Lib.hid r1
            have R2b := Lib.hid r2
            have R3b := Lib.hid r3
            have b0b := v1.keep _ _ _ b0
            have b1b := v1.keep _ _ _ b1
            clear r1 r2 r3 o1 o2 o3 u1 u2 u3 v1
            obtain ⟨v1, w6c, r1, o1, u1⟩ := append0_run 22 W ((W.drew.alloc (.cells #[.int .i64 p0, .int .i64 p1] 41)).alloc (.cells #[] 41)) (W.heap.size + 1) (own_empty' (by simp) (by simp)) (((Up.refl W).drew.alloc _ _).alloc _ _) A1 f k1 (K.take f) (hSt.up (((Up.refl W).drew.alloc _ _).alloc _ _)) (by omega)
            obtain ⟨A1c, k1c, rfl, _, _⟩ := o1.sl
            have v1 : Up W w6c := (((Up.refl W).drew.alloc _ _).alloc _ _).trans u1
            obtain ⟨v2, w7c, r2, o2, u2⟩ := append_run 22 W w6c _ f (K.take f) o1 v1 (some ⟨W.heap.size, 0, none⟩) 1 1 [(p0, p1)] (((one_new' W.drew p0 p1 rfl).up ((Up.refl _).alloc _ _)).up u1) (by omega)
            obtain ⟨A2c, k2c, rfl, _, _⟩ := o2.sl
            obtain ⟨v3, w8c, r3, o3, u3⟩ := append_run 22 W w7c _ (f + 1) _ o2 u2 Af (m - f) (k1 - f) (K.drop f) (hSd.up u2) (by omega)
            obtain ⟨A3c, k3c, rfl, _, _⟩ := o3.sl
            rw [hcat, hln] at o3
            rw [hln] at r3
            have LAc := Lib.hid (And.intro (o3.weak17 hUV.size) (hUV.trans u3))
            have R1c := Lib.hid r1
            have R2c := Lib.hid r2
            have R3c := Lib.hid r3
            have b0c := v1.keep _ _ _ b0
            have b1c := v1.keep _ _ _ b1
            clear r1 r2 r3 o1 o2 o3 u1 u2 u3 v1
            clear hSt hSd hcat hln hAf hE hOV
            have ltb := World.block_lt_of_cell? _ _ b0
            simp only at ltb
            have hlt1 : wo.heap.size < W.heap.size + 1 := by omega
            go_region_law (first
              | ((with_reducible refine step_append_run rfl (.tmp 75) (.tmp 78) _ rfl _ _ ?_ ?_ _ _ R1a.out ?_); rfl; rfl)
              | ((with_reducible refine step_append_run rfl (.tmp 79) (.tmp 81) _ rfl _ _ ?_ ?_ _ _ R2a.out ?_); rfl; rfl)
              | ((with_reducible refine step_append_run rfl (.tmp 82) (.tmp 85) _ rfl _ _ ?_ ?_ _ _ R3a.out ?_); rfl; rfl)
              | ((with_reducible refine step_append_run rfl (.tmp 75) (.tmp 78) _ rfl _ _ ?_ ?_ _ _ R1b.out ?_); rfl; rfl)
              | ((with_reducible refine step_append_run rfl (.tmp 79) (.tmp 81) _ rfl _ _ ?_ ?_ _ _ R2b.out ?_); rfl; rfl)
              | ((with_reducible refine step_append_run rfl (.tmp 82) (.tmp 85) _ rfl _ _ ?_ ?_ _ _ R3b.out ?_); rfl; rfl)
              | ((with_reducible refine step_append_run rfl (.tmp 75) (.tmp 78) _ rfl _ _ ?_ ?_ _ _ R1c.out ?_); rfl; rfl)
              | ((with_reducible refine step_append_run rfl (.tmp 79) (.tmp 81) _ rfl _ _ ?_ ?_ _ _ R2c.out ?_); rfl; rfl)
              | ((with_reducible refine step_append_run rfl (.tmp 82) (.tmp 85) _ rfl _ _ ?_ ?_ _ _ R3c.out ?_); rfl; rfl))
            all_goals go_wp2_with fail
            all_goals go_roundw
            all_goals first
              | (with_reducible exact ⟨i + 1, m + 1, _, _, rfl, by go_num, by omega, by omega, Lib.hid LAa.out.1, Lib.hid LAa.out.2⟩)
              | (with_reducible exact ⟨i + 1, m + 1, _, _, rfl, by go_num, by omega, by omega, Lib.hid LAb.out.1, Lib.hid LAb.out.2⟩)
              | (with_reducible exact ⟨i + 1, m + 1, _, _, rfl, by go_num, by omega, by omega, Lib.hid LAc.out.1, Lib.hid LAc.out.2⟩)
              | (simp [intOf]; omega)
          obtain ⟨b3, o3, e3, u0, u1⟩ := (HO.out.of_up (HA.out.trans HK2.out)).all17.2.at_ (show f - 1 < m by omega)
          subst e3
          have t1 : decide (0 < f) = true := decide_eq_true h0
          have t2 : decide ((0 : Int) < (f : Int)) = true := decide_eq_true (by omega)
          obtain ⟨j, hj⟩ : ∃ j, j = f - 1 := ⟨_, rfl⟩
          have kw : IntKind.i64.wrap ((f : Int) - 1) = (j : Int) := by rw [show (f : Int) - 1 = (j : Int) by omega]; exact IntWalk.i64_in _ (by omega)
          have g6 : (j : Int) < m := by omega
          have g7 : (0 : Int) ≤ j := by omega
          rw [← hj] at u0 u1
          have Hj : Hid (j + 1 = f) := Lib.hid (by omega)
          have HQ : Hid (p0 < (K.getD j (0, 0)).1 → ∀ q, j ≤ q → q < m → p0 < (K.getD q (0, 0)).1) := Lib.hid (fun h q h1 h2 => by
            rcases Nat.lt_or_ge j q with y | y
            · exact HP2.out q (by omega) h2
            · rw [show q = j by omega]; exact h)
          by_cases hq : p0 < (K.getD j (0, 0)).1
          · have HQ2 := Lib.hid (HQ.out hq)
            clear HQ hj
            generalize (K.getD j (0, 0)).1 = q0 at *
            have t3 : decide (p0 < q0) = true := decide_eq_true hq
            clear hq
            go_wp2_with fail
            go_quiet (fail)
            go_wp2_with fail
            go_roundw
            case rel => exact ⟨j, by go_num, by have := Hj.out; omega, HQ2, Lib.hid (HK2.out.drewN _)⟩
            case measure => have := Hj.out; simp [intOf]; omega
          have Hq : Hid ((K.getD (f - 1) (0, 0)).1 ≤ p0) := Lib.hid (by rw [← hj]; omega)
          clear HQ hj
          generalize (K.getD j (0, 0)).1 = q0 at *
          have t3 : decide (p0 < q0) = false := decide_eq_false hq
          clear hq u1
          go_wp2_with fail
          go_quiet (fail)
          go_upto_region 16 with fail
          refine (show ∀ W : World, W = _ → Code.wp _ _ _ _ W from fun W hW => ?_) _ rfl
          have HV := (HK2.out.trans (((Up.refl _).drewN _).trans (Up.of_eq hW)))
          have b0 := HV.keep _ _ _ x0
          have b1 := HV.keep _ _ _ x1
          have hUV := HWi.out.trans HV
          have hOV := HO.out.of_up (HA.out.trans HV)
          clear hW HV
          have hE : K.take f ++ (p0, p1) :: K.drop f = insE (p0, p1) K := HSP.out f hfm HP2.out (fun _ => Hq.out)
          have hsT := fun V => sliceToI_run (some ⟨b3, o3, none⟩) m k1 f (by omega) V
          have hsF := fun V => sliceFromI_run (some ⟨b3, o3, none⟩) m k1 f hfm V
          have hSt : Sl W (some ⟨b3, o3, none⟩) f (K.take f) := hOV.all17.2.first hfm
          have hSd := hOV.all17.2.cut hfm hmk
          obtain ⟨Af, hAf⟩ : ∃ z, z = (if k1 = f then (some ⟨b3, o3, none⟩ : Option Addr) else (some ⟨b3, o3, none⟩ : Option Addr).map (·.add (f * 2))) := ⟨_, rfl⟩
          rw [← hAf] at hSd
          simp only [← hAf] at hsF
          have hcat : K.take f ++ [(p0, p1)] ++ K.drop f = keS mx L (i + 1) := by rw [List.append_assoc, HIN.out, ← hE]; rfl
          have hln : f + 1 + (m - f) = m + 1 := by omega
          have hf0 : (0 : Int) ≤ f := by omega
          have hfk : (f : Int) ≤ k1 := by omega
          have hfi : (f : Int) ≤ m := by omega
          obtain ⟨v1, w6a, r1, o1, u1⟩ := append0_run 22 W (W.drew.alloc (.cells #[] 41)) W.heap.size (own_empty' (w := W.drew) rfl (Nat.le_refl _)) ((Up.refl W).drew.alloc _ _) (some ⟨b3, o3, none⟩) f k1 (K.take f) (hSt.up ((Up.refl W).drew.alloc _ _)) (by omega)
          obtain ⟨A1a, k1a, rfl, _, _⟩ := o1.sl
          have v1 : Up W w6a := ((Up.refl W).drew.alloc _ _).trans u1
          obtain ⟨v2, w7a, r2, o2, u2⟩ := append_run 22 W (w6a.alloc (.cells #[.int .i64 p0, .int .i64 p1] 41)) _ f (K.take f) (o1.of_up ((Up.refl _).alloc _ _)) (v1.alloc _ _) (some ⟨w6a.heap.size, 0, none⟩) 1 1 [(p0, p1)] (one_new w6a p0 p1) (by omega)
          obtain ⟨A2a, k2a, rfl, _, _⟩ := o2.sl
          obtain ⟨v3, w8a, r3, o3, u3⟩ := append_run 22 W w7a _ (f + 1) _ o2 u2 Af (m - f) (k1 - f) (K.drop f) (hSd.up u2) (by omega)
          obtain ⟨A3a, k3a, rfl, _, _⟩ := o3.sl
          rw [hcat, hln] at o3
          rw [hln] at r3
          have LAa := Lib.hid (And.intro (o3.weak17 hUV.size) (hUV.trans u3))
          have R1a := Lib.hid r1
          have R2a := Lib.hid r2
          have R3a := Lib.hid r3
          have b0a := v1.keep _ _ _ b0
          have b1a := v1.keep _ _ _ b1
          have lta : wo.heap.size < w6a.heap.size := World.block_lt_of_cell? _ _ b0a
          clear r1 r2 r3 o1 o2 o3 u1 u2 u3 v1
          obtain ⟨v1, w6b, r1, o1, u1⟩ := append0_run 22 W ((W.drew.alloc (.cells #[] 41)).alloc (.cells #[.int .i64 p0, .int .i64 p1] 41)) W.heap.size ((own_empty' (w := W.drew) rfl (Nat.le_refl _)).of_up ((Up.refl _).alloc _ _)) (((Up.refl W).drew.alloc _ _).alloc _ _) (some ⟨b3, o3, none⟩) f k1 (K.take f) (hSt.up (((Up.refl W).drew.alloc _ _).alloc _ _)) (by omega)
          obtain ⟨A1b, k1b, rfl, _, _⟩ := o1.sl
          have v1 : Up W w6b := (((Up.refl W).drew.alloc _ _).alloc _ _).trans u1
          obtain ⟨v2, w7b, r2, o2, u2⟩ := append_run 22 W w6b _ f (K.take f) o1 v1 (some ⟨(W.heap.size + 1), 0, none⟩) 1 1 [(p0, p1)] ((one_new' _ p0 p1 (by simp)).up u1) (by omega)
          obtain ⟨A2b, k2b, rfl, _, _⟩ := o2.sl
          obtain ⟨v3, w8b, r3, o3, u3⟩ := append_run 22 W w7b _ (f + 1) _ o2 u2 Af (m - f) (k1 - f) (K.drop f) (hSd.up u2) (by omega)
          obtain ⟨A3b, k3b, rfl, _, _⟩ := o3.sl
          rw [hcat, hln] at o3
          rw [hln] at r3
          have LAb := Lib.hid (And.intro (o3.weak17 hUV.size) (hUV.trans u3))
          have R1b := Lib.hid r1
          have R2b := Lib.hid r2
          have R3b := Lib.hid r3
          have b0b := v1.keep _ _ _ b0
          have b1b := v1.keep _ _ _ b1
          clear r1 r2 r3 o1 o2 o3 u1 u2 u3 v1
          obtain ⟨v1, w6c, r1, o1, u1⟩ := append0_run 22 W ((W.drew.alloc (.cells #[.int .i64 p0, .int .i64 p1] 41)).alloc (.cells #[] 41)) (W.heap.size + 1) (own_empty' (by simp) (by simp)) (((Up.refl W).drew.alloc _ _).alloc _ _) (some ⟨b3, o3, none⟩) f k1 (K.take f) (hSt.up (((Up.refl W).drew.alloc _ _).alloc _ _)) (by omega)
          obtain ⟨A1c, k1c, rfl, _, _⟩ := o1.sl
          have v1 : Up W w6c := (((Up.refl W).drew.alloc _ _).alloc _ _).trans u1
          obtain ⟨v2, w7c, r2, o2, u2⟩ := append_run 22 W w6c _ f (K.take f) o1 v1 (some ⟨W.heap.size, 0, none⟩) 1 1 [(p0, p1)] (((one_new' W.drew p0 p1 rfl).up ((Up.refl _).alloc _ _)).up u1) (by omega)
          obtain ⟨A2c, k2c, rfl, _, _⟩ := o2.sl
          obtain ⟨v3, w8c, r3, o3, u3⟩ := append_run 22 W w7c _ (f + 1) _ o2 u2 Af (m - f) (k1 - f) (K.drop f) (hSd.up u2) (by omega)
          obtain ⟨A3c, k3c, rfl, _, _⟩ := o3.sl
          rw [hcat, hln] at o3
          rw [hln] at r3
          have LAc := Lib.hid (And.intro (o3.weak17 hUV.size) (hUV.trans u3))
          have R1c := Lib.hid r1
          have R2c := Lib.hid r2
          have R3c := Lib.hid r3
          have b0c := v1.keep _ _ _ b0
          have b1c := v1.keep _ _ _ b1
          clear r1 r2 r3 o1 o2 o3 u1 u2 u3 v1
          clear hSt hSd hcat hln hAf hE hOV
          have ltb := World.block_lt_of_cell? _ _ b0
          simp only at ltb
          have hlt1 : wo.heap.size < W.heap.size + 1 := by omega
          go_region_law (first
            | ((with_reducible refine step_append_run rfl (.tmp 75) (.tmp 78) _ rfl _ _ ?_ ?_ _ _ R1a.out ?_); rfl; rfl)
            | ((with_reducible refine step_append_run rfl (.tmp 79) (.tmp 81) _ rfl _ _ ?_ ?_ _ _ R2a.out ?_); rfl; rfl)
            | ((with_reducible refine step_append_run rfl (.tmp 82) (.tmp 85) _ rfl _ _ ?_ ?_ _ _ R3a.out ?_); rfl; rfl)
            | ((with_reducible refine step_append_run rfl (.tmp 75) (.tmp 78) _ rfl _ _ ?_ ?_ _ _ R1b.out ?_); rfl; rfl)
            | ((with_reducible refine step_append_run rfl (.tmp 79) (.tmp 81) _ rfl _ _ ?_ ?_ _ _ R2b.out ?_); rfl; rfl)
            | ((with_reducible refine step_append_run rfl (.tmp 82) (.tmp 85) _ rfl _ _ ?_ ?_ _ _ R3b.out ?_); rfl; rfl)
            | ((with_reducible refine step_append_run rfl (.tmp 75) (.tmp 78) _ rfl _ _ ?_ ?_ _ _ R1c.out ?_); rfl; rfl)
            | ((with_reducible refine step_append_run rfl (.tmp 79) (.tmp 81) _ rfl _ _ ?_ ?_ _ _ R2c.out ?_); rfl; rfl)
            | ((with_reducible refine step_append_run rfl (.tmp 82) (.tmp 85) _ rfl _ _ ?_ ?_ _ _ R3c.out ?_); rfl; rfl))
          all_goals go_wp2_with fail
          all_goals go_roundw
          all_goals first
            | (with_reducible exact ⟨i + 1, m + 1, _, _, rfl, by go_num, by omega, by omega, Lib.hid LAa.out.1, Lib.hid LAa.out.2⟩)
            | (with_reducible exact ⟨i + 1, m + 1, _, _, rfl, by go_num, by omega, by omega, Lib.hid LAb.out.1, Lib.hid LAb.out.2⟩)
            | (with_reducible exact ⟨i + 1, m + 1, _, _, rfl, by go_num, by omega, by omega, Lib.hid LAc.out.1, Lib.hid LAc.out.2⟩)
            | (simp [intOf]; omega)
      obtain ⟨b2, o2, e2, d0, d1⟩ := hd e he
      injection e2 with e2
      injection e2 with e2 e3
      subst e2 e3
      have d0 := HI.out.keep _ _ _ (HAw.out.keep _ _ _ d0)
      have d1 := HI.out.keep _ _ _ (HAw.out.keep _ _ _ d1)
      have HS2 := Lib.hid (HSTEP2.out e)
      have KB := Lib.hid (KB0.out p1 (L.getD e (0, 0)).2)
      generalize (L.getD e (0, 0)).1 = q0 at *
      generalize (L.getD e (0, 0)).2 = q1 at *
      have g4 : (e : Int) < n := by omega
      have g5 : (0 : Int) ≤ e := by omega
      have qe := fun W => eqItem p0 p1 q0 q1 W
      obtain ⟨eq, heq⟩ : ∃ z, z = (p0 == q0 && p1 == q1) := ⟨_, rfl⟩
      simp only [← heq] at qe
      have HEQ := Lib.hid heq.symm
      have hle : decide (sgE mx q1 < sgE mx p1) = !decide (sgE mx p1 ≤ sgE mx q1) := by
        rw [← decide_not]; exact decide_eq_decide.2 (by omega)
      rw [hle] at KB
      obtain ⟨c3, hc3⟩ : ∃ z, z = decide (sgE mx p1 ≤ sgE mx q1) := ⟨_, rfl⟩
      rw [← hc3] at KB
      have HC3 := Lib.hid hc3.symm
      clear hd HALL HIN0 HOUT0 KB0 y0 y1 HL HS HO HPW HSTEP2 heq hle hc3
      by_cases h1 : i = e
      · have HF : Hid (hitX mx i e (p0, p1) (q0, q1) = false) := Lib.hid (by unfold hitX; rw [decide_eq_false (show ¬ i ≠ e from fun g => g h1)]; rfl)
        have t1 : ((i : Int) != (e : Int)) = false := by simp [h1]
        clear h1
        have HN : Hid (r = kjX mx L i (e + 1)) := Lib.hid (by rw [HS2.out, HF.out, Bool.not_false, Bool.and_true]; exact HR.out)
        clear HS2 HR HF
        go_wp2_with fail
        go_roundw
        case rel => exact ⟨e + 1, r, rfl, by go_num, by omega, HN, Lib.hid (HI.out.alloc _ _)⟩
        case measure => simp [intOf]; omega
      have t1 : ((i : Int) != (e : Int)) = true := by simp; omega
      by_cases h2 : p0 ≤ q0
      case neg =>
        have HF : Hid (hitX mx i e (p0, p1) (q0, q1) = false) := Lib.hid (by unfold hitX; rw [decide_eq_false (show ¬ ((p0, p1) : It).1 ≤ ((q0, q1) : It).1 from h2)]; simp)
        have t2 : decide (p0 ≤ q0) = false := decide_eq_false h2
        clear h1 h2
        have HN : Hid (r = kjX mx L i (e + 1)) := Lib.hid (by rw [HS2.out, HF.out, Bool.not_false, Bool.and_true]; exact HR.out)
        clear HS2 HR HF
        go_wp2_with fail
        go_roundw
        case rel => exact ⟨e + 1, r, rfl, by go_num, by omega, HN, Lib.hid (HI.out.alloc _ _)⟩
        case measure => simp [intOf]; omega
      have t2 : decide (p0 ≤ q0) = true := decide_eq_true h2
      have HG : Hid (hitX mx i e (p0, p1) (q0, q1) = (c3 && (!eq || decide (e < i)))) := Lib.hid (by
        unfold hitX
        rw [decide_eq_true (show i ≠ e from h1), decide_eq_true (show ((p0, p1) : It).1 ≤ ((q0, q1) : It).1 from h2), Bool.true_and, Bool.true_and]
        show (decide (sgE mx p1 ≤ sgE mx q1) && (!(p0 == q0 && p1 == q1) || decide (e < i))) = _
        rw [HC3.out, HEQ.out])
      clear HC3 HEQ h2
      cases c3
      case false =>
        have HF : Hid (hitX mx i e (p0, p1) (q0, q1) = false) := Lib.hid (by rw [HG.out]; rfl)
        clear HG h1
        have HN : Hid (r = kjX mx L i (e + 1)) := Lib.hid (by rw [HS2.out, HF.out, Bool.not_false, Bool.and_true]; exact HR.out)
        clear HS2 HR HF
        go_wp2_with (go_at_call 45; (with_reducible refine (KB.out _).mono ?_); rintro e w' ⟨rfl, rfl⟩)
        go_roundw
        case rel => exact ⟨e + 1, r, rfl, by go_num, by omega, HN, Lib.hid (HI.out.alloc _ _)⟩
        case measure => simp [intOf]; omega
      cases eq
      case false =>
        have HF : Hid (hitX mx i e (p0, p1) (q0, q1) = true) := Lib.hid (by rw [HG.out]; rfl)
        clear HG h1
        have HN : Hid (false = kjX mx L i (e + 1)) := Lib.hid (by rw [HS2.out, HF.out, Bool.not_true, Bool.and_false])
        clear HS2 HR HF
        go_wp2_with (go_at_call 45; (with_reducible refine (KB.out _).mono ?_); rintro e w' ⟨rfl, rfl⟩)
        go_roundw
        case rel => exact ⟨e + 1, false, rfl, by go_num, by omega, HN, Lib.hid (HI.out.alloc _ _)⟩
        case measure => simp [intOf]; omega
      by_cases h3 : e < i
      · have HF : Hid (hitX mx i e (p0, p1) (q0, q1) = true) := Lib.hid (by rw [HG.out, decide_eq_true h3]; rfl)
        have t3 : decide ((e : Int) < (i : Int)) = true := decide_eq_true (by omega)
        have t4 : decide (e < i) = true := decide_eq_true h3
        clear HG h1 h3
        have HN : Hid (false = kjX mx L i (e + 1)) := Lib.hid (by rw [HS2.out, HF.out, Bool.not_true, Bool.and_false])
        clear HS2 HR HF
        go_wp2_with (go_at_call 45; (with_reducible refine (KB.out _).mono ?_); rintro e w' ⟨rfl, rfl⟩)
        go_roundw
        case rel => exact ⟨e + 1, false, rfl, by go_num, by omega, HN, Lib.hid (HI.out.alloc _ _)⟩
        case measure => simp [intOf]; omega
      · have HF : Hid (hitX mx i e (p0, p1) (q0, q1) = false) := Lib.hid (by rw [HG.out, decide_eq_false h3]; rfl)
        have t3 : decide ((e : Int) < (i : Int)) = false := decide_eq_false (by omega)
        have t4 : decide (e < i) = false := decide_eq_false h3
        clear HG h1 h3
        have HN : Hid (r = kjX mx L i (e + 1)) := Lib.hid (by rw [HS2.out, HF.out, Bool.not_false, Bool.and_true]; exact HR.out)
        clear HS2 HR HF
        go_wp2_with (go_at_call 45; (with_reducible refine (KB.out _).mono ?_); rintro e w' ⟨rfl, rfl⟩)
        go_roundw
        case rel => exact ⟨e + 1, r, rfl, by go_num, by omega, HN, Lib.hid (HI.out.alloc _ _)⟩
        case measure => simp [intOf]; omega
end Go.Proofs.Ytfcknhpllhkpeaa
