/- Texts of these claims, one after the other. -/
import Derived.Test.YtfcknhpllhkpeaaRows
import Derived.Test.YtfcknhpllhkpeaaZUValq67
namespace Go.Proofs.Ytfcknhpllhkpeaa
open Go.RowKit
set_option linter.unusedVariables false

theorem desc_at {mx : Bool} {K : List It} (h : K.Pairwise (fun x y => x.1 < y.1 ∧ sgE mx y.2 < sgE mx x.2)) {i j : Nat} (hij : i < j) (hj : j < K.length) : (K.getD i (0, 0)).1 < (K.getD j (0, 0)).1 ∧ sgE mx (K.getD j (0, 0)).2 < sgE mx (K.getD i (0, 0)).2 := by
  have e : ∀ q (hq : q < K.length), K.getD q (0, 0) = K[q] := fun q hq => by simp [List.getD, hq]
  rw [e i (by omega), e j hj]
  exact List.pairwise_iff_getElem.1 h i j (by omega) hj hij
theorem mem_take17 {K : List It} {n : Nat} {x : It} (h : x ∈ K.take n) : ∃ j, j < n ∧ j < K.length ∧ K.getD j (0, 0) = x := by
  obtain ⟨j, hj, e⟩ := List.mem_iff_getElem.1 h
  rw [List.length_take] at hj
  rw [List.getElem_take] at e
  exact ⟨j, by omega, by omega, by rw [← e]; simp [List.getD, show j < K.length by omega]⟩
theorem mem_drop17 {K : List It} {n : Nat} {x : It} (h : x ∈ K.drop n) : ∃ j, n ≤ j ∧ j < K.length ∧ K.getD j (0, 0) = x := by
  obtain ⟨j, hj, e⟩ := List.mem_iff_getElem.1 h
  rw [List.length_drop] at hj
  rw [List.getElem_drop] at e
  exact ⟨n + j, by omega, by omega, by rw [← e]; simp [List.getD, show n + j < K.length by omega]⟩
/-- What the new item does not rule out is what lies ahead of the place where the loop stops. -/
theorem poE_take {mx : Bool} {v : Int} {K : List It} {n : Nat} (h : K.Pairwise (fun x y => x.1 < y.1 ∧ sgE mx y.2 < sgE mx x.2)) (hn : n ≤ K.length) (h1 : ∀ j, n ≤ j → j < K.length → sgE mx (K.getD j (0, 0)).2 ≤ sgE mx v) (h2 : 0 < n → sgE mx v < sgE mx (K.getD (n - 1) (0, 0)).2) : poE mx v K = K.take n := by
  unfold poE
  conv => lhs; rw [← List.take_append_drop n K]
  rw [List.filter_append, List.filter_eq_self.2, List.filter_eq_nil_iff.2, List.append_nil]
  · intro x hx
    obtain ⟨j, a, b, rfl⟩ := mem_drop17 hx
    have := h1 j a b
    simp only [decide_eq_true_eq]
    omega
  · intro x hx
    obtain ⟨j, a, b, rfl⟩ := mem_take17 hx
    have q := h2 (by omega)
    simp only [decide_eq_true_eq]
    rcases Nat.lt_or_ge j (n - 1) with y | y
    · have := (desc_at h y (by omega)).2; omega
    · rw [show j = n - 1 by omega]; exact q
theorem adE_take {mx : Bool} {v t : Int} {K : List It} {n : Nat} (h : K.Pairwise (fun x y => x.1 < y.1 ∧ sgE mx y.2 < sgE mx x.2)) (hn : n ≤ K.length) (h1 : ∀ j, n ≤ j → j < K.length → sgE mx (K.getD j (0, 0)).2 ≤ sgE mx v) (h2 : 0 < n → sgE mx v < sgE mx (K.getD (n - 1) (0, 0)).2) (hle : ∀ y ∈ K, y.1 ≤ t) :
    adE mx t v K = if 0 < n ∧ (K.getD (n - 1) (0, 0)).1 = t then K.take n else K.take n ++ [(t, v)] := by
  unfold adE
  rw [poE_take h hn h1 h2]
  by_cases g : 0 < n ∧ (K.getD (n - 1) (0, 0)).1 = t
  · rw [if_pos g, if_pos]
    rw [List.any_eq_true]
    refine ⟨K.getD (n - 1) (0, 0), ?_, decide_eq_true g.2⟩
    have e : K.getD (n - 1) (0, 0) = (K.take n)[n - 1]'(by rw [List.length_take]; omega) := by rw [List.getElem_take]; simp [List.getD, show n - 1 < K.length by omega]
    rw [e]
    exact List.getElem_mem _
  · rw [if_neg g, if_neg]
    rw [List.any_eq_true]
    rintro ⟨x, hx, e⟩
    obtain ⟨j, a, b, rfl⟩ := mem_take17 hx
    have e := of_decide_eq_true e
    refine g ⟨by omega, ?_⟩
    rcases Nat.lt_or_ge j (n - 1) with y | y
    · have q := (desc_at h y (by omega)).1
      have := hle _ (mem_getDT (show n - 1 < K.length by omega))
      omega
    · rw [show n - 1 = j by omega]; exact e
theorem sliceToI_run (A : Option Addr) (n k m : Nat) (h : m ≤ k) (w : World) : (Instr.slice 22 (.slice A n k) none (some (.int .i64 m)) none).run Try.prog w = .ok (.slice A m k) w := by
  have qs := Try.sizeOf41
  have ht := Try.underlying22
  have e0 : A.map (·.add 0) = A := by cases A <;> simp [Addr.add]
  have h1 : (m : Int) ≤ k := by omega
  simp [Instr.slice, run_underlying ht, Instr.sliceBounds, run_sliceBound, qs, h1, Int.natCast_nonneg, e0]
set_option maxHeartbeats 4000000 in
set_option maxRecDepth 100000 in
theorem push17_up (mx : Bool) (t x : Int) (n k : Nat) (A : Option Addr) (K : List It) (hn : n ≤ 100000) (hK : K.Pairwise (fun x y => x.1 < y.1 ∧ sgE mx y.2 < sgE mx x.2)) (hle : ∀ y ∈ K, y.1 ≤ t) (w0 w : World) (hu : Up w0 w) (hO : Own w0 w (.slice A n k) n K) :
    Calls Try.prog 38 #[.bool mx, .slice A n k, .agg #[.int .i64 t, .int .i64 x]] w fun e w' => ∃ A' n' k', e = .returned (.slice A' n' k') ∧ Own w0 w' (.slice A' n' k') n' (adE mx t x K) ∧ Up w0 w' := by
  have KR := Lib.hid (fun u W => (reaches17_any mx x u W).mono (fun _ _ h => And.intro h.1 h.2.symm))
  obtain ⟨⟨hnk, _⟩, hS⟩ := hO.all17
  have HL := Lib.hid hS.1
  have HR0 := Lib.hid (fun m (hm : m ≤ K.length) h1 h2 => adE_take (mx := mx) (v := x) (t := t) (n := m) hK hm h1 h2 hle)
  have HU := Lib.hid (hu.alloc #[.int .i64 t, .int .i64 x] 41)
  have HO := Lib.hid (hO.of_up ((Up.refl w).alloc #[.int .i64 t, .int .i64 x] 41))
  clear hS hK hle hu hO
  go_enter Try.func38, Try.ntmps38
  go_wp2_with fail
  go_loopw [7] (fun s wr => ∃ m : Nat, s = .int .i64 m ∧ m ≤ n ∧ Hid (∀ j, m ≤ j → j < K.length → sgE mx (K.getD j (0, 0)).2 ≤ sgE mx x) ∧ Hid (Up (w.alloc (.cells #[.int .i64 t, .int .i64 x] 41)) wr)) (fun s _ => (intOf s).toNat)
  case atStart => exact ⟨n, rfl, Nat.le_refl _, Lib.hid (fun j h1 h2 => by have := HL.out; omega), Lib.hid (Up.refl _)⟩
  case round =>
    obtain ⟨m, rfl, hm, HP, HW⟩ := hrel
    obtain ⟨Ur, Er⟩ := call1 w HW.out
    have HUr := Lib.hid (HU.out.trans HW.out)
    have HOr := Lib.hid (HO.out.of_up HW.out)
    have hml : m ≤ K.length := by have := HL.out; omega
    have hmk : m ≤ k := by omega
    have hmi : (m : Int) ≤ k := by omega
    have hm0 : (0 : Int) ≤ m := by omega
    rcases Nat.eq_zero_or_pos m with h0 | h0
    · have HR : Hid (¬ (0 < m ∧ (K.getD (m - 1) (0, 0)).1 = t) → adE mx t x K = K.take m ++ [(t, x)]) := Lib.hid (fun h => by rw [HR0.out m hml HP.out (fun h => absurd h (by omega)), if_neg h])
      have f1 : decide (0 < m) = false := decide_eq_false (by omega)
      have f2 : decide ((0 : Int) < (m : Int)) = false := decide_eq_false (by omega)
      have H0 := Lib.hid h0
      clear HR0 HP KR h0
      go_wp2_with fail
      go_quiet (fail)
      go_wp2_with fail
      go_quiet (fail)
      go_upto_region 6 with fail
      refine (show ∀ ws : World, ws = _ → Code.wp _ _ _ _ ws from fun ws hws => ?_) _ rfl
      obtain ⟨Us, Es⟩ := hold1 w w.heap.size ((((Up.refl wr).drewN _).drewN _).trans (Up.of_eq hws))
      have HUs := Lib.hid (HUr.out.trans ((((Up.refl wr).drewN _).drewN _).trans (Up.of_eq hws)))
      have HOs := Lib.hid (HOr.out.of_up ((((Up.refl wr).drewN _).drewN _).trans (Up.of_eq hws)))
      clear hws
      have hsl := fun V => sliceToI_run A n k m (by omega) V
      obtain ⟨A2, k2, w3, hr, hO2, hU2⟩ := append1I_run 22 w0 ws.drew A m k (K.take m) t x ((HOs.out.first17 hm).of_up (Up.refl _).drew) HUs.out.drew (by omega)
      have HE : Hid (adE mx t x K = K.take m ++ [(t, x)]) := Lib.hid (HR.out (fun h => by have := H0.out; omega))
      have HO2 := Lib.hid hO2
      have HU2 := Lib.hid hU2
      clear hO2 hU2 HR HOs HUs
      go_region_law (refine step_append_run rfl (.tmp 44) (.tmp 46) _ rfl _ _ rfl rfl _ _ hr ?_)
      all_goals go_wp2_with fail
      all_goals go_ret
      all_goals exact ⟨A2, m + 1, k2, rfl, by rw [HE.out]; exact HO2.out, HU2.out⟩
    obtain ⟨b, o, e, y0, y1⟩ := (HOr.out.all17.2).at_ (show m - 1 < n by omega)
    subst e
    have f1 : decide (0 < m) = true := decide_eq_true h0
    have f2 : decide ((0 : Int) < (m : Int)) = true := decide_eq_true (by omega)
    have HQ : Hid (sgE mx (K.getD (m - 1) (0, 0)).2 ≤ sgE mx x → ∀ j, m - 1 ≤ j → j < K.length → sgE mx (K.getD j (0, 0)).2 ≤ sgE mx x) := Lib.hid (fun h j h1 h2 => by
      rcases Nat.lt_or_ge j m with y | y
      · rw [show j = m - 1 by omega]; exact h
      · exact HP.out j y h2)
    have HR1 : Hid (sgE mx x < sgE mx (K.getD (m - 1) (0, 0)).2 → adE mx t x K = if 0 < m ∧ (K.getD (m - 1) (0, 0)).1 = t then K.take m else K.take m ++ [(t, x)]) := Lib.hid (fun h => HR0.out m hml HP.out (fun _ => h))
    obtain ⟨j, hj⟩ : ∃ j, j = m - 1 := ⟨_, rfl⟩
    have kw : IntKind.i64.wrap ((m : Int) - 1) = (j : Int) := by rw [show (m : Int) - 1 = (j : Int) by omega]; exact IntWalk.i64_in _ (by omega)
    have g6 : (j : Int) < n := by omega
    have g7 : (0 : Int) ≤ j := by omega
    rw [← hj] at y0 y1 HQ HR1
    have Hj : Hid (j + 1 = m) := Lib.hid (by omega)
    generalize (K.getD j (0, 0)).1 = q0 at *
    generalize (K.getD j (0, 0)).2 = q1 at *
    have KQ := Lib.hid (KR.out q1)
    clear hj HP HR0 KR
    by_cases h : sgE mx q1 ≤ sgE mx x
    · have HQ2 := Lib.hid (HQ.out h)
      rw [decide_eq_true h] at KQ
      clear HR1 HQ h
      go_wp2_with fail
      go_quiet (first | (go_at_call 54; refine Calls.quiet_of_same (KQ.out _)))
      go_wp2_with fail
      go_roundw
      case rel => exact ⟨j, by go_num, by have := Hj.out; omega, HQ2, Lib.hid (HW.out.drewN _)⟩
      case measure => have := Hj.out; simp [intOf]; omega
    have HR2 := Lib.hid (HR1.out (by omega))
    rw [decide_eq_false h] at KQ
    clear HR1 HQ h
    by_cases h : q0 = t
    · have t1 : (q0 == t) = true := by simp [h]
      have HE : Hid (adE mx t x K = K.take m) := Lib.hid (by rw [HR2.out, if_pos ⟨h0, h⟩])
      have hsl := fun V => sliceToI_run (some ⟨b, o, none⟩) n k m hmk V
      clear h HR2
      go_wp2_with fail
      go_quiet (first | (go_at_call 54; refine Calls.quiet_of_same (KQ.out _)))
      go_wp2_with fail
      go_quiet (fail)
      go_wp2_with fail
      go_ret
      exact ⟨_, m, k, rfl, by rw [HE.out]; exact (HOr.out.first17 hm).of_up ((Up.refl _).drewN _), HUr.out.trans ((Up.refl _).drewN _)⟩
    · have t1 : (q0 == t) = false := by simp [h]
      have HR : Hid (q0 ≠ t → adE mx t x K = K.take m ++ [(t, x)]) := Lib.hid (fun h => by rw [HR2.out, if_neg (fun g => h g.2)])
      have Hh := Lib.hid h
      clear h HR2
      go_wp2_with fail
      go_quiet (first | (go_at_call 54; refine Calls.quiet_of_same (KQ.out _)))
      go_wp2_with fail
      go_quiet (fail)
      go_upto_region 6 with fail
      refine (show ∀ ws : World, ws = _ → Code.wp _ _ _ _ ws from fun ws hws => ?_) _ rfl
      obtain ⟨Us, Es⟩ := hold1 w w.heap.size ((((Up.refl wr).drewN _).drewN _).trans (Up.of_eq hws))
      have HUs := Lib.hid (HUr.out.trans ((((Up.refl wr).drewN _).drewN _).trans (Up.of_eq hws)))
      have HOs := Lib.hid (HOr.out.of_up ((((Up.refl wr).drewN _).drewN _).trans (Up.of_eq hws)))
      clear hws
      have hsl := fun V => sliceToI_run (some ⟨b, o, none⟩) n k m (by omega) V
      obtain ⟨A2, k2, w3, hr, hO2, hU2⟩ := append1I_run 22 w0 ws.drew (some ⟨b, o, none⟩) m k (K.take m) t x ((HOs.out.first17 hm).of_up (Up.refl _).drew) HUs.out.drew (by omega)
      have HE : Hid (adE mx t x K = K.take m ++ [(t, x)]) := Lib.hid (HR.out (Hh.out))
      have HO2 := Lib.hid hO2
      have HU2 := Lib.hid hU2
      clear hO2 hU2 HR HOs HUs
      go_region_law (refine step_append_run rfl (.tmp 44) (.tmp 46) _ rfl _ _ rfl rfl _ _ hr ?_)
      all_goals go_wp2_with fail
      all_goals go_ret
      all_goals exact ⟨A2, m + 1, k2, rfl, by rw [HE.out]; exact HO2.out, HU2.out⟩
end Go.Proofs.Ytfcknhpllhkpeaa

namespace Go.Proofs.Ytfcknhpllhkpeaa
open Go.RowKit
set_option linter.unusedVariables false

theorem Sl.head17 {w : World} {A : Option Addr} {n : Nat} {L : List It} (h : Sl w A n L) (hn : 0 < n) : ∃ b o, A = some ⟨b, o, none⟩ ∧ w.cell? ⟨b, o, none⟩ = some (.int .i64 (L.getD 0 (0, 0)).1) ∧ w.cell? ⟨b, o + 1, none⟩ = some (.int .i64 (L.getD 0 (0, 0)).2) := by
  obtain ⟨b, o, e, x0, x1⟩ := h.at_ hn
  simp only [Nat.zero_mul, Nat.add_zero] at x0 x1
  exact ⟨b, o, e, x0, x1⟩
/-- Where merged is: what is left of both lists, and the row. -/
structure Mg17 (mx : Bool) (P Q X Z : List It) : Prop where
  dx : X.Pairwise (fun x y => x.1 < y.1 ∧ sgE mx y.2 < sgE mx x.2)
  ap : P.Pairwise (fun x y => x.1 < y.1)
  aq : Q.Pairwise (fun x y => x.1 < y.1)
  le : ∀ x ∈ X, (∀ y ∈ P, x.1 ≤ y.1) ∧ (∀ y ∈ Q, x.1 ≤ y.1)
  kp : kpX mx (X ++ (P ++ Q)) = Z
theorem Mg17.start {mx : Bool} {L M : List It} (hL : L.Pairwise (fun x y => x.1 < y.1 ∧ sgE mx y.2 < sgE mx x.2)) (hM : M.Pairwise (fun x y => x.1 < y.1 ∧ sgE mx y.2 < sgE mx x.2)) : Mg17 mx L M [] (kpX mx (L ++ M)) :=
  ⟨List.Pairwise.nil, hL.imp (fun h => h.1), hM.imp (fun h => h.1), fun x hx => absurd hx (by simp), rfl⟩
theorem KB1.old17 {b0 : Nat} {w W w2 : World} (h : Up w W) (u : Up w w2) (hb : b0 < w.heap.size) : KB1 b0 w W w2 :=
  ⟨u, Nat.lt_of_lt_of_le hb u.size, fun o => (u.cells.1 _ o hb).trans (h.cells.1 _ o hb).symm⟩
end Go.Proofs.Ytfcknhpllhkpeaa
