/- Package extreme: live and merged. -/
import Derived.Test.YtfcknhpllhkpeaaRows
import Derived.Test.YtfcknhpllhkpeaaZUMemq60
import Derived.Test.YtfcknhpllhkpeaaZUMrgq75
namespace Go.Proofs.Ytfcknhpllhkpeaa
open Go.RowKit
set_option linter.unusedVariables false

theorem head_drop17 {L : List It} (h : 0 < L.length) : L = ((L.getD 0 (0, 0)).1, (L.getD 0 (0, 0)).2) :: L.drop 1 := by
  cases L with
  | nil => simp at h
  | cons x L => rfl
theorem kp_step17 {mx : Bool} {t v : Int} {X R L : List It} (hX : X.Pairwise (fun x y => x.1 < y.1 ∧ sgE mx y.2 < sgE mx x.2)) (hle : ∀ x ∈ X, x.1 ≤ t) (hL : ∀ y, y ∈ L ↔ y ∈ X ∨ y = (t, v) ∨ y ∈ R) : kpX mx (adE mx t v X ++ R) = kpX mx L := by
  have h1 := (KdE.self hX).add (v := v) hle
  refine kpX_eq ((KdE.sub (fun x hx => ?_) (fun x hx => ?_)).2 (kpX_kd mx L))
  · rcases List.mem_append.1 hx with h | h
    · rcases adE_mem17 h with h | h
      · exact (hL x).2 (Or.inl h)
      · exact (hL x).2 (Or.inr (Or.inl h))
    · exact (hL x).2 (Or.inr (Or.inr h))
  · have go : x ∈ X ++ [(t, v)] → x ∈ adE mx t v X := fun h => (h1.2 x).2 ⟨h, fun y hy => hx.2 y ((hL y).2 (by
      rcases List.mem_append.1 hy with h | h
      · exact Or.inl h
      · exact Or.inr (Or.inl (List.mem_singleton.1 h))))⟩
    rcases (hL x).1 hx.1 with h | h | h
    · exact List.mem_append.2 (Or.inl (go (List.mem_append.2 (Or.inl h))))
    · exact List.mem_append.2 (Or.inl (go (List.mem_append.2 (Or.inr (List.mem_singleton.2 h)))))
    · exact List.mem_append.2 (Or.inr h)
theorem Mg17.done {mx : Bool} {X Z : List It} (h : Mg17 mx [] [] X Z) : X = Z := by
  rw [← h.kp, List.append_nil, List.append_nil]
  exact (kpX_eq (KdE.self h.dx)).symm
theorem Mg17.left {mx : Bool} {P Q X Z : List It} (h : Mg17 mx P Q X Z) (h0 : 0 < P.length) (hq : 0 < Q.length → (P.getD 0 (0, 0)).1 ≤ (Q.getD 0 (0, 0)).1) : (∀ x ∈ X, x.1 ≤ (P.getD 0 (0, 0)).1) ∧ Mg17 mx (P.drop 1) Q (adE mx (P.getD 0 (0, 0)).1 (P.getD 0 (0, 0)).2 X) Z := by
  have e := head_drop17 h0
  obtain ⟨t, ht⟩ : ∃ t, t = (P.getD 0 (0, 0)).1 := ⟨_, rfl⟩
  obtain ⟨v, hv⟩ : ∃ v, v = (P.getD 0 (0, 0)).2 := ⟨_, rfl⟩
  obtain ⟨R, hR⟩ : ∃ R, R = P.drop 1 := ⟨_, rfl⟩
  rw [← ht, ← hv, ← hR] at e
  rw [← ht] at hq
  rw [← ht, ← hv, ← hR]
  clear ht hv hR
  subst e
  have hP := List.pairwise_cons.1 h.ap
  have hle : ∀ x ∈ X, x.1 ≤ t := fun x hx => (h.le x hx).1 (t, v) (by simp)
  have hQ : ∀ y ∈ Q, t ≤ y.1 := by
    intro y hy
    cases Q with
    | nil => cases hy
    | cons q Q =>
      have := hq (by simp)
      simp only [List.getD_cons_zero] at this
      rcases List.mem_cons.1 hy with rfl | hy
      · exact this
      · have := (List.pairwise_cons.1 h.aq).1 y hy; omega
  refine ⟨hle, adE_desc17 h.dx hle, hP.2, h.aq, fun x hx => ?_, ?_⟩
  · rcases adE_mem17 hx with hx | rfl
    · exact ⟨fun y hy => (h.le x hx).1 y (List.mem_cons_of_mem _ hy), (h.le x hx).2⟩
    · exact ⟨fun y hy => Int.le_of_lt (hP.1 y hy), hQ⟩
  · rw [← h.kp]
    refine kp_step17 h.dx hle (fun y => ?_)
    simp only [List.mem_append, List.mem_cons]
    constructor
    · rintro (h | (h | h) | h)
      · exact Or.inl h
      · exact Or.inr (Or.inl h)
      · exact Or.inr (Or.inr (Or.inl h))
      · exact Or.inr (Or.inr (Or.inr h))
    · rintro (h | h | h | h)
      · exact Or.inl h
      · exact Or.inr (Or.inl (Or.inl h))
      · exact Or.inr (Or.inl (Or.inr h))
      · exact Or.inr (Or.inr h)
theorem Mg17.right {mx : Bool} {P Q X Z : List It} (h : Mg17 mx P Q X Z) (h0 : 0 < Q.length) (hq : 0 < P.length → (Q.getD 0 (0, 0)).1 ≤ (P.getD 0 (0, 0)).1) : (∀ x ∈ X, x.1 ≤ (Q.getD 0 (0, 0)).1) ∧ Mg17 mx P (Q.drop 1) (adE mx (Q.getD 0 (0, 0)).1 (Q.getD 0 (0, 0)).2 X) Z := by
  have sw : ∀ {P Q X : List It}, kpX mx (X ++ (P ++ Q)) = kpX mx (X ++ (Q ++ P)) := fun {P Q X} => kpX_eq ((KdE.sub (fun x hx => by simp only [List.mem_append] at hx ⊢; exact hx.imp id Or.symm) (fun x hx => by have := hx.1; simp only [List.mem_append] at this ⊢; exact this.imp id Or.symm)).2 (kpX_kd mx (X ++ (Q ++ P))))
  have g : Mg17 mx Q P X Z := ⟨h.dx, h.aq, h.ap, fun x hx => ⟨(h.le x hx).2, (h.le x hx).1⟩, by rw [sw]; exact h.kp⟩
  obtain ⟨a, b⟩ := g.left h0 hq
  exact ⟨a, b.dx, b.aq, b.ap, fun x hx => ⟨(b.le x hx).2, (b.le x hx).1⟩, by rw [sw]; exact b.kp⟩
set_option maxHeartbeats 4000000 in
set_option maxRecDepth 100000 in
theorem merged17_up (mx : Bool) (n k : Nat) (A : Option Addr) (L : List It) (m j : Nat) (B : Option Addr) (M : List It) (hn : n ≤ 40000) (hm : m ≤ 40000) (hk : n ≤ k) (hj : m ≤ j) (hL : L.Pairwise (fun x y => x.1 < y.1 ∧ sgE mx y.2 < sgE mx x.2)) (hM : M.Pairwise (fun x y => x.1 < y.1 ∧ sgE mx y.2 < sgE mx x.2)) (w : World) (hS : Sl w A n L) (hT : Sl w B m M) :
    Calls Try.prog 46 #[.bool mx, .slice A n k, .slice B m j] w fun e w' => RwX (kpX mx (L ++ M)) w e w' := by
  have HM0 := Lib.hid (Mg17.start hL hM)
  have HS := Lib.hid hS
  have HT := Lib.hid hT
  obtain ⟨Z, hZ⟩ : ∃ z, z = kpX mx (L ++ M) := ⟨_, rfl⟩
  rw [← hZ] at HM0 ⊢
  obtain ⟨c, hc⟩ : ∃ c, c = n + m := ⟨_, rfl⟩
  have kw : IntKind.i64.wrap ((n : Int) + m) = (c : Int) := by rw [hc]; exact (IntWalk.i64_in _ (by omega)).trans (by omega)
  obtain ⟨cs, hcs, mk⟩ := makeI0_run c (by omega) w
  have HO := Lib.hid (own_room17 (w0 := w) (w := w) (g := w.heap.size) cs (by omega) hcs rfl (Nat.le_refl _))
  have HU := Lib.hid ((Up.refl w).alloc cs 41)
  clear hS hT hL hM hZ hc
  unfold RwX
  go_enter Try.func46, Try.ntmps46
  go_wp2_with fail
  go_loopw [1, 2, 7] (fun s t u wr => ∃ (P Q X : List It) (Ap Bq Cx : Option Addr) (np kp mq kq nx kx : Nat), s = .slice Ap np kp ∧ t = .slice Bq mq kq ∧ u = .slice Cx nx kx ∧ (np ≤ kp ∧ mq ≤ kq) ∧ nx + (np + mq) ≤ n + m ∧ Hid (Sl w Ap np P ∧ Sl w Bq mq Q) ∧ Hid (Mg17 mx P Q X Z) ∧ Hid (Own w wr (.slice Cx nx kx) nx X) ∧ Hid (Up w wr)) (fun s t _ _ => lnV s + lnV t)
  case atStart => exact ⟨L, M, [], A, B, _, n, k, m, j, 0, c, rfl, rfl, rfl, ⟨hk, hj⟩, by omega, Lib.hid ⟨HS.out, HT.out⟩, HM0, HO, HU⟩
  case round =>
    clear HO HU HM0 HS HT mk kw
    obtain ⟨P, Q, X, Ap, Bq, Cx, np, kp, mq, kq, nx, kx, rfl, rfl, rfl, ⟨hnpk, hmqk⟩, hsum, HPQ, HM, HO, HU⟩ := hrel
    have HP := Lib.hid HPQ.out.1
    have HQ := Lib.hid HPQ.out.2
    have HLP := Lib.hid HP.out.1
    have HLQ := Lib.hid HQ.out.1
    obtain ⟨c, hc⟩ : ∃ c, c = np + mq := ⟨_, rfl⟩
    have kw : IntKind.i64.wrap ((np : Int) + mq) = (c : Int) := by rw [hc]; exact (IntWalk.i64_in _ (by omega)).trans (by omega)
    clear HPQ
    rcases Nat.eq_zero_or_pos c with h0 | h0
    · obtain rfl : Z = X := by
        have h1 : P = [] := List.eq_nil_of_length_eq_zero (by rw [HLP.out]; omega)
        have h2 : Q = [] := List.eq_nil_of_length_eq_zero (by rw [HLQ.out]; omega)
        have := HM.out
        rw [h1, h2] at this
        exact this.done.symm
      have f1 : decide (0 < c) = false := decide_eq_false (by omega)
      have f2 : decide ((0 : Int) < (c : Int)) = false := decide_eq_false (by omega)
      clear h0 hc HM HP HQ HLP HLQ
      go_wp2_with fail
      go_ret
      exact ⟨Cx, nx, kx, rfl, HO.out, HU.out⟩
    have f1 : decide (0 < c) = true := decide_eq_true h0
    have f2 : decide ((0 : Int) < (c : Int)) = true := decide_eq_true (by omega)
    have Hc := Lib.hid hc
    rcases Nat.eq_zero_or_pos mq with hq | hmq0
    · have hnp0 : 0 < np := by omega
      obtain ⟨b, o, e, x0, x1⟩ := HP.out.head17 hnp0
      subst e
      have hb : b < w.heap.size := World.block_lt_of_cell? _ _ x0
      have t1 : ((mq : Int) == 0) = true := by rw [hq]; rfl
      have t2 : (mq == 0) = true := by rw [hq]; rfl
      have Hq := Lib.hid hq
      have g1 : (0 : Int) < np := by omega
      clear h0 hc hq
      have HG := Lib.hid (HM.out.left (by rw [HLP.out]; exact hnp0) (fun h => by rw [HLQ.out] at h; have := Hq.out; omega))
      have HT := Lib.hid (HP.out.cut (k := 1) (show 1 ≤ np by omega) hnpk)
      have hsl := fun V => sliceTailI_run (some ⟨b, o, none⟩) np kp (show 1 ≤ np by omega) V
      obtain ⟨n', hn'⟩ : ∃ z, z = np - 1 := ⟨_, rfl⟩
      rw [← hn'] at hsl HT
      have HN : Hid (n' + 1 = np) := Lib.hid (by omega)
      generalize (if kp = 1 then (some ⟨b, o, none⟩ : Option Addr) else (some ⟨b, o, none⟩ : Option Addr).map (·.add (1 * 2))) = A2 at *
      have hKP := HG.out.1
      have HM2 := Lib.hid HG.out.2
      have hal := adE_len mx (P.getD 0 (0, 0)).1 (P.getD 0 (0, 0)).2 X
      have hxl := HO.out.all17.2.1
      have KP := Lib.hid (fun W hu hO => push17_up mx (P.getD 0 (0, 0)).1 (P.getD 0 (0, 0)).2 nx kx Cx X (by omega) HM.out.dx hKP w W hu hO)
      generalize adE mx (P.getD 0 (0, 0)).1 (P.getD 0 (0, 0)).2 X = X2 at *
      generalize (P.getD 0 (0, 0)).1 = t at *
      generalize (P.getD 0 (0, 0)).2 = x at *
      try generalize (Q.getD 0 (0, 0)).1 = t9 at *
      try generalize (Q.getD 0 (0, 0)).2 = x9 at *
      have HX2 : Hid (X2.length ≤ nx + 1) := Lib.hid (by omega)
      clear hKP hal hxl HG HM hn' HLP HLQ
      go_wp2_with fail
      go_quiet (fail)
      go_upto_region 4 with fail
      refine (show ∀ ws : World, ws = _ → Code.wp _ _ _ _ ws from fun ws hws => ?_) _ rfl
      have HUs := Lib.hid (HU.out.trans (((Up.refl wr).drewN _).trans (Up.of_eq hws)))
      have HOs := Lib.hid (HO.out.of_up (((Up.refl wr).drewN _).trans (Up.of_eq hws)))
      have z0 := HUs.out.keep _ _ _ x0
      have z1 := HUs.out.keep _ _ _ x1
      have hbs : b < ws.heap.size := World.block_lt_of_cell? _ _ z0
      clear hws
      go_region_held3 (KB1 b w ws) (first | (with_reducible exact KB1.start HUs) | (with_reducible exact KB1.old17 HUs.out (Hid.out (by assumption)) hb)) (first | (go_at_call 38; (with_reducible refine (KP.out _ HUs.out.drew (HOs.out.of_up (Up.refl ws).drew)).mono ?_); rintro e w9 ⟨A9, n9, k9, rfl, hO9, hu9⟩; have HO9 := Lib.hid hO9; have HU9 := Lib.hid hu9; clear hO9 hu9))
      all_goals go_wp2_with fail
      all_goals go_roundw
      case rel =>
        have := HN.out
        have := HX2.out
        have := HO9.out.all17.2.1
        exact ⟨P.drop 1, Q, X2, A2, _, A9, n', kp - 1, mq, kq, n9, k9, rfl, rfl, rfl, ⟨by omega, hmqk⟩, by omega, Lib.hid ⟨HT.out, HQ.out⟩, HM2, HO9, HU9⟩
      case measure => have := HN.out; simp [lnV]; omega
    have t1 : ((mq : Int) == 0) = false := by simp; omega
    have t2 : (mq == 0) = false := by simp; omega
    have g2 : (0 : Int) < mq := by omega
    obtain ⟨b2, o2, e, y0, y1⟩ := HQ.out.head17 hmq0
    subst e
    have hb2 : b2 < w.heap.size := World.block_lt_of_cell? _ _ y0
    rcases Nat.eq_zero_or_pos np with hp | hnp0
    · have t3 : decide (0 < np) = false := decide_eq_false (by omega)
      have t4 : decide ((0 : Int) < (np : Int)) = false := decide_eq_false (by omega)
      have Hp := Lib.hid hp
      clear h0 hc hp
      have HG := Lib.hid (HM.out.right (by rw [HLQ.out]; exact hmq0) (fun h => by rw [HLP.out] at h; have := Hp.out; omega))
      have HT := Lib.hid (HQ.out.cut (k := 1) (show 1 ≤ mq by omega) hmqk)
      have hsl := fun V => sliceTailI_run (some ⟨b2, o2, none⟩) mq kq (show 1 ≤ mq by omega) V
      obtain ⟨n', hn'⟩ : ∃ z, z = mq - 1 := ⟨_, rfl⟩
      rw [← hn'] at hsl HT
      have HN : Hid (n' + 1 = mq) := Lib.hid (by omega)
      generalize (if kq = 1 then (some ⟨b2, o2, none⟩ : Option Addr) else (some ⟨b2, o2, none⟩ : Option Addr).map (·.add (1 * 2))) = A2 at *
      have hKP := HG.out.1
      have HM2 := Lib.hid HG.out.2
      have hal := adE_len mx (Q.getD 0 (0, 0)).1 (Q.getD 0 (0, 0)).2 X
      have hxl := HO.out.all17.2.1
      have KP := Lib.hid (fun W hu hO => push17_up mx (Q.getD 0 (0, 0)).1 (Q.getD 0 (0, 0)).2 nx kx Cx X (by omega) HM.out.dx hKP w W hu hO)
      generalize adE mx (Q.getD 0 (0, 0)).1 (Q.getD 0 (0, 0)).2 X = X2 at *
      generalize (Q.getD 0 (0, 0)).1 = t at *
      generalize (Q.getD 0 (0, 0)).2 = x at *
      try generalize (P.getD 0 (0, 0)).1 = t9 at *
      try generalize (P.getD 0 (0, 0)).2 = x9 at *
      have HX2 : Hid (X2.length ≤ nx + 1) := Lib.hid (by omega)
      clear hKP hal hxl HG HM hn' HLP HLQ
      go_wp2_with fail
      go_quiet (fail)
      go_upto_region 5 with fail
      refine (show ∀ ws : World, ws = _ → Code.wp _ _ _ _ ws from fun ws hws => ?_) _ rfl
      have HUs := Lib.hid (HU.out.trans (((Up.refl wr).drewN _).trans (Up.of_eq hws)))
      have HOs := Lib.hid (HO.out.of_up (((Up.refl wr).drewN _).trans (Up.of_eq hws)))
      have z0 := HUs.out.keep _ _ _ y0
      have z1 := HUs.out.keep _ _ _ y1
      have hbs : b2 < ws.heap.size := World.block_lt_of_cell? _ _ z0
      clear hws
      go_region_held3 (KB1 b2 w ws) (first | (with_reducible exact KB1.start HUs) | (with_reducible exact KB1.old17 HUs.out (Hid.out (by assumption)) hb2)) (first | (go_at_call 38; (with_reducible refine (KP.out _ HUs.out.drew (HOs.out.of_up (Up.refl ws).drew)).mono ?_); rintro e w9 ⟨A9, n9, k9, rfl, hO9, hu9⟩; have HO9 := Lib.hid hO9; have HU9 := Lib.hid hu9; clear hO9 hu9))
      all_goals go_wp2_with fail
      all_goals go_roundw
      case rel =>
        have := HN.out
        have := HX2.out
        have := HO9.out.all17.2.1
        exact ⟨P, Q.drop 1, X2, _, A2, A9, np, kp, n', kq - 1, n9, k9, rfl, rfl, rfl, ⟨hnpk, by omega⟩, by omega, Lib.hid ⟨HP.out, HT.out⟩, HM2, HO9, HU9⟩
      case measure => have := HN.out; simp [lnV]; omega
    have t3 : decide (0 < np) = true := decide_eq_true hnp0
    have t4 : decide ((0 : Int) < (np : Int)) = true := decide_eq_true (by omega)
    have g1 : (0 : Int) < np := by omega
    obtain ⟨b, o, e, x0, x1⟩ := HP.out.head17 hnp0
    subst e
    have hb : b < w.heap.size := World.block_lt_of_cell? _ _ x0
    have v0 := HU.out.keep _ _ _ x0
    have v2 := HU.out.keep _ _ _ y0
    by_cases hle : (P.getD 0 (0, 0)).1 ≤ (Q.getD 0 (0, 0)).1
    · have t5 : decide ((P.getD 0 (0, 0)).1 ≤ (Q.getD 0 (0, 0)).1) = true := decide_eq_true hle
      have Hle := Lib.hid hle
      clear h0 hc hle
      have HG := Lib.hid (HM.out.left (by rw [HLP.out]; exact hnp0) (fun _ => Hle.out))
      have HT := Lib.hid (HP.out.cut (k := 1) (show 1 ≤ np by omega) hnpk)
      have hsl := fun V => sliceTailI_run (some ⟨b, o, none⟩) np kp (show 1 ≤ np by omega) V
      obtain ⟨n', hn'⟩ : ∃ z, z = np - 1 := ⟨_, rfl⟩
      rw [← hn'] at hsl HT
      have HN : Hid (n' + 1 = np) := Lib.hid (by omega)
      generalize (if kp = 1 then (some ⟨b, o, none⟩ : Option Addr) else (some ⟨b, o, none⟩ : Option Addr).map (·.add (1 * 2))) = A2 at *
      have hKP := HG.out.1
      have HM2 := Lib.hid HG.out.2
      have hal := adE_len mx (P.getD 0 (0, 0)).1 (P.getD 0 (0, 0)).2 X
      have hxl := HO.out.all17.2.1
      have KP := Lib.hid (fun W hu hO => push17_up mx (P.getD 0 (0, 0)).1 (P.getD 0 (0, 0)).2 nx kx Cx X (by omega) HM.out.dx hKP w W hu hO)
      generalize adE mx (P.getD 0 (0, 0)).1 (P.getD 0 (0, 0)).2 X = X2 at *
      generalize (P.getD 0 (0, 0)).1 = t at *
      generalize (P.getD 0 (0, 0)).2 = x at *
      try generalize (Q.getD 0 (0, 0)).1 = t9 at *
      try generalize (Q.getD 0 (0, 0)).2 = x9 at *
      have HX2 : Hid (X2.length ≤ nx + 1) := Lib.hid (by omega)
      clear hKP hal hxl HG HM hn' HLP HLQ
      go_wp2_with fail
      go_quiet (fail)
      go_upto_region 4 with fail
      refine (show ∀ ws : World, ws = _ → Code.wp _ _ _ _ ws from fun ws hws => ?_) _ rfl
      have HUs := Lib.hid (HU.out.trans (((Up.refl wr).drewN _).trans (Up.of_eq hws)))
      have HOs := Lib.hid (HO.out.of_up (((Up.refl wr).drewN _).trans (Up.of_eq hws)))
      have z0 := HUs.out.keep _ _ _ x0
      have z1 := HUs.out.keep _ _ _ x1
      have hbs : b < ws.heap.size := World.block_lt_of_cell? _ _ z0
      clear hws
      go_region_held3 (KB1 b w ws) (first | (with_reducible exact KB1.start HUs) | (with_reducible exact KB1.old17 HUs.out (Hid.out (by assumption)) hb)) (first | (go_at_call 38; (with_reducible refine (KP.out _ HUs.out.drew (HOs.out.of_up (Up.refl ws).drew)).mono ?_); rintro e w9 ⟨A9, n9, k9, rfl, hO9, hu9⟩; have HO9 := Lib.hid hO9; have HU9 := Lib.hid hu9; clear hO9 hu9))
      all_goals go_wp2_with fail
      all_goals go_roundw
      case rel =>
        have := HN.out
        have := HX2.out
        have := HO9.out.all17.2.1
        exact ⟨P.drop 1, Q, X2, A2, _, A9, n', kp - 1, mq, kq, n9, k9, rfl, rfl, rfl, ⟨by omega, hmqk⟩, by omega, Lib.hid ⟨HT.out, HQ.out⟩, HM2, HO9, HU9⟩
      case measure => have := HN.out; simp [lnV]; omega
    · have t5 : decide ((P.getD 0 (0, 0)).1 ≤ (Q.getD 0 (0, 0)).1) = false := decide_eq_false hle
      have Hle := Lib.hid hle
      clear h0 hc hle
      have HG := Lib.hid (HM.out.right (by rw [HLQ.out]; exact hmq0) (fun _ => by have := Hle.out; omega))
      have HT := Lib.hid (HQ.out.cut (k := 1) (show 1 ≤ mq by omega) hmqk)
      have hsl := fun V => sliceTailI_run (some ⟨b2, o2, none⟩) mq kq (show 1 ≤ mq by omega) V
      obtain ⟨n', hn'⟩ : ∃ z, z = mq - 1 := ⟨_, rfl⟩
      rw [← hn'] at hsl HT
      have HN : Hid (n' + 1 = mq) := Lib.hid (by omega)
      generalize (if kq = 1 then (some ⟨b2, o2, none⟩ : Option Addr) else (some ⟨b2, o2, none⟩ : Option Addr).map (·.add (1 * 2))) = A2 at *
      have hKP := HG.out.1
      have HM2 := Lib.hid HG.out.2
      have hal := adE_len mx (Q.getD 0 (0, 0)).1 (Q.getD 0 (0, 0)).2 X
      have hxl := HO.out.all17.2.1
      have KP := Lib.hid (fun W hu hO => push17_up mx (Q.getD 0 (0, 0)).1 (Q.getD 0 (0, 0)).2 nx kx Cx X (by omega) HM.out.dx hKP w W hu hO)
      generalize adE mx (Q.getD 0 (0, 0)).1 (Q.getD 0 (0, 0)).2 X = X2 at *
      generalize (Q.getD 0 (0, 0)).1 = t at *
      generalize (Q.getD 0 (0, 0)).2 = x at *
      try generalize (P.getD 0 (0, 0)).1 = t9 at *
      try generalize (P.getD 0 (0, 0)).2 = x9 at *
      have HX2 : Hid (X2.length ≤ nx + 1) := Lib.hid (by omega)
      clear hKP hal hxl HG HM hn' HLP HLQ
      go_wp2_with fail
      go_quiet (fail)
      go_upto_region 5 with fail
      refine (show ∀ ws : World, ws = _ → Code.wp _ _ _ _ ws from fun ws hws => ?_) _ rfl
      have HUs := Lib.hid (HU.out.trans (((Up.refl wr).drewN _).trans (Up.of_eq hws)))
      have HOs := Lib.hid (HO.out.of_up (((Up.refl wr).drewN _).trans (Up.of_eq hws)))
      have z0 := HUs.out.keep _ _ _ y0
      have z1 := HUs.out.keep _ _ _ y1
      have hbs : b2 < ws.heap.size := World.block_lt_of_cell? _ _ z0
      clear hws
      go_region_held3 (KB1 b2 w ws) (first | (with_reducible exact KB1.start HUs) | (with_reducible exact KB1.old17 HUs.out (Hid.out (by assumption)) hb2)) (first | (go_at_call 38; (with_reducible refine (KP.out _ HUs.out.drew (HOs.out.of_up (Up.refl ws).drew)).mono ?_); rintro e w9 ⟨A9, n9, k9, rfl, hO9, hu9⟩; have HO9 := Lib.hid hO9; have HU9 := Lib.hid hu9; clear hO9 hu9))
      all_goals go_wp2_with fail
      all_goals go_roundw
      case rel =>
        have := HN.out
        have := HX2.out
        have := HO9.out.all17.2.1
        exact ⟨P, Q.drop 1, X2, _, A2, A9, np, kp, n', kq - 1, n9, k9, rfl, rfl, rfl, ⟨hnpk, by omega⟩, by omega, Lib.hid ⟨HP.out, HT.out⟩, HM2, HO9, HU9⟩
      case measure => have := HN.out; simp [lnV]; omega
end Go.Proofs.Ytfcknhpllhkpeaa
