/- Proved: for every list of items, any number by and any item more the law ExactMoves returns true: the spread of package exact does not change if a number is added to all values, and grows with more items. Conditions: none beside the form's own reach. -/
import Derived.Test.YtjmfliljiffekaaRows
import Derived.WalkKit
import Derived.ProofKit
import Derived.OpenShut
import Derived.Lib.SmallJoins
import Derived.Test.YtjmfliljiffekaaEFrame
import Derived.SizedLaws
import Derived.Test.YtjmfliljiffekaaEMoves
namespace Go.Proofs.Ytjmfliljiffekaa
open Go.ChangeShapes Go.WideShapes Go.ChangeAt Go.RowKit Go.Joins
set_option linter.unusedVariables false

theorem exactMoves_own : ownKnob Try.prog.godebug = none := by kernel_rfl

set_option maxHeartbeats 8000000 in
set_option maxRecDepth 100000 in
theorem exactMoves_walk (n k : Nat) (A : Option Addr) (L : List It) (hk : n ≤ k) (hI : InI L) (by_ : Int) (_ : (Lit.int .i64 by_).wf = true) (x0 x1 : Int) (ix0 : In x0) (ix1 : In x1) (w : World) (hS : Sl w A n L) :
    Calls Try.prog 7 #[.slice A n k, .int .i64 by_, .agg #[.int .i64 x0, .int .i64 x1]] w fun e w' => e = .returned (.bool true) ∧ Up w w' := by
  have KW := Lib.hid awake8_up
  by_cases h3 : 100 < n
  · have t1 : decide ((100 : Int) < (n : Int)) = true := decide_eq_true (by omega)
    clear hS hI
    go_enter Try.func7, Try.ntmps7
    go_wp2_with fail
    refine (KW.out _).mono ?_
    rintro e w1 ⟨rfl, hu1⟩
    go_wp2_with fail
    go_ret
    exact ⟨rfl, ((Up.refl w).alloc _ _).trans hu1⟩
  have t1 : decide ((100 : Int) < (n : Int)) = false := decide_eq_false (by omega)
  have KM := Lib.hid (fun W => modm_any by_ 1000 (by omega) (by omega) W)
  have hc0 : 0 ≤ by_ % 1000 := by omega
  have hc1 : by_ % 1000 < 1000 := by omega
  generalize by_ % 1000 = c at *
  have HL := Lib.hid hS.1
  have HI := Lib.hid hI
  have HSb := Lib.hid (hS.up ((Up.refl w).alloc #[.int .i64 x0, .int .i64 x1] 39))
  have HUb := Lib.hid ((Up.refl w).alloc #[.int .i64 x0, .int .i64 x1] 39)
  have cb : (w.alloc (.cells #[.int .i64 x0, .int .i64 x1] 39)).cell? ⟨w.heap.size, 1, none⟩ = some (.int .i64 x1) := by simp [go_sem]
  clear hS hI
  go_enter Try.func7, Try.ntmps7
  go_wp2_with fail
  refine (KM.out _).mono ?_
  rintro e w' ⟨rfl, rfl⟩
  go_wp2_with fail
  generalize w.alloc (.cells #[.int .i64 x0, .int .i64 x1] 39) = wb at *
  go_loopw [7, 8, 26] (fun s r t wr => ∃ (i : Nat) (A1 A2 : Option Addr) (k1 k2 : Nat), s = .slice A1 i k1 ∧ r = .slice A2 i k2 ∧ t = .int .i64 i ∧ i ≤ n ∧ Rw wb wr 39 2 (.slice A1 i k1) i (fl (mkA (L.take i))) ∧ Rw wb wr 39 2 (.slice A2 i k2) i (fl (mkB c (L.take i))) ∧ Apt A1 A2 ∧ Up wb wr) (fun _ _ t _ => n - (intOf t).toNat)
  case atStart => exact ⟨0, none, none, 0, 0, rfl, rfl, rfl, Nat.zero_le _, Rw.nil _ _ _ _, Rw.nil _ _ _ _, Apt.none_l, Up.refl _⟩
  case round =>
    obtain ⟨i, A1, A2, k1, k2, rfl, rfl, rfl, hin, hA, hB, hap, hU⟩ := hrel
    have HU := Lib.hid hU
    clear hU
    by_cases hi : i < n
    · obtain ⟨b, o, rfl, d0, d1⟩ := (HSb.out.up HU.out).at_ hi
      have hil : i < L.length := by rw [HL.out]; exact hi
      obtain ⟨ip, iv⟩ := HI.out.at_ hil
      have HNA := Lib.hid (mkA_next hil)
      have HNB := Lib.hid (mkB_next hil c)
      generalize (L.getD i (0, 0)).1 = p0 at *
      generalize (L.getD i (0, 0)).2 = p1 at *
      have KV := Lib.hid (fun W => value_any p1 iv W)
      obtain ⟨v0, v1⟩ := valM_in p1
      generalize valM p1 = v at *
      have f2 : (i : Int) < n := by omega
      have f3 : (0 : Int) ≤ i := by omega
      have kv : IntKind.i64.wrap (v + c) = v + c := IntWalk.i64_in _ (by omega)
      have hz : (Value.agg #[.int .i64 0, .int .i64 0]).cells.size = 2 := rfl
      obtain ⟨A3, k3, w3, hr1, hA3, hB3, hap3, hu3⟩ := appendP 22 39 22 _ 2 16 Try.underlying22 item_info hz (by omega) wb
        ((wr.alloc (.cells #[.int .i64 p0, .int .i64 p1] 39)).alloc (.cells #[.int .i64 0, .int .i64 v] 39)) A1 i k1 _ (hA.of_up (((Up.refl wr).alloc _ _).alloc _ _)) ((HU.out.alloc _ _).alloc _ _)
        (wr.heap.size + 1) (fl [(0, v)]) rfl (by rw [← size_alloc wr (.cells #[.int .i64 p0, .int .i64 p1] 39)]; exact Blk.new _ _ _) (fl_one _) (by omega) _ 2 A2 i k2 _ (hB.of_up (((Up.refl wr).alloc _ _).alloc _ _)) hap
      obtain ⟨A4, k4, w4, hr2, hB4, hA4, hap4, hu4⟩ := appendP 22 39 22 _ 2 16 Try.underlying22 item_info hz (by omega) wb
        (w3.alloc (.cells #[.int .i64 0, .int .i64 (v + c)] 39)) A2 i k2 _ (hB3.of_up ((Up.refl w3).alloc _ _)) (hu3.alloc _ _)
        w3.heap.size (fl [(0, v + c)]) rfl (Blk.new _ _ _) (fl_one _) (by omega) _ 2 A3 (i + 1) k3 _ (hA3.of_up ((Up.refl w3).alloc _ _)) hap3.symm
      rw [← fl_append, ← HNB.out] at hB4
      rw [← fl_append, ← HNA.out] at hA4
      have HA4 := Lib.hid hA4
      have HB4 := Lib.hid hB4
      have HP4 := Lib.hid hap4.symm
      have HU4 := Lib.hid hu4
      clear hA hB hap hA3 hB3 hap3 hu3 hA4 hB4 hap4 hu4 hz ip iv HNA HNB
      go_wp2_with fail
      refine (KV.out _).mono ?_
      rintro e w' ⟨rfl, rfl⟩
      go_wp2_with (first | (refine wpList_append_run (o := ⟨some 37, _, _, _, _, _⟩) rfl (.tmp 33) (.tmp 36) _ rfl _ _ rfl rfl _ _ hr1 ?_) | (refine wpList_append_run (o := ⟨some 44, _, _, _, _, _⟩) rfl (.tmp 38) (.tmp 43) _ rfl _ _ rfl rfl _ _ hr2 ?_))
      go_roundw
      case rel => exact ⟨i + 1, A3, A4, k3, k4, rfl, rfl, by go_num, by omega, HA4.out, HB4.out, HP4.out, HU4.out⟩
      case measure => simp [intOf]; omega
    · obtain rfl : i = n := by omega
      have ht : L.take i = L := List.take_of_length_le (by rw [HL.out]; exact Nat.le_refl _)
      rw [ht] at hA hB
      have mA := midV_A L
      have mB := midV_B hc0 hc1 L
      have lA : (mkA L).length = i := by simp [mkA, HL.out]
      have lB : (mkB c L).length = i := by simp [mkB, HL.out]
      obtain ⟨vm0, vm1⟩ := valM_in x1
      have mC : midV (mkA L ++ [(0, valM x1)]) := fun y hy => by
        rcases List.mem_append.1 hy with h | h
        · exact mA y h
        · rw [List.mem_singleton.1 h]; exact ⟨by show -10000 ≤ valM x1; omega, by show valM x1 ≤ 10000; omega, rfl⟩
      have lC : (mkA L ++ [(0, valM x1)]).length = i + 1 := by rw [List.length_append, lA]; rfl
      obtain ⟨yA, nA, dA, _, _⟩ := spr_yes mA (by omega)
      obtain ⟨yC, nC, dC, _, _⟩ := spr_yes mC (by omega)
      obtain ⟨eN, eD, eB⟩ := spr_move c L
      have hcmp := spr_grows mA mC (by omega)
      have SA : Sl wr A1 i (mkA L) := by
        obtain ⟨A', c', e, h1, h2⟩ := (Rw.own hA).sl
        cases e
        exact h2
      have SB : Sl wr A2 i (mkB c L) := by
        obtain ⟨A', c', e, h1, h2⟩ := (Rw.own hB).sl
        cases e
        exact h2
      have K1 := Lib.hid (fun W (h : Sl W A1 i (mkA L)) => spread_up i k1 A1 (mkA L) (by omega) mA.inI W h)
      have K2 := Lib.hid (fun W (h : Sl W A2 i (mkB c L)) => spread_up i k2 A2 (mkB c L) (by omega) mB.inI W h)
      rw [eN, eD, eB, yA] at K2
      rw [yA] at K1
      have K3 := Lib.hid (fun W A3 k3 (h : Sl W A3 (i + 1) (mkA L ++ [(0, valM x1)])) => spread_up (i + 1) k3 A3 _ (by omega) mC.inI W h)
      rw [yC] at K3
      have K4 := Lib.hid (fun W => rcomparer_up _ _ _ _ nA dA nC dC W)
      have KV := Lib.hid (fun W => value_any x1 ix1 W)
      have tc : decide (cmpR (sprN (mkA L)) (sprD (mkA L)) (sprN (mkA L ++ [(0, valM x1)])) (sprD (mkA L ++ [(0, valM x1)])) ≤ 0) = true := decide_eq_true hcmp
      unfold gotR at K1 K2 K3
      generalize sprN (mkA L ++ [(0, valM x1)]) = N3 at *
      generalize sprD (mkA L ++ [(0, valM x1)]) = D3 at *
      generalize sprN (mkA L) = N1 at *
      generalize sprD (mkA L) = D1 at *
      generalize cmpR N1 D1 N3 D3 = cm at *
      have HA := Lib.hid hA
      have HSA := Lib.hid SA
      have HSB := Lib.hid SB
      have HFA := Lib.hid (fl_append (mkA L) [(0, valM x1)])
      generalize valM x1 = v at *
      have b1 : (N1 == N1) = true := by simp
      have b2 : (D1 == D1) = true := by simp
      have cb1 := HU.out.keep _ _ _ cb
      clear ht hA hB hap mA mB lA lB mC lC yA nA dA yC nC dC eN eD eB hcmp SA SB cb KM
      go_wp2_with fail
      refine (K1.out _ HSA.out).mono ?_
      rintro e w1 ⟨rfl, hu1⟩
      have HU1 := Lib.hid (hu1.alloc #[.int .i64 N1, .int .i64 D1] 34)
      have lx : wr.heap.size ≤ w1.heap.size := hu1.size
      have hBx : Blk (w1.alloc (.cells #[.int .i64 N1, .int .i64 D1] 34)) w1.heap.size 34 #[.int .i64 N1, .int .i64 D1] := Blk.new _ _ _
      clear hu1
      go_wp2_with fail
      refine (K2.out _ (HSB.out.up HU1.out)).mono ?_
      rintro e w2 ⟨rfl, hu2⟩
      have HU2 := Lib.hid ((HU1.out.trans hu2).alloc #[.int .i64 N1, .int .i64 D1] 34)
      have ly : w1.heap.size + 1 ≤ w2.heap.size := by have := hu2.size; rwa [size_alloc] at this
      have hBx2 := (Blk.up hBx hu2).alloc (.cells #[.int .i64 N1, .int .i64 D1] 34)
      have hBy : Blk (w2.alloc (.cells #[.int .i64 N1, .int .i64 D1] 34)) w2.heap.size 34 #[.int .i64 N1, .int .i64 D1] := Blk.new _ _ _
      have cb2 := HU2.out.keep _ _ _ cb1
      clear hu2 hBx
      have hz : (Value.agg #[.int .i64 0, .int .i64 0]).cells.size = 2 := rfl
      have lwy : w2.heap.size < (w2.alloc (.cells #[.int .i64 N1, .int .i64 D1] 34)).heap.size := by rw [size_alloc]; omega
      have esz : (w2.alloc (.cells #[.int .i64 N1, .int .i64 D1] 34)).heap.size = w2.heap.size + 1 := size_alloc _ _
      go_upto_region 13 with fail
      generalize w2.alloc (.cells #[.int .i64 N1, .int .i64 D1] 34) = W at *
      obtain ⟨g3, k3, w3, hr3, hA3, hu3, hg3, hk3⟩ := appendR 22 39 22 _ 2 16 Try.underlying22 item_info hz (by omega) wb
        (W.alloc (.cells #[.int .i64 0, .int .i64 v] 39)) (.slice A1 i k1) i _ (HA.out.of_up (HU2.out.alloc _ _)) ((HU.out.trans HU2.out).alloc _ _) W.heap.size 0 1 1 (fl [(0, v)]) rfl (by omega)
        (fun j u hj => by
          have hbl : Blk (W.alloc (.cells #[.int .i64 0, .int .i64 v] 39)) W.heap.size 39 #[.int .i64 0, .int .i64 v] := Blk.new _ _ _
          rw [Nat.zero_add, Blk.cell hbl]; simpa [fl] using hj) (fl_one _) (by omega)
      have gx : w1.heap.size ≠ g3 := by
        rcases hg3 with h | ⟨n0, k0, h⟩
        · rw [size_alloc] at h; omega
        · cases h; have := HA.out.lt g3 0 rfl; omega
      have gy : w2.heap.size ≠ g3 := by
        rcases hg3 with h | ⟨n0, k0, h⟩
        · rw [size_alloc] at h; omega
        · cases h; have := HA.out.lt g3 0 rfl; omega
      have hBx3 := hk3 _ _ _ (hBx2.alloc _) gx
      have hBy3 := hk3 _ _ _ (hBy.alloc _) gy
      rw [← HFA.out] at hA3
      have S3 : Sl w3 (some ⟨g3, 0, none⟩) (i + 1) (mkA L ++ [(0, v)]) := by
        obtain ⟨A', c', e, h1, h2⟩ := (Rw.own hA3).sl
        cases e
        exact h2
      have HS3 := Lib.hid S3
      have HU3 := Lib.hid hu3
      clear hA3 hu3 hg3 hk3 hBx2 hBy S3 hz lx ly lwy esz
      go_wp2_with fail
      refine (KV.out _).mono ?_
      rintro e w' ⟨rfl, rfl⟩
      go_wp2_with (refine wpList_append_run (o := ⟨some 63, _, _, _, _, _⟩) rfl (.tmp 57) (.tmp 62) _ rfl _ _ rfl rfl _ _ hr3 ?_)
      refine (K3.out _ _ _ HS3.out).mono ?_
      rintro e w4 ⟨rfl, hu4⟩
      have hBx4 := Blk.up hBx3 hu4
      have hBy4 := Blk.up hBy3 hu4
      have q0 := Blk.cell hBx4 0
      have q1 := Blk.cell hBx4 1
      have q2 := Blk.cell hBy4 0
      have q3 := Blk.cell hBy4 1
      simp at q0 q1 q2 q3
      have ix := hBx4.lt
      have iy := hBy4.lt
      have HU4 := Lib.hid ((HU3.out.trans hu4).alloc #[.int .i64 N3, .int .i64 D3] 34)
      clear hu4 hBx3 hBy3 hBx4 hBy4 hr3
      go_wp2_with fail
      refine (K4.out _).mono ?_
      rintro e w5 ⟨rfl, hu5⟩
      go_wp2_with fail
      refine (KW.out _).mono ?_
      rintro e w6 ⟨rfl, hu6⟩
      go_wp2_with fail
      go_ret
      exact ⟨rfl, HUb.out.trans ((HU4.out.trans hu5).trans hu6)⟩

set_option maxRecDepth 100000 in
theorem exactMoves_lifted (os : Os) (started : os.Started) (H : Type) (enc : TypeId × Value → H) :
    ReturnsInHanded {} Try.checked os 7 .any (Rows.exactMovesSpec.pre6 enc Try.prog Try.f7 Rows.exactMovesRow.domain false) (Rows.exactMovesSpec.post enc Try.prog Try.f7 false true false false) := by
  refine returnsInHanded_of_change_sized (C := Try.checked) exactMoves_own started (by kernel_rfl) Try.func7
    (ChangeSpec.witness6 (enc := enc) (C := Try.checked) false ⟨#[], #[.slice none 0 0, .int .i64 0, .agg #[.int .i64 0, .int .i64 0]], []⟩ 8 (by kernel_rfl) (by kernel_rfl) (by kernel_rfl) (by kernel_rfl)) ?_
  intro W base args ds gs before hval0 hW hcnd hsz0 _
  have hval : ∀ (j : Nat) t v, Try.f7.params[j]? = some t → args[j]? = some v → Value.okWide Try.prog W .any base t v := hval0
  have hW' := hW
  obtain ⟨p, q, hA0, hV, rfl, hfz, hnd⟩ := hW'
  have hA : DataW.TrodAll enc Try.prog W 0 (fun _ => true) true Try.f7.params.toList args.toList ds p := hA0
  rw [Try.params7] at hA hval
  obtain ⟨v0, vs0, d0, ds0, p0, q0, hargs, rfl, rfl, h0, r0⟩ := trodAll_cons hA
  obtain ⟨v1, vs1, d1, ds1, p1, q1, rfl, rfl, rfl, h1, r1⟩ := trodAll_cons r0
  obtain ⟨v2, vs2, d2, ds2, p2, q2, rfl, rfl, rfl, h2, r2⟩ := trodAll_cons r1
  obtain ⟨rfl, rfl, rfl⟩ := trodAll_nil r2
  obtain rfl : args = #[v0, v1, v2] := by cases args; simp_all
  obtain ⟨rfl, rfl⟩ := trodVars_none hV
  have hlt := fun x hx => hW.lt x hx
  have k0 := h0
  obtain ⟨n0, m0, A0, L0, rfl, hk0, hS0, hI0⟩ := open_items2 (hval 0 22 v0 rfl rfl) h0
  have k1 := h1
  obtain ⟨a1, rfl, rfl, rfl, w1⟩ := open_int Try.underlying2 (hval 1 2 v1 rfl rfl) h1
  have k2 := h2
  obtain ⟨x2, y2, rfl, ix2, iy2⟩ := open_item2 (hval 2 39 v2 rfl rfl) h2
  refine (exactMoves_walk n0 m0 A0 L0 hk0 hI0 a1 w1 x2 y2 ix2 iy2 W hS0).mono fun e W' ⟨he, hg⟩ => ?_
  subst he
  exact ⟨_, rfl, post_of_same (pv := []) hW (fun _ _ _ => (trodAll_cons_mk (shut_bool Try.underlying4 _) trodAll_mk0)) (fun sp hsp => (trodAll_cons_mk (stay (by kernel_rfl) (of_decide_eq_true (by kernel_rfl)) k0 hg hlt (fun x hx => by first | (simp at hx; done) | simp [hx]) hsp) (trodAll_cons_mk (stay (by kernel_rfl) (of_decide_eq_true (by kernel_rfl)) k1 hg hlt (fun x hx => by first | (simp at hx; done) | simp [hx]) hsp) (trodAll_cons_mk (stay (by kernel_rfl) (of_decide_eq_true (by kernel_rfl)) k2 hg hlt (fun x hx => by first | (simp at hx; done) | simp [hx]) hsp) trodAll_mk0)))) (fun _ _ => rfl) rfl
    (hg.grown.frame _) hg.grown.2.1 (ok_one (by kernel_rfl) rfl (okWide_bool_mk Try.underlying4 _))⟩

theorem exactMoves_over : Rows.exactMovesRow.holds Try.pinned (OpenSpec.ofChange Rows.exactMovesSpec) :=
  OpenClaim.holds_of_wide 7 Try.f7 rfl rfl rfl rfl rfl rfl rfl ⟨rfl, rfl, rfl, rfl, rfl⟩ rfl rfl rfl rfl rfl (by kernel_rfl) Try.func7 (by kernel_rfl)
    (of_decide_eq_true (by kernel_rfl)) (by unfold Func.isWrapper; first | (rw [if_pos (by decide +kernel)]; kernel_rfl) | (rw [if_neg (by decide +kernel)]; exact ⟨rfl, rfl⟩))
    (fun os started H enc _ => exactMoves_lifted os started H enc)

theorem exactMoves_holds : Rows.ExactMovesSaid :=
  exactMoves_over
#print axioms exactMoves_holds
end Go.Proofs.Ytjmfliljiffekaa
