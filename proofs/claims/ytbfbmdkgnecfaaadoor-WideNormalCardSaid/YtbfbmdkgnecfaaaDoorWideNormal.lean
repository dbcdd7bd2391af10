/- Proved (as a card that is tied to the text of math/bits's table): for every wide number a the law WideNormal returns true: a number other than 0 is its odd part times a power of two, by Zeros, Right, Left and Bits of package wide; of 0 the zeros and the digits are 0. Conditions: the table of math/bits.TrailingZeros64 reads as its initialiser lays it (tied to the program's text). -/
import Derived.Test.YtbfbmdkgnecfaaaDoorRows
import Derived.Test.YtbfbmdkgnecfaaaDoorCards
import Derived.Test.YtbfbmdkgnecfaaaDoorTie
import Derived.WalkKit
import Derived.ProofKit
import Derived.OpenShut
import Derived.Lib.SmallJoins
import Derived.LaidMore
import Derived.Stop.Joined
import Derived.Lib.LaidTab
import Derived.SevenTiedAt
import Derived.Test.YtbfbmdkgnecfaaaDoorSRef
import Derived.Deep.RegionHeld3
import Derived.IntWalk
namespace Go.Proofs.YtbfbmdkgnecfaaaDoor
open Go.ChangeShapes Go.WideShapes Go.ChangeAt Go.RowKit Go.Joins
set_option linter.unusedVariables false

theorem wideNormal_own : ownKnob Tryd.prog.godebug = none := by kernel_rfl
theorem wideNormal_cellsw : Tryd.prog.cellsOf 24 = 2 := by kernel_rfl
theorem wideNormal_global : Tryd.prog.globalNamed "math/bits.deBruijn64tab" = some 0 := by kernel_rfl
theorem wideNormal_gtype : (Tryd.prog.globals[0]?).map (·.type) = some 39 := by kernel_rfl
theorem wideNormal_gcells : Tryd.prog.cellsOf 39 = 64 := by kernel_rfl
theorem wideNormal_ecells : Tryd.prog.cellsOf 5 = 1 := by kernel_rfl
/-- The row's condition gives the table. -/
theorem wideNormal_tab {W : World} (h : laidMetH Tryd.prog [("math/bits.deBruijn64tab", Rows.laid_math_bits_deBruijn64tab)] W) : Tab W := by
  rw [MakeChecks.laidMetH_plain _ _ _ (by kernel_rfl)] at h
  have hT := Lib.tabIs_of_head (k := .u8) (zs := Lib.deBruijn64tab.map fun x : Nat => (x : Int)) wideNormal_global wideNormal_gtype Tryd.underlying39 Tryd.underlying5 wideNormal_ecells wideNormal_gcells h
  intro i hi
  have hc := hT.cell wideNormal_global i (by rw [List.length_map]; exact hi)
  rw [hc]
  have hi2 : i < Lib.deBruijn64tab.length := hi
  simp [List.getD, hi2]
/-- The door's own heap meets the condition. -/
theorem wideNormal_door (os : Os) (args : Array Value) : laidMetH Tryd.prog [("math/bits.deBruijn64tab", Rows.laid_math_bits_deBruijn64tab)] ((World.doorLaid Tryd.prog 14 os).forCall (fun _ _ => 0) ⟨#[], args, []⟩).memory :=
  laidMetH_of_parts3 (fuel := 8) (laidMet_of_run' 8 (by kernel_rfl) (by kernel_rfl)) (by kernel_rfl) (by kernel_rfl)

theorem normal {v : Int} (hv : In2 v) (h0 : v ≠ 0) : (0 ≤ zeZ v ∧ zeZ v ≤ 127) ∧ In2 (rightZ v (zeZ v)) ∧ leftB (rightZ v (zeZ v)) (zeZ v) = true ∧ leftV (rightZ v (zeZ v)) (zeZ v) = v ∧ loZ (rightZ v (zeZ v)) % 2 = 1 ∧ blZ (rightZ v (zeZ v)) = blZ v - zeZ v := by
  obtain ⟨k, m, e, ek, hk⟩ := zeZ_spec hv h0
  rw [e]
  have hp := pow_nonneg2 k
  have ev : v = ((2 * m + 1 : Nat) : Int) * 2 ^ k := by
    rw [← pow_cast, ← Int.natCast_mul, Nat.mul_comm, ← ek]; unfold In2 at hv; omega
  have er : rightZ v (k : Int) = ((2 * m + 1 : Nat) : Int) := by
    unfold rightZ; rw [if_neg (by omega), Int.toNat_natCast]
    conv => lhs; rw [ev]
    exact Int.mul_ediv_cancel _ (by omega)
  rw [er]
  have io : In2 ((2 * m + 1 : Nat) : Int) := by
    have := div_in hv k
    rw [← er]; unfold rightZ; rw [if_neg (by omega), Int.toNat_natCast]; exact this
  obtain ⟨l1, l2⟩ := leftB_yes (v := ((2 * m + 1 : Nat) : Int)) (n := (k : Int)) (by omega) (by rw [Int.toNat_natCast, ← ev]; exact hv)
  rw [Int.toNat_natCast, ← ev] at l2
  refine ⟨⟨by omega, by omega⟩, io, l1, l2, ?_, ?_⟩
  · unfold loZ; omega
  · obtain ⟨j, ej, j0, j1⟩ := blZ_spec (v := ((2 * m + 1 : Nat) : Int)) (by omega)
    rw [Int.toNat_natCast] at j0 j1
    have q : 0 < 2 ^ k := Nat.pow_pos (by decide)
    have c0 : 2 ^ (j + k) ≤ v.toNat := by rw [ek, Nat.pow_add, Nat.mul_comm]; exact Nat.mul_le_mul_left _ j0
    have c1 : v.toNat < 2 ^ (j + k + 1) := by rw [ek, show j + k + 1 = k + (j + 1) by omega, Nat.pow_add]; exact Nat.mul_lt_mul_of_pos_left j1 q
    rw [ej, blZ_uniq c0 c1]; omega
set_option maxHeartbeats 4000000 in
set_option maxRecDepth 100000 in
theorem wideNormal_walk (h l : Int) (w0 : (Lit.int .u64 h).wf = true) (w1 : (Lit.int .u64 l).wf = true) (w : World) (hT : Tab w) :
    Calls Tryd.prog 4 #[.agg #[.int .u64 h, .int .u64 l]] w fun e w' => e = .returned (.bool true) ∧ Grown w w' := by
  have hh := word_of_wf w0
  have hl := word_of_wf w1
  clear w0 w1
  have hv := val_in hh hl
  have HT := Lib.hid hT
  have H1 := Lib.hid (fun W hW => zeros_up h l hh hl W hW)
  have H2 := Lib.hid (fun W => bits_up h l hh hl W)
  by_cases hz : val h l = 0
  · have z1 : h = 0 := by obtain ⟨a1, _⟩ := hh; obtain ⟨b1, _⟩ := hl; unfold val at hz; omega
    have z2 : l = 0 := by obtain ⟨a1, _⟩ := hh; obtain ⟨b1, _⟩ := hl; unfold val at hz; omega
    rw [show zeZ (val h l) = 0 by unfold zeZ; rw [if_pos hz]] at H1
    rw [show blZ (val h l) = 0 by rw [hz]; rfl] at H2
    subst z1 z2
    clear hz hv hh hl hT
    go_enter Tryd.func4, Tryd.ntmps4
    go_wp2_with fail
    refine (H1.out _ (HT.out.keep ((Up.refl _).alloc _ _))).mono ?_
    rintro e w1 ⟨rfl, hu1⟩
    have c1_0 := hu1.keep w.heap.size 0 (.int .u64 0) (by simp [go_sem, *])
    have c1_1 := hu1.keep w.heap.size 1 (.int .u64 0) (by simp [go_sem, *])
    have HU1 : Hid (Up w w1) := Lib.hid (by ((repeat (first | (with_reducible exact Up.refl _) | (with_reducible refine Up.trans ?_ hu1) | (with_reducible refine Up.alloc ?_ _ _) | (with_reducible refine Up.setCell ?_ ?_ _) | (with_reducible refine Up.drewN ?_ _) | (with_reducible refine Up.drew ?_))); all_goals (first | (simp; done) | (simp; omega) | omega)))
    clear hu1
    go_wp2_with fail
    refine (H2.out _).mono ?_
    rintro e w2 ⟨rfl, hu2⟩
    try unfold got2
    have HU2 : Hid (Up w w2) := Lib.hid (by ((repeat (first | (with_reducible exact Up.refl _) | (with_reducible exact HU1.out) | (with_reducible refine Up.trans ?_ hu2) | (with_reducible refine Up.alloc ?_ _ _) | (with_reducible refine Up.setCell ?_ ?_ _) | (with_reducible refine Up.drewN ?_ _) | (with_reducible refine Up.drew ?_))); all_goals (first | (simp; done) | (simp; omega) | omega)))
    clear hu2
    go_wp2_with fail
    refine (awake_up _).mono ?_
    rintro e w3 ⟨rfl, hu3⟩
    go_wp2
    go_ret
    exact ⟨rfl, (HU2.out.trans hu3).grown⟩
  · obtain ⟨⟨n0, n1⟩, io, lb, lv, lo, lbl⟩ := normal hv hz
    have H3 := Lib.hid (fun W => right_up h l (zeZ (val h l)) hh hl ⟨by omega, by omega⟩ W)
    have H4 := Lib.hid (fun W => left_up (hiZ (rightZ (val h l) (zeZ (val h l)))) (loZ (rightZ (val h l) (zeZ (val h l)))) (zeZ (val h l)) (hiZ_word io) (loZ_word _) ⟨by omega, by omega⟩ W)
    rw [val_hilo, lb, lv] at H4
    unfold got2 at H4
    rw [hiZ_val hl, loZ_val hl] at H4
    have H5 := Lib.hid (fun W => bits_up (hiZ (rightZ (val h l) (zeZ (val h l)))) (loZ (rightZ (val h l) (zeZ (val h l)))) (hiZ_word io) (loZ_word _) W)
    rw [val_hilo] at H5
    have b0 := blZ_nonneg (val h l)
    have b1 := blZ_le hv
    have y0 := (loZ_word (rightZ (val h l) (zeZ (val h l)))).1
    have hw : IntKind.i64.wrap (blZ (val h l) - zeZ (val h l)) = blZ (rightZ (val h l) (zeZ (val h l))) := by rw [lbl]; exact IntWalk.i64_in _ (by omega)
    have t3 : (loZ (rightZ (val h l) (zeZ (val h l))) % 2 == 1) = true := beq_iff_eq.2 lo
    have t4 : ((loZ (rightZ (val h l) (zeZ (val h l)))).tmod 2 == 1) = true := beq_iff_eq.2 (by rw [Int.tmod_eq_emod_of_nonneg y0]; exact lo)
    have ht : (h == 0) = false ∨ ((h == 0) = true ∧ (l == 0) = false) := by
      by_cases z1 : h = 0
      · exact Or.inr ⟨beq_iff_eq.2 z1, beq_eq_false_iff_ne.2 (fun z2 => hz (by rw [z1, z2]; rfl))⟩
      · exact Or.inl (beq_eq_false_iff_ne.2 z1)
    clear hz hv hh hl hT io lb lv lo lbl
    generalize blZ (rightZ (val h l) (zeZ (val h l))) = bo at *
    generalize hiZ (rightZ (val h l) (zeZ (val h l))) = X at *
    generalize loZ (rightZ (val h l) (zeZ (val h l))) = Y at *
    generalize blZ (val h l) = b at *
    generalize zeZ (val h l) = z at *
    rcases ht with t1 | ⟨t1, t2⟩
    all_goals
      go_enter Tryd.func4, Tryd.ntmps4
      go_wp2_with fail
      refine (H1.out _ (HT.out.keep ((Up.refl _).alloc _ _))).mono ?_
      rintro e w1 ⟨rfl, hu1⟩
      have c1_0 := hu1.keep w.heap.size 0 (.int .u64 h) (by simp [go_sem, *])
      have c1_1 := hu1.keep w.heap.size 1 (.int .u64 l) (by simp [go_sem, *])
      have l1_0 : w.heap.size < w1.heap.size := World.block_lt_of_cell? _ _ c1_0
      have HU1 : Hid (Up w w1) := Lib.hid (by ((repeat (first | (with_reducible exact Up.refl _) | (with_reducible refine Up.trans ?_ hu1) | (with_reducible refine Up.alloc ?_ _ _) | (with_reducible refine Up.setCell ?_ ?_ _) | (with_reducible refine Up.drewN ?_ _) | (with_reducible refine Up.drew ?_))); all_goals (first | (simp; done) | (simp; omega) | omega)))
      clear hu1
      go_wp2_with fail
      refine (H3.out _).mono ?_
      rintro e w2 ⟨rfl, hu2⟩
      try unfold got2
      have c2_0 := hu2.keep (w.heap.size) (0) (.int .u64 h) (by simp [go_sem, *])
      have c2_1 := hu2.keep (w.heap.size) (1) (.int .u64 l) (by simp [go_sem, *])
      have l2_0 : w.heap.size < w2.heap.size := World.block_lt_of_cell? _ _ c2_0
      have m2_0 : w.heap.size < w2.heap.size + 1 := by omega
      have n2_0 : w.heap.size < w2.heap.size + 1 + 1 := by omega
      have x2_0 : ¬ w2.heap.size = w.heap.size := by omega
      have y2_0 : ¬ w2.heap.size + 1 = w.heap.size := by omega
      have HU2 : Hid (Up w w2) := Lib.hid (by ((repeat (first | (with_reducible exact Up.refl _) | (with_reducible exact HU1.out) | (with_reducible refine Up.trans ?_ hu2) | (with_reducible refine Up.alloc ?_ _ _) | (with_reducible refine Up.setCell ?_ ?_ _) | (with_reducible refine Up.drewN ?_ _) | (with_reducible refine Up.drew ?_))); all_goals (first | (simp; done) | (simp; omega) | omega)))
      clear hu2
      go_wp2_with fail
      refine (H4.out _).mono ?_
      rintro e w3 ⟨rfl, hu3⟩
      try unfold got2
      have c3_0 := hu3.keep (w.heap.size) (0) (.int .u64 h) (by simp [go_sem, *])
      have c3_1 := hu3.keep (w.heap.size) (1) (.int .u64 l) (by simp [go_sem, *])
      have c3_2 := hu3.keep (w2.heap.size) (0) (.int .u64 X) (by simp [go_sem, *])
      have c3_3 := hu3.keep (w2.heap.size) (1) (.int .u64 Y) (by simp [go_sem, *])
      have l3_0 : w.heap.size < w3.heap.size := World.block_lt_of_cell? _ _ c3_0
      have m3_0 : w.heap.size < w3.heap.size + 1 := by omega
      have n3_0 : w.heap.size < w3.heap.size + 1 + 1 := by omega
      have x3_0 : ¬ w3.heap.size = w.heap.size := by omega
      have y3_0 : ¬ w3.heap.size + 1 = w.heap.size := by omega
      have l3_1 : w2.heap.size < w3.heap.size := World.block_lt_of_cell? _ _ c3_2
      have m3_1 : w2.heap.size < w3.heap.size + 1 := by omega
      have n3_1 : w2.heap.size < w3.heap.size + 1 + 1 := by omega
      have x3_1 : ¬ w3.heap.size = w2.heap.size := by omega
      have y3_1 : ¬ w3.heap.size + 1 = w2.heap.size := by omega
      have HU3 : Hid (Up w w3) := Lib.hid (by ((repeat (first | (with_reducible exact Up.refl _) | (with_reducible exact HU2.out) | (with_reducible refine Up.trans ?_ hu3) | (with_reducible refine Up.alloc ?_ _ _) | (with_reducible refine Up.setCell ?_ ?_ _) | (with_reducible refine Up.drewN ?_ _) | (with_reducible refine Up.drew ?_))); all_goals (first | (simp; done) | (simp; omega) | omega)))
      clear hu3 c2_0 c2_1
      go_wp2_with fail
      go_region_held3 (fun w' => Up w w' ∧ w'.cell? ⟨w.heap.size, 0, none⟩ = some (.int .u64 h) ∧ w'.cell? ⟨w.heap.size, 1, none⟩ = some (.int .u64 l) ∧ w'.cell? ⟨w2.heap.size, 0, none⟩ = some (.int .u64 X) ∧ w'.cell? ⟨w2.heap.size, 1, none⟩ = some (.int .u64 Y) ∧ w'.cell? ⟨w3.heap.size, 0, none⟩ = some (.int .u64 h) ∧ w'.cell? ⟨w3.heap.size, 1, none⟩ = some (.int .u64 l))
        (first | (with_reducible exact keep6 (by assumption) (by assumption)) | (refine ⟨?_, by simp [go_sem, *], by simp [go_sem, *], by simp [go_sem, *], by simp [go_sem, *], by simp [go_sem, *], by simp [go_sem, *]⟩; ((repeat (first | (with_reducible exact Up.refl _) | (with_reducible exact HU3.out) | (with_reducible refine Up.alloc ?_ _ _) | (with_reducible refine Up.setCell ?_ ?_ _) | (with_reducible refine Up.drewN ?_ _) | (with_reducible refine Up.drew ?_))); all_goals (first | (simp; done) | (simp; omega) | omega))))
        (first
          | (go_at_call 9; (with_reducible refine (H5.out _).mono ?_); rintro e w' ⟨rfl, hu⟩; have HU := Lib.hid hu; clear hu; (try unfold got2); (try unfold gotR))
          | (go_at_call 9; (with_reducible refine (H2.out _).mono ?_); rintro e w' ⟨rfl, hu⟩; have HU := Lib.hid hu; clear hu; (try unfold got2); (try unfold gotR))
          | (go_at_call 13; (with_reducible refine (awake_up _).mono ?_); rintro e w' ⟨rfl, hu⟩; have HU := Lib.hid hu; clear hu; (try unfold got2); (try unfold gotR)))
      all_goals
        go_wp2
        go_ret
        exact ⟨rfl, Up.grown (And.left (by assumption))⟩

set_option maxRecDepth 100000 in
theorem wideNormal_lifted (os : Os) (started : os.Started) (H : Type) (enc : TypeId × Value → H) :
    ReturnsInHanded {} Tryd.checked os 4 .any (fun w args => (Rows.wideNormalSpec.pre enc Tryd.prog Tryd.f4 [] false w args ∧ laidMetH Tryd.prog [("math/bits.deBruijn64tab", Rows.laid_math_bits_deBruijn64tab)] w) ∧ sizedMet enc Tryd.prog Tryd.f4 (OpenSpec.ofChange Rows.wideNormalSpec) false w args)
      (Rows.wideNormalSpec.post enc Tryd.prog Tryd.f4 false true false false) := by
  refine returnsInHanded_of_change_and (C := Tryd.checked) (X := fun w _ => laidMetH Tryd.prog [("math/bits.deBruijn64tab", Rows.laid_math_bits_deBruijn64tab)] w) (fun _ _ _ hh h => h.of_heap hh) wideNormal_own started (by kernel_rfl) Tryd.func4
    (ChangeSpec.witness_shaped (enc := enc) (C := Tryd.checked) (os := os) (X := fun w _ => laidMetH Tryd.prog [("math/bits.deBruijn64tab", Rows.laid_math_bits_deBruijn64tab)] w) false (World.doorLaid Tryd.prog 14 os) #[.agg #[.int .u64 0, .int .u64 0]] 8 rfl (World.shaped_of_RefB (by kernel_rfl) (by kernel_rfl)) (by kernel_rfl) (by kernel_rfl) (by kernel_rfl) (wideNormal_door os _)) ?_
  intro W base args ds gs before hval0 hW _ _ hL _
  have hval : ∀ (j : Nat) t v, Tryd.f4.params[j]? = some t → args[j]? = some v → Value.okWide Tryd.prog W .any base t v := hval0
  have hW' := hW
  obtain ⟨p, q, hA0, hV, rfl, hfz, hnd⟩ := hW
  have hA : DataW.TrodAll enc Tryd.prog W 0 (fun _ => true) true Tryd.f4.params.toList args.toList ds p := hA0
  rw [Tryd.params4] at hA hval
  obtain ⟨v0, vs0, d0, ds0, p0, q0, hargs, rfl, rfl, h0, r0⟩ := trodAll_cons hA
  obtain ⟨rfl, rfl, rfl⟩ := trodAll_nil r0
  obtain rfl : args = #[v0] := by cases args; simp_all
  obtain ⟨rfl, rfl⟩ := trodVars_none hV
  obtain ⟨ca0, cb0, ya0, yb0, m0, rfl, rfl, rfl, hya0, hyb0⟩ := open_agg2 Tryd.underlying24 (by kernel_rfl) wideNormal_cellsw (hval 0 24 v0 rfl rfl) h0
  obtain ⟨a0, ea0, rfl, w0⟩ := DataW.trod_int Tryd.underlying22 hya0
  obtain ⟨b0, eb0, rfl, x0⟩ := DataW.trod_int Tryd.underlying22 hyb0
  simp at ea0 eb0
  subst ea0 eb0
  clear hA0 hval0
  simp only [List.append_nil] at hW'
  refine (wideNormal_walk a0 b0 w0 x0 W (wideNormal_tab hL)).mono fun e W' ⟨he, hg⟩ => ?_
  subst he
  exact ⟨_, rfl, post_of_same (pa := []) (pv := []) hW' (fun _ _ _ => (trodAll_cons_mk (shut_bool Tryd.underlying4 _) trodAll_mk0)) (fun sp _ => (trodAll_cons_mk (shut_agg2 (y0 := (.lit (.int .u64 a0), [])) (y1 := (.lit (.int .u64 b0), [])) Tryd.underlying24 (by kernel_rfl) wideNormal_cellsw ⟨1, by simp [DataW.trod, Tryd.underlying22, w0]⟩ ⟨1, by simp [DataW.trod, Tryd.underlying22, x0]⟩) trodAll_mk0)) (fun _ _ => rfl) rfl
    (hg.frame _) hg.2.1 (ok_one (by kernel_rfl) rfl (okWide_bool_mk Tryd.underlying4 _))⟩

theorem wideNormal_over : Rows.WideNormalSaid :=
  OpenClaim.holds_of_wide 4 Tryd.f4 rfl rfl rfl rfl rfl rfl rfl ⟨rfl, rfl, rfl, rfl, rfl⟩ rfl rfl rfl rfl rfl (by kernel_rfl) Tryd.func4 (by kernel_rfl)
    (of_decide_eq_true (by kernel_rfl)) (by unfold Func.isWrapper; first | (rw [if_pos (by decide +kernel)]; kernel_rfl) | (rw [if_neg (by decide +kernel)]; exact ⟨rfl, rfl⟩))
    (fun os started H enc _ => wideNormal_lifted os started H enc)

theorem wideNormal_holds : Rows.WideNormalCardSaid :=
  Claim7.holds_tied_plain_at .later [] [.data] true (true, "53ddad865ee54d998aeca6fab29d1576b341155cc018f2da8723864786515ad3") false
    wideNormal_over (fun _ h => by cases h) (by kernel_rfl) (fun _ h => by cases h) wideNormal_row_tie rfl ⟨rfl, rfl⟩ (by kernel_rfl) rfl
    (fun f fn hf hfn => by
      obtain rfl : f = 4 := Option.some.inj ((show Tryd.prog.funcNamed "windowpane/windowpanelaw02.WideNormal" = some 4 by kernel_rfl).symm.trans hf) |>.symm
      obtain rfl : fn = Tryd.f4 := (Option.some.inj (Tryd.func4.symm.trans hfn)).symm
      exact ⟨by kernel_rfl, fun j t ht => by
        rw [Tryd.params4] at ht
        have hm : t ∈ [24] := by simpa using Array.mem_of_getElem? ht
        have hall : ([24].all fun u => !Tryd.prog.wantsStandIn u) = true := by kernel_rfl
        exact (show Tryd.prog.wantsStandIn t = false by simpa using List.all_eq_true.1 hall t hm)⟩)
    (by kernel_rfl)
#print axioms wideNormal_holds
end Go.Proofs.YtbfbmdkgnecfaaaDoor
