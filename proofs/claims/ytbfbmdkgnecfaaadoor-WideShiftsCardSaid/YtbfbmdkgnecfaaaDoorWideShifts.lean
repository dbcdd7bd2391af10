/- Proved (as a card that is tied to the text of math/bits's table): for every wide number a and every int n the law WideShifts returns true: wide.Left, Right, Bits and Zeros answer as the reference does. Conditions: the table of math/bits.TrailingZeros64 reads as its initialiser lays it (tied to the program's text). -/
import Derived.Test.YtbfbmdkgnecfaaaDoorRows
import Derived.Test.YtbfbmdkgnecfaaaDoorCards
import Derived.Test.YtbfbmdkgnecfaaaDoorTie
import Derived.WalkKit
import Derived.ProofKit
import Derived.OpenShut
import Derived.Lib.SmallJoins
import Derived.LaidMore
import Derived.Stop.Joined
import Derived.Lib.LaidTab
import Derived.SevenTiedAt
import Derived.Test.YtbfbmdkgnecfaaaDoorSRef
import Derived.Deep.RegionHeld3
namespace Go.Proofs.YtbfbmdkgnecfaaaDoor
open Go.ChangeShapes Go.WideShapes Go.ChangeAt Go.RowKit Go.Joins
set_option linter.unusedVariables false

theorem wideShifts_own : ownKnob Tryd.prog.godebug = none := by kernel_rfl
theorem wideShifts_cellsw : Tryd.prog.cellsOf 24 = 2 := by kernel_rfl
theorem wideShifts_global : Tryd.prog.globalNamed "math/bits.deBruijn64tab" = some 0 := by kernel_rfl
theorem wideShifts_gtype : (Tryd.prog.globals[0]?).map (·.type) = some 39 := by kernel_rfl
theorem wideShifts_gcells : Tryd.prog.cellsOf 39 = 64 := by kernel_rfl
theorem wideShifts_ecells : Tryd.prog.cellsOf 5 = 1 := by kernel_rfl
/-- The row's condition gives the table. -/
theorem wideShifts_tab {W : World} (h : laidMetH Tryd.prog [("math/bits.deBruijn64tab", Rows.laid_math_bits_deBruijn64tab)] W) : Tab W := by
  rw [MakeChecks.laidMetH_plain _ _ _ (by kernel_rfl)] at h
  have hT := Lib.tabIs_of_head (k := .u8) (zs := Lib.deBruijn64tab.map fun x : Nat => (x : Int)) wideShifts_global wideShifts_gtype Tryd.underlying39 Tryd.underlying5 wideShifts_ecells wideShifts_gcells h
  intro i hi
  have hc := hT.cell wideShifts_global i (by rw [List.length_map]; exact hi)
  rw [hc]
  have hi2 : i < Lib.deBruijn64tab.length := hi
  simp [List.getD, hi2]
/-- The door's own heap meets the condition. -/
theorem wideShifts_door (os : Os) (args : Array Value) : laidMetH Tryd.prog [("math/bits.deBruijn64tab", Rows.laid_math_bits_deBruijn64tab)] ((World.doorLaid Tryd.prog 14 os).forCall (fun _ _ => 0) ⟨#[], args, []⟩).memory :=
  laidMetH_of_parts3 (fuel := 8) (laidMet_of_run' 8 (by kernel_rfl) (by kernel_rfl)) (by kernel_rfl) (by kernel_rfl)

set_option maxHeartbeats 4000000 in
set_option maxRecDepth 100000 in
theorem wideShifts_walk (h l n : Int) (w0 : (Lit.int .u64 h).wf = true) (w1 : (Lit.int .u64 l).wf = true) (w2 : (Lit.int .i64 n).wf = true) (w : World) (hT : Tab w) :
    Calls Tryd.prog 3 #[.agg #[.int .u64 h, .int .u64 l], .int .i64 n] w fun e w' => e = .returned (.bool true) ∧ Grown w w' := by
  have hh := word_of_wf w0
  have hl := word_of_wf w1
  have hn := in_of_wf w2
  clear w0 w1 w2
  have HT := Lib.hid hT
  have H1 := Lib.hid (fun W => left_up h l n hh hl hn W)
  have H2 := Lib.hid (fun W => rleft_up h l n hh hl hn W)
  have H3 := Lib.hid (fun W => right_up h l n hh hl hn W)
  have H4 := Lib.hid (fun W => rright_up h l n hh hl hn W)
  have H5 := Lib.hid (fun W => bits_up h l hh hl W)
  have H6 := Lib.hid (fun W => rbits_up h l hh hl W)
  have H7 := Lib.hid (fun W hW => zeros_up h l hh hl W hW)
  have H8 := Lib.hid (fun W => rzeros_up h l hh hl W)
  unfold got2 at H1 H2
  generalize hiZ (leftV (val h l) n) = X at *
  generalize loZ (leftV (val h l) n) = Y at *
  generalize leftB (val h l) n = B at *
  generalize hiZ (rightZ (val h l) n) = P at *
  generalize loZ (rightZ (val h l) n) = Q at *
  generalize blZ (val h l) = b at *
  generalize zeZ (val h l) = z at *
  clear hh hl hn hT
  go_enter Tryd.func3, Tryd.ntmps3
  go_wp2_with fail
  refine (H1.out _).mono ?_
  rintro e w1 ⟨rfl, hu1⟩
  try unfold got2
  have c1_0 := hu1.keep (w.heap.size) (0) (.int .u64 h) (by simp [go_sem, *])
  have c1_1 := hu1.keep (w.heap.size) (1) (.int .u64 l) (by simp [go_sem, *])
  have l1_0 : w.heap.size < w1.heap.size := World.block_lt_of_cell? _ _ c1_0
  have m1_0 : w.heap.size < w1.heap.size + 1 := by omega
  have n1_0 : w.heap.size < w1.heap.size + 1 + 1 := by omega
  have x1_0 : ¬ w1.heap.size = w.heap.size := by omega
  have y1_0 : ¬ w1.heap.size + 1 = w.heap.size := by omega
  have HU1 : Hid (Up w w1) := Lib.hid (by ((repeat (first | (with_reducible exact Up.refl _) | (with_reducible refine Up.trans ?_ hu1) | (with_reducible refine Up.alloc ?_ _ _) | (with_reducible refine Up.setCell ?_ ?_ _) | (with_reducible refine Up.drewN ?_ _) | (with_reducible refine Up.drew ?_))); all_goals (first | (simp; done) | (simp; omega) | omega)))
  clear hu1
  go_wp2_with fail
  refine (H2.out _).mono ?_
  rintro e w2 ⟨rfl, hu2⟩
  try unfold got2
  have c2_0 := hu2.keep (w.heap.size) (0) (.int .u64 h) (by simp [go_sem, *])
  have c2_1 := hu2.keep (w.heap.size) (1) (.int .u64 l) (by simp [go_sem, *])
  have c2_2 := hu2.keep (w1.heap.size) (0) (.int .u64 X) (by simp [go_sem, *])
  have c2_3 := hu2.keep (w1.heap.size) (1) (.int .u64 Y) (by simp [go_sem, *])
  have l2_0 : w.heap.size < w2.heap.size := World.block_lt_of_cell? _ _ c2_0
  have m2_0 : w.heap.size < w2.heap.size + 1 := by omega
  have n2_0 : w.heap.size < w2.heap.size + 1 + 1 := by omega
  have x2_0 : ¬ w2.heap.size = w.heap.size := by omega
  have y2_0 : ¬ w2.heap.size + 1 = w.heap.size := by omega
  have l2_1 : w1.heap.size < w2.heap.size := World.block_lt_of_cell? _ _ c2_2
  have m2_1 : w1.heap.size < w2.heap.size + 1 := by omega
  have n2_1 : w1.heap.size < w2.heap.size + 1 + 1 := by omega
  have x2_1 : ¬ w2.heap.size = w1.heap.size := by omega
  have y2_1 : ¬ w2.heap.size + 1 = w1.heap.size := by omega
  have HU2 : Hid (Up w w2) := Lib.hid (by ((repeat (first | (with_reducible exact Up.refl _) | (with_reducible exact HU1.out) | (with_reducible refine Up.trans ?_ hu2) | (with_reducible refine Up.alloc ?_ _ _) | (with_reducible refine Up.setCell ?_ ?_ _) | (with_reducible refine Up.drewN ?_ _) | (with_reducible refine Up.drew ?_))); all_goals (first | (simp; done) | (simp; omega) | omega)))
  clear hu2 c1_0 c1_1
  go_wp2_with fail
  go_region_held3 (fun w' => Up w w' ∧ w'.cell? ⟨w.heap.size, 0, none⟩ = some (.int .u64 h) ∧ w'.cell? ⟨w.heap.size, 1, none⟩ = some (.int .u64 l) ∧ w'.cell? ⟨w1.heap.size, 0, none⟩ = some (.int .u64 X) ∧ w'.cell? ⟨w1.heap.size, 1, none⟩ = some (.int .u64 Y) ∧ w'.cell? ⟨w2.heap.size, 0, none⟩ = some (.int .u64 X) ∧ w'.cell? ⟨w2.heap.size, 1, none⟩ = some (.int .u64 Y))
    (first | (with_reducible exact keep6 (by assumption) (by assumption)) | (refine ⟨?_, by simp [go_sem, *], by simp [go_sem, *], by simp [go_sem, *], by simp [go_sem, *], by simp [go_sem, *], by simp [go_sem, *]⟩; ((repeat (first | (with_reducible exact Up.refl _) | (with_reducible exact HU2.out) | (with_reducible refine Up.alloc ?_ _ _) | (with_reducible refine Up.setCell ?_ ?_ _) | (with_reducible refine Up.drewN ?_ _) | (with_reducible refine Up.drew ?_))); all_goals (first | (simp; done) | (simp; omega) | omega))))
    (first
      | (go_at_call 7; (with_reducible refine (H3.out _).mono ?_); rintro e w' ⟨rfl, hu⟩; have HU := Lib.hid hu; clear hu; (try unfold got2); (try unfold gotR))
      | (go_at_call 8; (with_reducible refine (H4.out _).mono ?_); rintro e w' ⟨rfl, hu⟩; have HU := Lib.hid hu; clear hu; (try unfold got2); (try unfold gotR))
      | (go_at_call 9; (with_reducible refine (H5.out _).mono ?_); rintro e w' ⟨rfl, hu⟩; have HU := Lib.hid hu; clear hu; (try unfold got2); (try unfold gotR))
      | (go_at_call 10; (with_reducible refine (H6.out _).mono ?_); rintro e w' ⟨rfl, hu⟩; have HU := Lib.hid hu; clear hu; (try unfold got2); (try unfold gotR))
      | (go_at_call 12; (with_reducible refine (H8.out _).mono ?_); rintro e w' ⟨rfl, hu⟩; have HU := Lib.hid hu; clear hu; (try unfold got2); (try unfold gotR))
      | (go_at_call 13; (with_reducible refine (awake_up _).mono ?_); rintro e w' ⟨rfl, hu⟩; have HU := Lib.hid hu; clear hu; (try unfold got2); (try unfold gotR))
      | (go_at_call 11; (with_reducible refine (H7.out _ (HT.out.keep (And.left (by assumption)))).mono ?_); rintro e w' ⟨rfl, hu⟩; have HU := Lib.hid hu; clear hu; (try unfold got2); (try unfold gotR)))
  all_goals
    go_wp2
    go_ret
    exact ⟨rfl, Up.grown (And.left (by assumption))⟩

set_option maxRecDepth 100000 in
theorem wideShifts_lifted (os : Os) (started : os.Started) (H : Type) (enc : TypeId × Value → H) :
    ReturnsInHanded {} Tryd.checked os 3 .any (fun w args => (Rows.wideShiftsSpec.pre enc Tryd.prog Tryd.f3 [] false w args ∧ laidMetH Tryd.prog [("math/bits.deBruijn64tab", Rows.laid_math_bits_deBruijn64tab)] w) ∧ sizedMet enc Tryd.prog Tryd.f3 (OpenSpec.ofChange Rows.wideShiftsSpec) false w args)
      (Rows.wideShiftsSpec.post enc Tryd.prog Tryd.f3 false true false false) := by
  refine returnsInHanded_of_change_and (C := Tryd.checked) (X := fun w _ => laidMetH Tryd.prog [("math/bits.deBruijn64tab", Rows.laid_math_bits_deBruijn64tab)] w) (fun _ _ _ hh h => h.of_heap hh) wideShifts_own started (by kernel_rfl) Tryd.func3
    (ChangeSpec.witness_shaped (enc := enc) (C := Tryd.checked) (os := os) (X := fun w _ => laidMetH Tryd.prog [("math/bits.deBruijn64tab", Rows.laid_math_bits_deBruijn64tab)] w) false (World.doorLaid Tryd.prog 14 os) #[.agg #[.int .u64 0, .int .u64 0], .int .i64 0] 8 rfl (World.shaped_of_RefB (by kernel_rfl) (by kernel_rfl)) (by kernel_rfl) (by kernel_rfl) (by kernel_rfl) (wideShifts_door os _)) ?_
  intro W base args ds gs before hval0 hW _ _ hL _
  have hval : ∀ (j : Nat) t v, Tryd.f3.params[j]? = some t → args[j]? = some v → Value.okWide Tryd.prog W .any base t v := hval0
  have hW' := hW
  obtain ⟨p, q, hA0, hV, rfl, hfz, hnd⟩ := hW
  have hA : DataW.TrodAll enc Tryd.prog W 0 (fun _ => true) true Tryd.f3.params.toList args.toList ds p := hA0
  rw [Tryd.params3] at hA hval
  obtain ⟨v0, vs0, d0, ds0, p0, q0, hargs, rfl, rfl, h0, r0⟩ := trodAll_cons hA
  obtain ⟨v1, vs1, d1, ds1, p1, q1, rfl, rfl, rfl, h1, r1⟩ := trodAll_cons r0
  obtain ⟨rfl, rfl, rfl⟩ := trodAll_nil r1
  obtain rfl : args = #[v0, v1] := by cases args; simp_all
  obtain ⟨rfl, rfl⟩ := trodVars_none hV
  obtain ⟨ca0, cb0, ya0, yb0, m0, rfl, rfl, rfl, hya0, hyb0⟩ := open_agg2 Tryd.underlying24 (by kernel_rfl) wideShifts_cellsw (hval 0 24 v0 rfl rfl) h0
  obtain ⟨a0, ea0, rfl, w0⟩ := DataW.trod_int Tryd.underlying22 hya0
  obtain ⟨b0, eb0, rfl, x0⟩ := DataW.trod_int Tryd.underlying22 hyb0
  simp at ea0 eb0
  subst ea0 eb0
  obtain ⟨a1, rfl, rfl, rfl, w1⟩ := open_int Tryd.underlying3 (hval 1 3 v1 rfl rfl) h1
  clear hA0 hval0
  simp only [List.append_nil] at hW'
  refine (wideShifts_walk a0 b0 a1 w0 x0 w1 W (wideShifts_tab hL)).mono fun e W' ⟨he, hg⟩ => ?_
  subst he
  exact ⟨_, rfl, post_of_same (pa := []) (pv := []) hW' (fun _ _ _ => (trodAll_cons_mk (shut_bool Tryd.underlying4 _) trodAll_mk0)) (fun sp _ => (trodAll_cons_mk (shut_agg2 (y0 := (.lit (.int .u64 a0), [])) (y1 := (.lit (.int .u64 b0), [])) Tryd.underlying24 (by kernel_rfl) wideShifts_cellsw ⟨1, by simp [DataW.trod, Tryd.underlying22, w0]⟩ ⟨1, by simp [DataW.trod, Tryd.underlying22, x0]⟩) (trodAll_cons_mk (shut_int Tryd.underlying3 w1) trodAll_mk0))) (fun _ _ => rfl) rfl
    (hg.frame _) hg.2.1 (ok_one (by kernel_rfl) rfl (okWide_bool_mk Tryd.underlying4 _))⟩

theorem wideShifts_over : Rows.WideShiftsSaid :=
  OpenClaim.holds_of_wide 3 Tryd.f3 rfl rfl rfl rfl rfl rfl rfl ⟨rfl, rfl, rfl, rfl, rfl⟩ rfl rfl rfl rfl rfl (by kernel_rfl) Tryd.func3 (by kernel_rfl)
    (of_decide_eq_true (by kernel_rfl)) (by unfold Func.isWrapper; first | (rw [if_pos (by decide +kernel)]; kernel_rfl) | (rw [if_neg (by decide +kernel)]; exact ⟨rfl, rfl⟩))
    (fun os started H enc _ => wideShifts_lifted os started H enc)

theorem wideShifts_holds : Rows.WideShiftsCardSaid :=
  Claim7.holds_tied_plain_at .later [] [.data] true (true, "53ddad865ee54d998aeca6fab29d1576b341155cc018f2da8723864786515ad3") false
    wideShifts_over (fun _ h => by cases h) (by kernel_rfl) (fun _ h => by cases h) wideShifts_row_tie rfl ⟨rfl, rfl⟩ (by kernel_rfl) rfl
    (fun f fn hf hfn => by
      obtain rfl : f = 3 := Option.some.inj ((show Tryd.prog.funcNamed "windowpane/windowpanelaw02.WideShifts" = some 3 by kernel_rfl).symm.trans hf) |>.symm
      obtain rfl : fn = Tryd.f3 := (Option.some.inj (Tryd.func3.symm.trans hfn)).symm
      exact ⟨by kernel_rfl, fun j t ht => by
        rw [Tryd.params3] at ht
        have hm : t ∈ [24, 3] := by simpa using Array.mem_of_getElem? ht
        have hall : ([24, 3].all fun u => !Tryd.prog.wantsStandIn u) = true := by kernel_rfl
        exact (show Tryd.prog.wantsStandIn t = false by simpa using List.all_eq_true.1 hall t hm)⟩)
    (by kernel_rfl)
#print axioms wideShifts_holds
end Go.Proofs.YtbfbmdkgnecfaaaDoor
