/- Proved: for every string s the law WideReads returns true: wide.Parse answers as the reference does, and where it reads a number, wide.Format writes s again. Conditions: none. -/
import Derived.Test.YtkhgibpginbdcaaRows
import Derived.WalkKit
import Derived.ProofKit
import Derived.OpenShut
import Derived.Lib.SmallJoins
import Derived.ChangeMaps5
import Derived.Test.YtkhgibpginbdcaaWBack
import Derived.Test.YtkhgibpginbdcaaWParse2
namespace Go.Proofs.Ytkhgibpginbdcaa
open Go.ChangeShapes Go.WideShapes Go.ChangeAt Go.RowKit Go.Joins Go.ChangeMaps
set_option linter.unusedVariables false

theorem wideReads_own : ownKnob Try.prog.godebug = none := by kernel_rfl

set_option maxHeartbeats 2000000 in
theorem wideReads_walk (s : ByteArray) (w0 : s.size ≤ maxLen) (w : World) :
    Calls Try.prog 11 #[.string s] w fun e w' => e = .returned (.bool true) ∧ Grown w w' := by
  unfold maxLen at w0
  have hm : s.size ≤ 9223372036854775807 := w0
  clear w0
  by_cases hl : 1000 < s.size
  · have t1 : decide (1000 < (s.size : Int)) = true := decide_eq_true (by omega)
    clear hl
    go_enter Try.func11, Try.ntmps11
    go_wp2_with fail
    refine (awake_up _).mono ?_
    rintro e w1 ⟨rfl, hu1⟩
    go_wp2
    go_ret
    exact ⟨rfl, hu1.grown⟩
  have t1 : decide (1000 < (s.size : Int)) = false := decide_eq_false (by omega)
  have HP := Lib.hid (fun W => parse_up s (by omega) W)
  have HR := Lib.hid (fun W => rparse_up s (by omega) W)
  cases hb : pb s.data.toList with
  | false =>
    rw [hb] at HP HR
    generalize pv s.data.toList = v at *
    clear hb
    go_enter Try.func11, Try.ntmps11
    go_wp2_with fail
    refine (HP.out _).mono ?_
    rintro e w1 ⟨rfl, hu1⟩
    obtain ⟨hc1, hz1⟩ := hu1.cells
    have hs1 := hu1.size
    try simp at hs1
    try unfold got2
    go_wp2_with fail
    refine (HR.out _).mono ?_
    rintro e w2 ⟨rfl, hu2⟩
    obtain ⟨hc2, hz2⟩ := hu2.cells
    have hs2 := hu2.size
    try simp at hs2
    try unfold got2
    have p2_0 : w1.heap.size < w2.heap.size := by omega
    go_wp2_with fail
    refine (awake_up _).mono ?_
    rintro e w3 ⟨rfl, hu3⟩
    go_wp2
    go_ret
    refine ⟨rfl, Up.grown ?_⟩
    repeat (first | exact Up.refl _ | refine Up.trans ?_ hu3 | refine Up.trans ?_ hu2 | refine Up.trans ?_ hu1 | refine Up.alloc ?_ _ _ | refine Up.setCell ?_ (by first | (simp; done) | (simp; omega) | omega) _ | refine Up.drewN ?_ _ | refine Up.drew ?_)
  | true =>
    obtain ⟨hd, hv⟩ := pb_back hb
    have HF := Lib.hid (show ∀ W, Calls Try.prog 32 #[.agg #[.int .u64 (hiZ (pv s.data.toList)), .int .u64 (loZ (pv s.data.toList))]] W fun e w' => e = .returned (.string s) ∧ Up W w' from fun W => by
      have h := format_up (pv s.data.toList) hv W
      rw [hd] at h
      exact h)
    rw [hb] at HP HR
    generalize pv s.data.toList = v at *
    clear hb hd hv
    go_enter Try.func11, Try.ntmps11
    go_wp2_with fail
    refine (HP.out _).mono ?_
    rintro e w1 ⟨rfl, hu1⟩
    obtain ⟨hc1, hz1⟩ := hu1.cells
    have hs1 := hu1.size
    try simp at hs1
    try unfold got2
    go_wp2_with fail
    refine (HR.out _).mono ?_
    rintro e w2 ⟨rfl, hu2⟩
    obtain ⟨hc2, hz2⟩ := hu2.cells
    have hs2 := hu2.size
    try simp at hs2
    try unfold got2
    have p2_0 : w1.heap.size < w2.heap.size := by omega
    go_wp2_with fail
    refine (HF.out _).mono ?_
    rintro e w3 ⟨rfl, hu3⟩
    obtain ⟨hc3, hz3⟩ := hu3.cells
    have hs3 := hu3.size
    try simp at hs3
    try unfold got2
    have p3_0 : w1.heap.size < w3.heap.size := by omega
    have p3_1 : w2.heap.size < w3.heap.size := by omega
    go_wp2_with fail
    refine (awake_up _).mono ?_
    rintro e w4 ⟨rfl, hu4⟩
    go_wp2
    go_ret
    refine ⟨rfl, Up.grown ?_⟩
    repeat (first | exact Up.refl _ | refine Up.trans ?_ hu4 | refine Up.trans ?_ hu3 | refine Up.trans ?_ hu2 | refine Up.trans ?_ hu1 | refine Up.alloc ?_ _ _ | refine Up.setCell ?_ (by first | (simp; done) | (simp; omega) | omega) _ | refine Up.drewN ?_ _ | refine Up.drew ?_)

set_option maxRecDepth 100000 in
theorem wideReads_lifted (os : Os) (started : os.Started) (H : Type) (enc : TypeId × Value → H) :
    ReturnsInHanded {} Try.checked os 11 .any (Rows.wideReadsSpec.pre6 enc Try.prog Try.f11 Rows.wideReadsRow.domain false) (Rows.wideReadsSpec.post enc Try.prog Try.f11 false true false false) := by
  refine returnsInHanded_of_change (C := Try.checked) wideReads_own started (by kernel_rfl) Try.func11
    (ChangeSpec.witness6 (enc := enc) (C := Try.checked) false ⟨#[], #[.string ⟨#[]⟩], []⟩ 8 (by kernel_rfl) (by kernel_rfl) (by kernel_rfl) (by kernel_rfl)) ?_
  intro W base args ds gs before hval0 hW hcnd _
  have hval : ∀ (j : Nat) t v, Try.f11.params[j]? = some t → args[j]? = some v → Value.okWide Try.prog W .any base t v := hval0
  have hW' := hW
  obtain ⟨p, q, hA0, hV, rfl, hfz, hnd⟩ := hW
  have hA : DataW.TrodAll enc Try.prog W 0 (fun _ => true) true Try.f11.params.toList args.toList ds p := hA0
  rw [Try.params11] at hA hval
  obtain ⟨v0, vs0, d0, ds0, p0, q0, hargs, rfl, rfl, h0, r0⟩ := trodAll_cons hA
  obtain ⟨rfl, rfl, rfl⟩ := trodAll_nil r0
  obtain rfl : args = #[v0] := by cases args; simp_all
  obtain ⟨rfl, rfl⟩ := trodVars_none hV
  obtain ⟨a0, rfl, rfl, rfl, w0⟩ := open_string Try.underlying9 (hval 0 9 v0 rfl rfl) h0
  clear hA0 hval0
  simp only [List.append_nil] at hW'
  refine (wideReads_walk a0 w0 W).mono fun e W' ⟨he, hg⟩ => ?_
  subst he
  exact ⟨_, rfl, post_of_same (pa := []) (pv := []) hW' (fun _ _ _ => (trodAll_cons_mk (shut_bool Try.underlying4 _) trodAll_mk0)) (fun sp _ => (trodAll_cons_mk (shut_string Try.underlying9 w0) trodAll_mk0)) (fun _ _ => rfl) rfl
    (hg.frame _) hg.2.1 (ok_one (by kernel_rfl) rfl (okWide_bool_mk Try.underlying4 _))⟩

theorem wideReads_over : Rows.wideReadsRow.holds Try.pinned (OpenSpec.ofChange Rows.wideReadsSpec) :=
  OpenClaim.holds_of_wide 11 Try.f11 rfl rfl rfl rfl rfl rfl rfl ⟨rfl, rfl, rfl, rfl, rfl⟩ rfl rfl rfl rfl rfl (by kernel_rfl) Try.func11 (by kernel_rfl)
    (of_decide_eq_true (by kernel_rfl)) (by unfold Func.isWrapper; first | (rw [if_pos (by decide +kernel)]; kernel_rfl) | (rw [if_neg (by decide +kernel)]; exact ⟨rfl, rfl⟩))
    (fun os started H enc _ => wideReads_lifted os started H enc)

theorem wideReads_holds : Rows.WideReadsSaid :=
  wideReads_over
#print axioms wideReads_holds
end Go.Proofs.Ytkhgibpginbdcaa
