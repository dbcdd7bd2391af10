/- Proved: for every wide number a the law WideWrites returns true: wide.Format writes the digits that the reference writes, and wide.Parse reads them back. Conditions: none. -/
import Derived.Test.YtkhgibpginbdcaaRows
import Derived.WalkKit
import Derived.ProofKit
import Derived.OpenShut
import Derived.Lib.SmallJoins
import Derived.Test.YtkhgibpginbdcaaWBack2
import Derived.Test.YtkhgibpginbdcaaWRFormat
namespace Go.Proofs.Ytkhgibpginbdcaa
open Go.ChangeShapes Go.WideShapes Go.ChangeAt Go.RowKit Go.Joins
set_option linter.unusedVariables false

theorem wideWrites_own : ownKnob Try.prog.godebug = none := by kernel_rfl
theorem wideWrites_cells : Try.prog.cellsOf 24 = 2 := by kernel_rfl

set_option maxHeartbeats 2000000 in
theorem wideWrites_walk (ah al : Int) (w0 : (Lit.int .u64 ah).wf = true) (w1 : (Lit.int .u64 al).wf = true) (w : World) :
    Calls Try.prog 10 #[.agg #[.int .u64 ah, .int .u64 al]] w fun e w' => e = .returned (.bool true) ∧ Grown w w' := by
  have h1 := word_of_wf w0
  have h2 := word_of_wf w1
  clear w0 w1
  have hv := val_in h1 h2
  obtain ⟨e1, e2⟩ := par_decs (val ah al) hv
  have hlen : (⟨(decs (val ah al)).toArray⟩ : ByteArray).size ≤ 39 := by
    obtain ⟨n, hn⟩ := Int.eq_ofNat_of_zero_le hv.1
    have p39 : (10 : Nat) ^ (38 + 1) = 1000000000000000000000000000000000000000 := by decide
    have h3 := (dec_fold 38 n (by rw [p39]; rw [hn] at hv; unfold In2 at hv; omega) (by rw [← hn]; exact hv)).2.2.1
    have hd : decs (val ah al) = dec (38 + 1) n := by unfold decs; rw [hn, Int.toNat_natCast]
    rw [hd]; exact h3
  have HF := Lib.hid (show ∀ W, Calls Try.prog 32 #[.agg #[.int .u64 ah, .int .u64 al]] W fun e w' => e = .returned (.string ⟨(decs (val ah al)).toArray⟩) ∧ Up W w' from fun W => by
    have h := format_up (val ah al) hv W
    rw [hiZ_val h2, loZ_val h2] at h
    exact h)
  have HG := Lib.hid (show ∀ W, Calls Try.prog 34 #[.agg #[.int .u64 ah, .int .u64 al]] W fun e w' => e = .returned (.string ⟨(decs (val ah al)).toArray⟩) ∧ Up W w' from fun W => by
    have h := rformat_up (val ah al) hv W
    rw [hiZ_val h2, loZ_val h2] at h
    exact h)
  have HP := Lib.hid (show ∀ W, Calls Try.prog 33 #[.string ⟨(decs (val ah al)).toArray⟩] W fun e w' => e = .returned (.tuple #[.agg #[.int .u64 ah, .int .u64 al], .bool true]) ∧ Up W w' from fun W => by
    have h := parse_up ⟨(decs (val ah al)).toArray⟩ (by omega) W
    simp only at h
    rw [e1, e2] at h
    unfold got2 at h
    rw [hiZ_val h2, loZ_val h2] at h
    exact h)
  generalize (⟨(decs (val ah al)).toArray⟩ : ByteArray) = s at *
  clear e1 e2 hv
  go_enter Try.func10, Try.ntmps10
  go_wp2_with fail
  refine (HF.out _).mono ?_
  rintro e w1 ⟨rfl, hu1⟩
  obtain ⟨hc1, hz1⟩ := hu1.cells
  have hs1 := hu1.size
  try simp at hs1
  try unfold got2
  have p1_0 : w.heap.size < w1.heap.size := by omega
  go_wp2_with fail
  refine (HP.out _).mono ?_
  rintro e w2 ⟨rfl, hu2⟩
  obtain ⟨hc2, hz2⟩ := hu2.cells
  have hs2 := hu2.size
  try simp at hs2
  try unfold got2
  have p2_0 : w.heap.size < w2.heap.size := by omega
  go_wp2_with fail
  refine (HG.out _).mono ?_
  rintro e w3 ⟨rfl, hu3⟩
  obtain ⟨hc3, hz3⟩ := hu3.cells
  have hs3 := hu3.size
  try simp at hs3
  try unfold got2
  have p3_0 : w.heap.size < w3.heap.size := by omega
  have p3_1 : w2.heap.size < w3.heap.size := by omega
  go_wp2_with fail
  refine (awake_up _).mono ?_
  rintro e w4 ⟨rfl, hu4⟩
  go_wp2
  go_ret
  refine ⟨rfl, Up.grown ?_⟩
  repeat (first | exact Up.refl _ | refine Up.trans ?_ hu4 | refine Up.trans ?_ hu3 | refine Up.trans ?_ hu2 | refine Up.trans ?_ hu1 | refine Up.alloc ?_ _ _ | refine Up.setCell ?_ (by first | (simp; done) | (simp; omega) | omega) _ | refine Up.drewN ?_ _ | refine Up.drew ?_)

set_option maxRecDepth 100000 in
theorem wideWrites_lifted (os : Os) (started : os.Started) (H : Type) (enc : TypeId × Value → H) :
    ReturnsInHanded {} Try.checked os 10 .any (Rows.wideWritesSpec.pre6 enc Try.prog Try.f10 Rows.wideWritesRow.domain false) (Rows.wideWritesSpec.post enc Try.prog Try.f10 false true false false) := by
  refine returnsInHanded_of_change (C := Try.checked) wideWrites_own started (by kernel_rfl) Try.func10
    (ChangeSpec.witness6 (enc := enc) (C := Try.checked) false ⟨#[], #[.agg #[.int .u64 0, .int .u64 0]], []⟩ 8 (by kernel_rfl) (by kernel_rfl) (by kernel_rfl) (by kernel_rfl)) ?_
  intro W base args ds gs before hval0 hW hcnd _
  have hval : ∀ (j : Nat) t v, Try.f10.params[j]? = some t → args[j]? = some v → Value.okWide Try.prog W .any base t v := hval0
  have hW' := hW
  obtain ⟨p, q, hA0, hV, rfl, hfz, hnd⟩ := hW
  have hA : DataW.TrodAll enc Try.prog W 0 (fun _ => true) true Try.f10.params.toList args.toList ds p := hA0
  rw [Try.params10] at hA hval
  obtain ⟨v0, vs0, d0, ds0, p0, q0, hargs, rfl, rfl, h0, r0⟩ := trodAll_cons hA
  obtain ⟨rfl, rfl, rfl⟩ := trodAll_nil r0
  obtain rfl : args = #[v0] := by cases args; simp_all
  obtain ⟨rfl, rfl⟩ := trodVars_none hV
  obtain ⟨ca0, cb0, ya0, yb0, m0, rfl, rfl, rfl, hya0, hyb0⟩ := open_agg2 Try.underlying24 (by kernel_rfl) wideWrites_cells (hval 0 24 v0 rfl rfl) h0
  obtain ⟨a0, ea0, rfl, w0⟩ := DataW.trod_int Try.underlying22 hya0
  obtain ⟨b0, eb0, rfl, x0⟩ := DataW.trod_int Try.underlying22 hyb0
  simp at ea0 eb0
  subst ea0 eb0
  clear hA0 hval0
  simp only [List.append_nil] at hW'
  refine (wideWrites_walk a0 b0 w0 x0 W).mono fun e W' ⟨he, hg⟩ => ?_
  subst he
  exact ⟨_, rfl, post_of_same (pa := []) (pv := []) hW' (fun _ _ _ => (trodAll_cons_mk (shut_bool Try.underlying4 _) trodAll_mk0)) (fun sp _ => (trodAll_cons_mk (shut_agg2 (y0 := (.lit (.int .u64 a0), [])) (y1 := (.lit (.int .u64 b0), [])) Try.underlying24 (by kernel_rfl) wideWrites_cells ⟨1, by simp [DataW.trod, Try.underlying22, w0]⟩ ⟨1, by simp [DataW.trod, Try.underlying22, x0]⟩) trodAll_mk0)) (fun _ _ => rfl) rfl
    (hg.frame _) hg.2.1 (ok_one (by kernel_rfl) rfl (okWide_bool_mk Try.underlying4 _))⟩

theorem wideWrites_over : Rows.wideWritesRow.holds Try.pinned (OpenSpec.ofChange Rows.wideWritesSpec) :=
  OpenClaim.holds_of_wide 10 Try.f10 rfl rfl rfl rfl rfl rfl rfl ⟨rfl, rfl, rfl, rfl, rfl⟩ rfl rfl rfl rfl rfl (by kernel_rfl) Try.func10 (by kernel_rfl)
    (of_decide_eq_true (by kernel_rfl)) (by unfold Func.isWrapper; first | (rw [if_pos (by decide +kernel)]; kernel_rfl) | (rw [if_neg (by decide +kernel)]; exact ⟨rfl, rfl⟩))
    (fun os started H enc _ => wideWrites_lifted os started H enc)

theorem wideWrites_holds : Rows.WideWritesSaid :=
  wideWrites_over
#print axioms wideWrites_holds
end Go.Proofs.Ytkhgibpginbdcaa
