/- Proved: for every list of int64 numbers raw (of at most 2^47 - 4096 bytes, the form's own reach) the law DrawAll returns true: the list of all sequences of draws has each of them at the place of its number. Conditions: none beside that reach. -/
import Derived.Test.YtfandjmfkmdofaaRows
import Derived.WalkKit
import Derived.ProofKit
import Derived.OpenShut
import Derived.Lib.SmallJoins
import Derived.Test.YtfandjmfkmdofaaDBase
import Derived.SizedLaws
import Derived.Test.YtfandjmfkmdofaaDSame
import Derived.Test.YtfandjmfkmdofaaDAll
import Derived.Test.YtfandjmfkmdofaaDOwn
import Derived.Test.YtfandjmfkmdofaaGMod
namespace Go.Proofs.Ytfandjmfkmdofaa
open Go.ChangeShapes Go.WideShapes Go.ChangeAt Go.RowKit Go.Joins
set_option linter.unusedVariables false

theorem drawAll_own : ownKnob Try.prog.godebug = none := by kernel_rfl

theorem prod5 {R : List Int} (h : ∀ m ∈ R, 1 ≤ m ∧ m ≤ 5) : prodL R ≤ (5 : Int) ^ R.length := by
  induction R with
  | nil => simp [prodL]
  | cons x M ih =>
    have h1 := ih (fun m hm => h m (List.mem_cons_of_mem _ hm))
    have h2 := h x List.mem_cons_self
    have h3 := prodL_pos (L := M) (fun m hm => (h m (List.mem_cons_of_mem _ hm)).1)
    rw [prodL, List.length_cons, Int.pow_succ, Int.mul_comm]
    exact Int.mul_le_mul h1 h2.2 (by omega) (by omega)
theorem prod8 {R : List Int} (h : ∀ m ∈ R, 1 ≤ m ∧ m ≤ 5) (hl : R.length ≤ 8) : 1 ≤ prodL R ∧ prodL R ≤ 390625 := by
  refine ⟨prodL_pos (fun m hm => (h m hm).1), Int.le_trans (prod5 h) ?_⟩
  have : (5 : Nat) ^ R.length ≤ 5 ^ 8 := Nat.pow_le_pow_right (by omega) hl
  have e : ((5 : Nat) ^ R.length : Nat) = ((5 : Int) ^ R.length) := by simp
  omega
/-- The ranges so far, in a row of the call's own. -/
structure RgW (w wr : World) (A : Option Addr) (i k : Nat) (R : List Int) : Prop where
  up : Up w wr
  own : OwnN w wr (.slice A i k) i R
  rng : ∀ m ∈ R, 1 ≤ m ∧ m ≤ 5
  len : R.length = i
theorem RgW.next {w wr wz : World} {A A' : Option Addr} {i k k' : Nat} {R : List Int} {x : Int} (h : RgW w wr A i k R) (x1 : 1 ≤ x) (x2 : x ≤ 5) (ho : OwnN w wz (.slice A' (i + 1) k') (i + 1) (R ++ [x])) (hu : Up w wz) : RgW w wz A' (i + 1) k' (R ++ [x]) :=
  ⟨hu, ho, fun m hm => by
    rcases List.mem_append.1 hm with h1 | h1
    · exact h.rng m h1
    · simp at h1; subst h1; exact ⟨x1, x2⟩, by simp [h.len]⟩
set_option maxHeartbeats 8000000 in
theorem drawAll_walk (n k : Nat) (A : Option Addr) (L : List Int) (hk : n ≤ k) (hz : n * 8 ≤ 140737488351232) (hI : ∀ x ∈ L, In x) (w : World) (hS : Sn w A n L) :
    Calls Try.prog 7 #[.slice A n k] w fun e w' => e = .returned (.bool true) ∧ Up w w' := by
  have KA := Lib.hid awake7_up
  have KM := Lib.hid (fun (a : Int) (W : World) => mod_any a 5 (by omega) (by omega) W)
  have HS := Lib.hid hS
  clear hS hI
  go_enter Try.func7, Try.ntmps7
  go_wp2_with fail
  go_loopw [3, 4, 5] (fun s p d wr => ∃ (i k1 : Nat) (A1 : Option Addr) (R : List Int), s = .slice A1 i k1 ∧ p = .int .i64 (prodL R) ∧ d = .int .i64 i ∧ i ≤ n ∧ i ≤ 8 ∧ Hid (RgW w wr A1 i k1 R)) (fun _ _ d _ => n - (intOf d).toNat)
  case atStart => exact ⟨0, 0, none, [], rfl, rfl, rfl, Nat.zero_le _, by omega, Lib.hid ⟨Up.refl _, OwnN.nil _ _, fun m hm => (by cases hm), rfl⟩⟩
  case round =>
    obtain ⟨i, k1, A1, R, rfl, rfl, rfl, hin, hi8, HW⟩ := hrel
    have hP := prod8 HW.out.rng (by rw [HW.out.len]; exact hi8)
    by_cases hi : i < n ∧ i < 8
    · obtain ⟨hi1, hi2⟩ := hi
      obtain ⟨b, o, rfl, hc⟩ := HS.out.2 (by omega)
      have c1 : wr.cell? ⟨b, o + i, none⟩ = some (.int .i64 (L.getD i 0)) := HW.out.up.keep _ _ _ (hc i hi1)
      have m0 : 0 ≤ L.getD i 0 % 5 := Int.emod_nonneg _ (by omega)
      have m1 : L.getD i 0 % 5 < 5 := Int.emod_lt_of_pos _ (by omega)
      have KM1 := Lib.hid (KM.out (L.getD i 0))
      generalize L.getD i 0 = x at *
      generalize x % 5 = y at *
      obtain ⟨v, hv⟩ : ∃ v, 1 + y = v := ⟨_, rfl⟩
      have v1 : 1 ≤ v := by omega
      have v2 : v ≤ 5 := by omega
      obtain ⟨A2, k2, w2, hr, ho, hu⟩ := append1_run 22 w wr A1 i k1 R v HW.out.own HW.out.up (by omega)
      have HW2 := Lib.hid (HW.out.next v1 v2 ho hu)
      have HP2 := Lib.hid (prodL_append R v)
      have hP2 := prod8 HW2.out.rng (by rw [HW2.out.len]; omega)
      rw [HP2.out] at hP2
      have e2 : IntKind.i64.wrap (prodL R * v) = prodL R * v := IntWalk.i64_in _ (by omega)
      clear hc ho hu m0 m1
      go_wp2_with fail
      refine (KM1.out _).mono ?_
      rintro e w' ⟨rfl, rfl⟩
      go_wp2_with (refine wpList_append_run (o := ⟨some 30, _, _, _, _, _⟩) rfl (.tmp 27) (.tmp 29) _ rfl _ _ rfl rfl _ _ hr ?_)
      go_round
      case rel => exact ⟨i + 1, k2, A2, R ++ [v], by first | rfl | simp, by rw [HP2.out], by first | rfl | simp, by omega, by omega, HW2⟩
      case measure => simp only [intOf]; omega
    · have hwt : wtO R = some (prodL R) := by
        have := wtF_of (L := R) (p := 1) (by omega) (fun m hm => (HW.out.rng m hm).1) (by omega)
        rwa [Int.one_mul] at this
      have HI : Hid (∀ x ∈ R, In x) := Lib.hid (fun x hx => by have := HW.out.rng x hx; exact ⟨by omega, by omega⟩)
      have HR : Hid (Sn wr A1 i R) := Lib.hid (by
        obtain ⟨A', c', e, _, h⟩ := HW.out.own.sn
        injection e with e1 e2 e3
        subst e1
        exact h)
      by_cases hbig : 100000 < prodL R
      · have K1 := Lib.hid (all_no i k1 A1 R (by omega) HI.out wr HR.out (fun W h => by rw [hwt] at h; injection h with h; omega))
        have HU := Lib.hid HW.out.up
        clear hwt HI HR HW
        generalize prodL R = p at *
        rcases (by omega : ¬ i < n ∨ (i < n ∧ ¬ i < 8)) with hh | ⟨hh, hh'⟩
        all_goals
          clear hi
          go_wp2_with fail
          refine K1.out.mono ?_
          rintro e w1 ⟨rfl, hu⟩
          have HU1 := Lib.hid (HU.out.trans hu)
          clear hu
          go_wp2_with fail
          refine (KA.out _).mono ?_
          rintro e w2 ⟨rfl, hu⟩
          have HU2 := Lib.hid (HU1.out.trans hu)
          clear hu
          go_wp2_with fail
          go_ret
          exact ⟨rfl, HU2.out⟩
      · obtain ⟨c, hc⟩ : ∃ c : Nat, prodL R = c := ⟨(prodL R).toNat, by omega⟩
        rw [hc] at hwt hP hbig ⊢
        clear hc
        have K1 := Lib.hid (all_yes i k1 c A1 R (by omega) HI.out wr HR.out hwt (by omega))
        have HWt := Lib.hid hwt
        have HU := Lib.hid HW.out.up
        have HLen := Lib.hid HW.out.len
        have c5 : c ≤ 100000 := by omega
        clear hwt HW hbig hP
        rcases (by omega : ¬ i < n ∨ (i < n ∧ ¬ i < 8)) with hh | ⟨hh, hh'⟩
        all_goals
          clear hi
          go_wp2_with fail
          refine K1.out.mono ?_
          rintro e w1 ⟨g, rfl, HA⟩
          have HU1 := Lib.hid (HU.out.trans HA.out.up)
          go_wp2_with fail
          go_loop [8] (fun d => ∃ j : Nat, d = .int .i64 j ∧ j ≤ 200000) (fun d => c - (intOf d).toNat)
          case atStart => exact ⟨0, rfl, by omega⟩
          case round =>
            obtain ⟨j, rfl, hj2⟩ := hrel
            by_cases hj : j < c
            · obtain ⟨cs, h1, h2, h3⟩ := HA.out.row
              obtain ⟨b, k1', k2', k3'⟩ := h3 j hj
              have c1 : w1.cell? ⟨g, j, none⟩ = some (.slice (some ⟨b, 0, none⟩) i i) := by rw [Blk.cell h1]; exact k1'
              have K2 := Lib.hid (rnumber_any i k1 A1 R i i (some ⟨b, 0, none⟩) (dg R j) (by omega) HI.out w1 (HR.out.up HA.out.up) (k3'.sn (by rw [dg_length, HLen.out])))
              rw [nmO_dg HWt.out (by omega) (by omega)] at K2
              clear h1 h2 h3 k1' k2' k3' 
              obtain ⟨q, hq⟩ : ∃ q : Nat, q = c / 200 := ⟨_, rfl⟩
              have q1 : (c : Int).tdiv 200 = (q : Int) := by rw [Int.tdiv_eq_ediv_of_nonneg (by omega)]; omega
              have q2 : q ≤ 500 := by omega
              have g1 : (j : Int) < c := by omega
              have g2 : (0 : Int) ≤ j := by omega
              clear hq
              go_wp2_with fail
              refine K2.out.mono ?_
              rintro e w' ⟨rfl, rfl⟩
              go_wp2_with fail
              go_round
              case rel => exact ⟨j + (1 + q), by first | rfl | simp, by omega⟩
              case measure => simp only [intOf]; omega
            · clear HA K1
              go_wp2_with fail
              refine (KA.out _).mono ?_
              rintro e w2 ⟨rfl, hu⟩
              have HU2 := Lib.hid (HU1.out.trans hu)
              clear hu
              go_wp2_with fail
              go_ret
              exact ⟨rfl, HU2.out⟩

set_option maxRecDepth 100000 in
theorem drawAll_lifted (os : Os) (started : os.Started) (H : Type) (enc : TypeId × Value → H) :
    ReturnsInHanded {} Try.checked os 7 .any (Rows.drawAllSpec.pre6 enc Try.prog Try.f7 Rows.drawAllRow.domain false) (Rows.drawAllSpec.post enc Try.prog Try.f7 false true false false) := by
  refine returnsInHanded_of_change_sized (C := Try.checked) drawAll_own started (by kernel_rfl) Try.func7
    (ChangeSpec.witness6 (enc := enc) (C := Try.checked) false ⟨#[], #[.slice none 0 0], []⟩ 8 (by kernel_rfl) (by kernel_rfl) (by kernel_rfl) (by kernel_rfl)) ?_
  intro W base args ds gs before hval0 hW hcnd hsz0 _
  have hval : ∀ (j : Nat) t v, Try.f7.params[j]? = some t → args[j]? = some v → Value.okWide Try.prog W .any base t v := hval0
  have hW' := hW
  obtain ⟨p, q, hA0, hV, rfl, hfz, hnd⟩ := hW'
  have hA : DataW.TrodAll enc Try.prog W 0 (fun _ => true) true Try.f7.params.toList args.toList ds p := hA0
  have hsz : (DataW.weightsEach Try.prog (Try.f7.params.toList ++ Rows.drawAllSpec.plain.varTypes Try.prog) (ds ++ gs)).all (· ≤ reachBytes) = true := hsz0
  rw [Try.params7] at hA hval hsz
  obtain ⟨v0, vs0, d0, ds0, p0, q0, hargs, rfl, rfl, h0, r0⟩ := trodAll_cons hA
  obtain ⟨rfl, rfl, rfl⟩ := trodAll_nil r0
  obtain rfl : args = #[v0] := by cases args; simp_all
  obtain ⟨rfl, rfl⟩ := trodVars_none hV
  have hlt := fun x hx => hW.lt x hx
  have k0 := h0
  obtain ⟨n0, m0, A0, L0, rfl, hk0, hS0, hI0, hz0⟩ := open_nums2 (hval 0 22 v0 rfl rfl) h0
  refine (drawAll_walk n0 m0 A0 L0 hk0 (hz0 (fun es sp e => by subst e; exact sized_slice hsz (j := 0) (t := 22) (e := 2) rfl rfl Try.underlying22)) hI0 W hS0).mono fun e W' ⟨he, hg⟩ => ?_
  subst he
  exact ⟨_, rfl, post_of_same (pv := []) hW (fun _ _ _ => (trodAll_cons_mk (shut_bool Try.underlying4 _) trodAll_mk0)) (fun sp hsp => (trodAll_cons_mk (stay (by kernel_rfl) (of_decide_eq_true (by kernel_rfl)) k0 hg hlt (fun x hx => by first | (simp at hx; done) | simp [hx]) hsp) trodAll_mk0)) (fun _ _ => rfl) rfl
    (hg.grown.frame _) hg.grown.2.1 (ok_one (by kernel_rfl) rfl (okWide_bool_mk Try.underlying4 _))⟩

theorem drawAll_over : Rows.drawAllRow.holds Try.pinned (OpenSpec.ofChange Rows.drawAllSpec) :=
  OpenClaim.holds_of_wide 7 Try.f7 rfl rfl rfl rfl rfl rfl rfl ⟨rfl, rfl, rfl, rfl, rfl⟩ rfl rfl rfl rfl rfl (by kernel_rfl) Try.func7 (by kernel_rfl)
    (of_decide_eq_true (by kernel_rfl)) (by unfold Func.isWrapper; first | (rw [if_pos (by decide +kernel)]; kernel_rfl) | (rw [if_neg (by decide +kernel)]; exact ⟨rfl, rfl⟩))
    (fun os started H enc _ => drawAll_lifted os started H enc)

theorem drawAll_holds : Rows.DrawAllSaid :=
  drawAll_over
#print axioms drawAll_holds
end Go.Proofs.Ytfandjmfkmdofaa
