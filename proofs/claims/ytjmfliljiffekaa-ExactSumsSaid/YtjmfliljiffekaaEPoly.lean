/- What Poly of package exact and of its reference return. -/
import Derived.Test.YtjmfliljiffekaaESum
import Derived.Test.YtjmfliljiffekaaELive
import Derived.Test.YtjmfliljiffekaaWPow2
import Derived.Test.YtjmfliljiffekaaWMul2
import Derived.Shelf.Abstract
import Derived.Deep.DeepCutAuto
namespace Go.Proofs.Ytjmfliljiffekaa
open Go.RowKit

/-- The term of an item: its weight times its value, and whether there is one. -/
def tmP (land p : Int) (x : It) : Bool := decide (land ≤ x.1 ∧ x.1 ≤ 16777216 ∧ 0 ≤ x.2)
def tmB (land p : Int) (x : It) : Bool := tmP land p x && fits2 (powV (x.1 - land + 1) p * x.2)
def tmF (land p : Int) (x : It) : Int := if tmB land p x = true then powV (x.1 - land + 1) p * x.2 else 0
theorem fit2_in2 (v : Int) : In2 (fit2 v) := by
  unfold fit2
  by_cases h : fits2 v = true
  · rw [if_pos h]; exact (of_decide_eq_true h : 0 ≤ v ∧ v < 340282366920938463463374607431768211456)
  · rw [if_neg h]; exact ⟨by decide, by decide⟩
theorem powV_in2 (a n : Int) : In2 (powV a n) := by
  unfold powV
  split
  · exact ⟨by decide, by decide⟩
  · exact fit2_in2 _
theorem tmF_in2 (land p : Int) (x : It) : In2 (tmF land p x) := by
  unfold tmF
  by_cases h : tmB land p x = true
  · rw [if_pos h]
    unfold tmB at h
    rw [Bool.and_eq_true] at h
    exact (of_decide_eq_true h.2 : _ ∧ _)
  · rw [if_neg h]; exact ⟨by decide, by decide⟩
theorem tm_no {land p : Int} {x : It} (h : tmP land p x = false) : tmB land p x = false ∧ tmF land p x = 0 := by
  have e : tmB land p x = false := by unfold tmB; rw [h]; rfl
  exact ⟨e, by unfold tmF; rw [e]; rfl⟩
theorem tm_yes {land p : Int} {x : It} (h : tmP land p x = true) : tmB land p x = fits2 (powV (x.1 - land + 1) p * x.2) ∧ tmF land p x = fit2 (powV (x.1 - land + 1) p * x.2) := by
  have e : tmB land p x = fits2 (powV (x.1 - land + 1) p * x.2) := by unfold tmB; rw [h]; rfl
  refine ⟨e, ?_⟩
  unfold tmF fit2
  rw [e]
/-- What Poly returns. -/
def plO (L : List It) (land p : Int) : Option Int := if (tickB land && decide (0 ≤ p ∧ p ≤ 4)) = true then accO (tmF land p) (tmB land p) 0 L else none

set_option maxHeartbeats 8000000 in
set_option maxRecDepth 100000 in
theorem polyT_up (land p : Int) (hl0 : 0 ≤ land) (hl1 : land ≤ 16777216) (hp0 : 0 ≤ p) (hp1 : p ≤ 4) (b1 b2 : Nat) (p0 p1 : Int) (i0 : In p0) (i1 : In p1) (w : World) (c1 : w.cell? ⟨b1, 0, none⟩ = some (.int .i64 land)) (c2 : w.cell? ⟨b2, 0, none⟩ = some (.int .i64 p)) :
    Calls Try.prog 69 #[.agg #[.int .i64 p0, .int .i64 p1], .pointer (some ⟨b1, 0, none⟩), .pointer (some ⟨b2, 0, none⟩)] w fun e w' => e = got2 (tmF land p (p0, p1)) (tmB land p (p0, p1)) ∧ Up w w' := by
  have lb1 : b1 < w.heap.size := World.block_lt_of_cell? _ _ c1
  have lb2 : b2 < w.heap.size := World.block_lt_of_cell? _ _ c2
  have nb1 : ¬ w.heap.size = b1 := by omega
  have nb2 : ¬ w.heap.size = b2 := by omega
  have mb1 : b1 < w.heap.size + 1 := by omega
  have mb2 : b2 < w.heap.size + 1 := by omega
  have mb3 : b1 < w.heap.size + 1 + 1 := by omega
  have mb4 : b2 < w.heap.size + 1 + 1 := by omega
  by_cases hv : land ≤ p0 ∧ p0 ≤ 16777216 ∧ 0 ≤ p1
  case neg =>
    obtain ⟨e1, e2⟩ := tm_no (p := p) (show tmP land p (p0, p1) = false from decide_eq_false hv)
    rw [e1, e2]
    clear e1 e2
    by_cases h1 : p0 < land
    · clear hv
      go_enter Try.func69, Try.ntmps69
      go_wp2_with fail
      refine bodyPost_ret (v := .tuple #[.agg #[.int .u64 0, .int .u64 0], .bool false]) (by simp [results, Try.results69, go_sem]) rfl ⟨?_, ?_⟩
      · rfl
      · repeat (first | exact Up.refl _ | refine Up.alloc ?_ _ _ | refine Up.setCell ?_ (by first | (simp; done) | (simp; omega) | omega) _ | refine Up.drewN ?_ _ | refine Up.drew ?_)
    by_cases h2 : 16777216 < p0
    · clear hv
      go_enter Try.func69, Try.ntmps69
      go_wp2_with fail
      refine bodyPost_ret (v := .tuple #[.agg #[.int .u64 0, .int .u64 0], .bool false]) (by simp [results, Try.results69, go_sem]) rfl ⟨?_, ?_⟩
      · rfl
      · repeat (first | exact Up.refl _ | refine Up.alloc ?_ _ _ | refine Up.setCell ?_ (by first | (simp; done) | (simp; omega) | omega) _ | refine Up.drewN ?_ _ | refine Up.drew ?_)
    have h3 : p1 < 0 := by omega
    clear hv
    go_enter Try.func69, Try.ntmps69
    go_wp2_with fail
    refine bodyPost_ret (v := .tuple #[.agg #[.int .u64 0, .int .u64 0], .bool false]) (by simp [results, Try.results69, go_sem]) rfl ⟨?_, ?_⟩
    · rfl
    · repeat (first | exact Up.refl _ | refine Up.alloc ?_ _ _ | refine Up.setCell ?_ (by first | (simp; done) | (simp; omega) | omega) _ | refine Up.drewN ?_ _ | refine Up.drew ?_)
  case pos =>
  obtain ⟨e1, e2⟩ := tm_yes (p := p) (show tmP land p (p0, p1) = true from decide_eq_true hv)
  rw [e1, e2]
  simp only
  clear e1 e2
  obtain ⟨v1, v2, v3⟩ := hv
  unfold In at i0 i1
  have ha : Word (p0 - land + 1) := ⟨by omega, by omega⟩
  have KP := Lib.hid (fun W => pow_up (p0 - land + 1) p ha ⟨by omega, by omega⟩ W)
  have hpw := powV_in2 (p0 - land + 1) p
  generalize powB (p0 - land + 1) p = pb at *
  generalize powV (p0 - land + 1) p = pw at *
  have hw1 : Word p1 := ⟨by omega, by omega⟩
  have KO := Lib.hid (fun W => of_up p1 W)
  have KM := Lib.hid (fun W => mul_up (hiZ pw) (loZ pw) 0 p1 (hiZ_word hpw) (loZ_word pw) ⟨by decide, by decide⟩ hw1 W)
  rw [val_hilo, show val 0 p1 = p1 by unfold val; omega] at KM
  unfold got2 at KP
  have k1 : IntKind.i64.wrap (p0 - land) = p0 - land := IntWalk.i64_in _ (by omega)
  have k2 : IntKind.i64.wrap (p0 - land + 1) = p0 - land + 1 := IntWalk.i64_in _ (by omega)
  have k3 : IntKind.u64.wrap (p0 - land + 1) = p0 - land + 1 := by rw [IntKind.wrap_u64]; omega
  have k4 : IntKind.u64.wrap p1 = p1 := by rw [IntKind.wrap_u64]; omega
  clear hpw hw1 ha
  go_enter Try.func69, Try.ntmps69
  go_wp2_with fail
  refine (KP.out _).mono ?_
  rintro e w1 ⟨rfl, hu1⟩
  have r0 := hu1.keep (w.heap.size + 1) 0 (.int .u64 0) (by simp [go_sem])
  have r1 := hu1.keep (w.heap.size + 1) 1 (.int .u64 0) (by simp [go_sem])
  have c0 := hu1.keep w.heap.size 1 (.int .i64 p1) (by simp [go_sem])
  have HU1 : Hid (Up w w1) := Lib.hid (by repeat (first | exact Up.refl _ | (refine Up.trans ?_ (hu1); skip) | refine Up.alloc ?_ _ _ | refine Up.setCell ?_ (by first | (simp; done) | (simp; omega) | omega) _ | refine Up.drewN ?_ _ | refine Up.drew ?_))
  have lw : w.heap.size + 1 < w1.heap.size := World.block_lt_of_cell? _ _ r0
  clear hu1 c1 c2
  go_upto_region 4 with fail
  have r0_ := ((Up.refl w1).alloc #[.int .u64 (hiZ pw), .int .u64 (loZ pw)] 49).keep _ _ _ r0
  have r1_ := ((Up.refl w1).alloc #[.int .u64 (hiZ pw), .int .u64 (loZ pw)] 49).keep _ _ _ r1
  have c0 := ((Up.refl w1).alloc #[.int .u64 (hiZ pw), .int .u64 (loZ pw)] 49).keep _ _ _ c0
  have HU := Lib.hid (HU1.out.alloc #[.int .u64 (hiZ pw), .int .u64 (loZ pw)] 49)
  have c1 : (w1.alloc (.cells #[.int .u64 (hiZ pw), .int .u64 (loZ pw)] 49)).cell? ⟨w1.heap.size, 0, none⟩ = some (.int .u64 (hiZ pw)) := by simp [go_sem]
  have c2 : (w1.alloc (.cells #[.int .u64 (hiZ pw), .int .u64 (loZ pw)] 49)).cell? ⟨w1.heap.size, 1, none⟩ = some (.int .u64 (loZ pw)) := by simp [go_sem]
  have z0_ := HU.out.ownGe (show w.heap.size ≤ w.heap.size + 1 by omega) 0
  have z1_ := HU.out.ownGe (show w.heap.size ≤ w.heap.size + 1 by omega) 1
  clear r0 r1 HU1
  generalize w1.alloc (.cells #[.int .u64 (hiZ pw), .int .u64 (loZ pw)] 49) = wi at *
  generalize w1.heap.size = a at *
  refine wp_region_held_drew (S := fun w' => Up w w' ∧ w'.cell? ⟨w.heap.size, 1, none⟩ = some (.int .i64 p1) ∧ w'.cell? ⟨a, 0, none⟩ = some (.int .u64 (hiZ pw)) ∧ w'.cell? ⟨a, 1, none⟩ = some (.int .u64 (loZ pw))) (by kernel_rfl) ?hB1 (fun hHeld => ?_)
  case hB1 => (first | (with_reducible assumption) | (exact keep3 (Lib.hid (Up.refl _).drew) ⟨HU.out, c0, c1, c2⟩) | (exact set3 (set3 hHeld (by omega) (by omega) (by omega) (by omega)) (by omega) (by omega) (by omega) (by omega)))
  refine wpAnyH_take (i := 0) (oi := ⟨_, _, _, _, _, _⟩) (v := ?v2) rfl (by kernel_rfl) (by kernel_rfl) (by kernel_rfl) (fun _ _ _ h => h) (Or.inl ⟨by rfl, ?hy2⟩) (by assumption) ?_
  case hy2 => (intro w hSw; (try dsimp only at hSw); go_simp; (try (with_reducible rfl)))
  (try simp only [Act.put, List.setIfInBounds_toArray, List.set_cons_zero, List.set_cons_succ])
  refine wpAnyH_take (i := 1) (oi := ⟨_, _, _, _, _, _⟩) (v := ?v3) rfl (by kernel_rfl) (by kernel_rfl) (by kernel_rfl) (fun _ _ _ h => h) (Or.inl ⟨by rfl, ?hy3⟩) (by assumption) ?_
  case hy3 => (intro w hSw; (try dsimp only at hSw); go_simp; (try (with_reducible rfl)))
  (try simp only [Act.put, List.setIfInBounds_toArray, List.set_cons_zero, List.set_cons_succ])
  refine wpAnyH_take (i := 2) (oi := ⟨_, _, _, _, _, _⟩) (v := ?v4) rfl (by kernel_rfl) (by kernel_rfl) (by kernel_rfl) (fun _ _ _ h => h) (Or.inl ⟨by rfl, ?hy4⟩) (by assumption) ?_
  case hy4 => (intro w hSw; (try dsimp only at hSw); go_simp; (try (with_reducible rfl)))
  (try simp only [Act.put, List.setIfInBounds_toArray, List.set_cons_zero, List.set_cons_succ])
  refine wpAnyH_take (i := 3) (oi := ⟨_, _, _, _, _, _⟩) (v := ?v5) rfl (by kernel_rfl) (by kernel_rfl) (by kernel_rfl) (fun _ _ _ h => h) (Or.inl ⟨by rfl, ?hy5⟩) (by assumption) ?_
  case hy5 => (intro w hSw; (try dsimp only at hSw); go_simp; (try (with_reducible rfl)))
  (try simp only [Act.put, List.setIfInBounds_toArray, List.set_cons_zero, List.set_cons_succ])
  refine wpAnyH_ready (rs := [4]) (by kernel_rfl) (by simp) ?_
  refine AllReadyH.cons (o := ⟨_, _, _, _, _, _⟩) rfl (fun K hK => ?_) AllReadyH.nil
  go_simp
  (go_at_call 60; (with_reducible refine (KO.out _).mono ?_); rintro e w1 ⟨rfl, hu1⟩; have HU1 := Lib.hid hu1; have hS1 := keep3 (Lib.hid hu1) hHeld; have r0_1 := hu1.keep _ _ _ r0_; have r1_1 := hu1.keep _ _ _ r1_; have z0_1 := (hu1.cells.2 _).trans z0_; have z1_1 := (hu1.cells.2 _).trans z1_; clear hu1; (try unfold got2))
  (try go_wp2_with fail)
  refine hK.out _ _ ?hB6 (fun hHeld => ?_)
  case hB6 => (first | (with_reducible assumption) | (exact keep3 (Lib.hid (Up.refl _).drew) ⟨HU.out, c0, c1, c2⟩) | (exact set3 (set3 hHeld (by omega) (by omega) (by omega) (by omega)) (by omega) (by omega) (by omega) (by omega)))
  clear hK K
  (try simp only [Act.put, List.setIfInBounds_toArray, List.set_cons_zero, List.set_cons_succ])
  refine wpAnyH_ready (rs := [5]) (by kernel_rfl) (by simp) ?_
  refine AllReadyH.cons (o := ⟨_, _, _, _, _, _⟩) rfl (fun K hK => ?_) AllReadyH.nil
  go_simp
  (go_at_call 71; (with_reducible refine (KM.out _).mono ?_); rintro e w2 ⟨rfl, hu2⟩; have HU2 := Lib.hid hu2; have hS2 := keep3 (Lib.hid hu2) hHeld; have r0_2 := hu2.keep _ _ _ r0_1; have r1_2 := hu2.keep _ _ _ r1_1; have z0_2 := (hu2.cells.2 _).trans z0_1; have z1_2 := (hu2.cells.2 _).trans z1_1; clear hu2; (try unfold got2))
  (try go_wp2_with fail)
  refine hK.out _ _ ?hB7 (fun hHeld => ?_)
  case hB7 => (first | (with_reducible assumption) | (exact keep3 (Lib.hid (Up.refl _).drew) ⟨HU.out, c0, c1, c2⟩) | (exact set3 (set3 hHeld (by omega) (by omega) (by omega) (by omega)) (by omega) (by omega) (by omega) (by omega)))
  clear hK K
  (try simp only [Act.put, List.setIfInBounds_toArray, List.set_cons_zero, List.set_cons_succ])
  refine wpAnyH_take (i := 6) (oi := ⟨_, _, _, _, _, _⟩) (v := ?v8) rfl (by kernel_rfl) (by kernel_rfl) (by kernel_rfl) (fun _ _ _ h => h) (Or.inl ⟨by rfl, ?hy8⟩) (by assumption) ?_
  case hy8 => (intro w hSw; (try dsimp only at hSw); go_simp; (try (with_reducible rfl)))
  (try simp only [Act.put, List.setIfInBounds_toArray, List.set_cons_zero, List.set_cons_succ])
  refine wpAnyH_take (i := 7) (oi := ⟨_, _, _, _, _, _⟩) (v := ?v9) rfl (by kernel_rfl) (by kernel_rfl) (by kernel_rfl) (fun _ _ _ h => h) (Or.inl ⟨by rfl, ?hy9⟩) (by assumption) ?_
  case hy9 => (intro w hSw; (try dsimp only at hSw); go_simp; (try (with_reducible rfl)))
  (try simp only [Act.put, List.setIfInBounds_toArray, List.set_cons_zero, List.set_cons_succ])
  refine wpAnyH_ready (rs := [8]) (by kernel_rfl) (by simp) ?_
  refine AllReadyH.cons (o := ⟨_, _, _, _, _, _⟩) rfl (fun K hK => ?_) AllReadyH.nil
  go_simp
  refine hK.out _ _ ?hB10 (fun hHeld => ?_)
  case hB10 => (first | (with_reducible assumption) | (exact keep3 (Lib.hid (Up.refl _).drew) ⟨HU.out, c0, c1, c2⟩) | (exact set3 (set3 hHeld (by omega) (by omega) (by omega) (by omega)) (by omega) (by omega) (by omega) (by omega)))
  clear hK K
  (try simp only [Act.put, List.setIfInBounds_toArray, List.set_cons_zero, List.set_cons_succ])
  refine wpAnyH_take (i := 9) (oi := ⟨_, _, _, _, _, _⟩) (v := ?v11) rfl (by kernel_rfl) (by kernel_rfl) (by kernel_rfl) (fun _ _ _ h => h) (Or.inl ⟨by rfl, ?hy11⟩) (by assumption) ?_
  case hy11 => (intro w hSw; (try dsimp only at hSw); go_simp; (try (with_reducible rfl)))
  (try simp only [Act.put, List.setIfInBounds_toArray, List.set_cons_zero, List.set_cons_succ])
  refine wpAnyH_done (by kernel_rfl) ?_ _
  go_wp2_with fail
  refine bodyPost_ret (v := .tuple #[.agg #[.int .u64 (hiZ (fit2 (pw * p1))), .int .u64 (loZ (fit2 (pw * p1)))], .bool (fits2 (pw * p1))]) (by simp [results, Try.results69, go_sem, r0_2, r1_2]) rfl ⟨?_, ?_⟩
  · rfl
  · ((repeat (first | (with_reducible exact Up.refl _) | (with_reducible exact hS2.1) | (with_reducible refine Up.alloc ?_ _ _) | (with_reducible refine Up.setCell ?_ ?_ _) | (with_reducible refine Up.drewN ?_ _) | (with_reducible refine Up.drew ?_))); all_goals (first | (simp; done) | (simp; omega) | omega))

set_option maxHeartbeats 8000000 in
set_option maxRecDepth 100000 in
theorem poly_up (n k : Nat) (A : Option Addr) (L : List It) (land p : Int) (hn : n ≤ 1000000) (hI : InI L) (w : World) (hS : Sl w A n L) :
    Calls Try.prog 37 #[.slice A n k, .int .i64 land, .int .i64 p] w fun e w' => e = gotW (plO L land p) ∧ Up w w' := by
  have KT := Lib.hid (eisTick_any land)
  unfold plO
  cases ht : tickB land with
  | false =>
    rw [ht] at KT
    rw [show (false && decide (0 ≤ p ∧ p ≤ 4)) = false from rfl, if_neg (by decide)]
    clear hS hI ht
    go_enter Try.func37, Try.ntmps37
    go_wp2_with fail
    refine (KT.out _).mono ?_
    rintro e w' ⟨rfl, rfl⟩
    go_wp2_with fail
    refine bodyPost_ret (v := .tuple #[.agg #[.int .u64 0, .int .u64 0], .bool false]) (by simp [results, Try.results37, go_sem]) rfl ⟨?_, ?_⟩
    · rfl
    · repeat (first | exact Up.refl _ | refine Up.alloc ?_ _ _ | refine Up.setCell ?_ (by first | (simp; done) | (simp; omega) | omega) _ | refine Up.drewN ?_ _ | refine Up.drew ?_)
  | true =>
  rw [ht] at KT
  by_cases hp : 0 ≤ p ∧ p ≤ 4
  case neg =>
    rw [decide_eq_false hp, Bool.and_false, if_neg (by decide)]
    clear hS hI ht
    by_cases h0 : p < 0
    · clear hp
      go_enter Try.func37, Try.ntmps37
      go_wp2_with fail
      refine (KT.out _).mono ?_
      rintro e w' ⟨rfl, rfl⟩
      go_wp2_with fail
      refine bodyPost_ret (v := .tuple #[.agg #[.int .u64 0, .int .u64 0], .bool false]) (by simp [results, Try.results37, go_sem]) rfl ⟨?_, ?_⟩
      · rfl
      · repeat (first | exact Up.refl _ | refine Up.alloc ?_ _ _ | refine Up.setCell ?_ (by first | (simp; done) | (simp; omega) | omega) _ | refine Up.drewN ?_ _ | refine Up.drew ?_)
    · have h4 : 4 < p := by omega
      clear hp
      go_enter Try.func37, Try.ntmps37
      go_wp2_with fail
      refine (KT.out _).mono ?_
      rintro e w' ⟨rfl, rfl⟩
      go_wp2_with fail
      refine bodyPost_ret (v := .tuple #[.agg #[.int .u64 0, .int .u64 0], .bool false]) (by simp [results, Try.results37, go_sem]) rfl ⟨?_, ?_⟩
      · rfl
      · repeat (first | exact Up.refl _ | refine Up.alloc ?_ _ _ | refine Up.setCell ?_ (by first | (simp; done) | (simp; omega) | omega) _ | refine Up.drewN ?_ _ | refine Up.drew ?_)
  case pos =>
  rw [decide_eq_true hp, Bool.and_true, if_pos rfl]
  have hlt : 0 ≤ land ∧ land ≤ 16777216 := (of_decide_eq_true ht : 0 ≤ land ∧ land ≤ 16777216)
  obtain ⟨hl0, hl1⟩ := hlt
  obtain ⟨hp0, hp1⟩ := hp
  generalize hr : accO (tmF land p) (tmB land p) 0 L = r
  have KS : Hid (Calls Try.prog 68 #[.slice A n k, .func (.func 69) #[] #[.pointer (some ⟨w.heap.size, 0, none⟩), .pointer (some ⟨w.heap.size + 1, 0, none⟩)]] (((w.alloc (.cells #[.int .i64 land] 2)).alloc (.cells #[.int .i64 p] 3)).alloc (.cells #[.int .u64 0, .int .u64 0] 49)) fun e w' => e = gotW r ∧ Up (((w.alloc (.cells #[.int .i64 land] 2)).alloc (.cells #[.int .i64 p] 3)).alloc (.cells #[.int .u64 0, .int .u64 0] 49)) w') := Lib.hid (by
    rw [← hr]
    refine sumOf_up 69 _ n k A L _ _ _ (Go.Proofs.enters_of Try.func69 (by kernel_rfl) rfl) hn (hS.up (((((Up.refl w).alloc _ _).alloc _ _).alloc _ _))) (fun x _ => tmF_in2 land p x) (fun W hW q0 q1 hm => ?_)
    have hi := hI _ hm
    exact polyT_up land p hl0 hl1 hp0 hp1 _ _ q0 q1 hi.1 hi.2 W (hW.keep _ _ _ (by simp [go_sem])) (hW.keep _ _ _ (by simp [go_sem])))
  unfold gotW got2 at KS
  unfold gotW got2
  generalize r.getD 0 = x at *
  generalize r.isSome = y at *
  clear hr hS hI ht
  go_enter Try.func37, Try.ntmps37
  go_wp2_with fail
  refine (KT.out _).mono ?_
  rintro e w' ⟨rfl, rfl⟩
  go_wp2_with fail
  refine KS.out.mono ?_
  rintro e w1 ⟨rfl, hu1⟩
  have r0 := hu1.keep (w.heap.size + 1 + 1) 0 (.int .u64 0) (by simp [go_sem])
  have r1 := hu1.keep (w.heap.size + 1 + 1) 1 (.int .u64 0) (by simp [go_sem])
  have HU1 : Hid (Up w w1) := Lib.hid (by repeat (first | exact Up.refl _ | (refine Up.trans ?_ (hu1); skip) | refine Up.alloc ?_ _ _ | refine Up.setCell ?_ (by first | (simp; done) | (simp; omega) | omega) _ | refine Up.drewN ?_ _ | refine Up.drew ?_))
  have z0 := HU1.out.ownGe (show w.heap.size ≤ w.heap.size + 1 + 1 by omega) 0
  have z1 := HU1.out.ownGe (show w.heap.size ≤ w.heap.size + 1 + 1 by omega) 1
  clear hu1
  go_wp2_with fail
  refine bodyPost_ret (v := .tuple #[.agg #[.int .u64 (hiZ x), .int .u64 (loZ x)], .bool y]) (by simp [results, Try.results37, go_sem, r0, r1]) rfl ⟨?_, ?_⟩
  · rfl
  · ((repeat (first | (with_reducible exact Up.refl _) | (with_reducible exact HU1.out) | (with_reducible refine Up.alloc ?_ _ _) | (with_reducible refine Up.setCell ?_ ?_ _) | (with_reducible refine Up.drewN ?_ _) | (with_reducible refine Up.drew ?_))); all_goals (first | (simp; done) | (simp; omega) | omega))
end Go.Proofs.Ytjmfliljiffekaa
