/- Texts of this claim, one after the other. -/
import Derived.Test.YtflahclphdlolaaZCClock
import Derived.Test.YtflahclphdlolaaZEPlus
import Derived.Test.YtflahclphdlolaaZEQuo
import Derived.Test.YtflahclphdlolaaZESq
import Derived.Test.YtflahclphdlolaaZETimes
import Derived.Test.YtflahclphdlolaaZETotal
import Derived.Test.YtflahclphdlolaaZEWords
import Derived.Test.YtflahclphdlolaaZG0a
import Derived.Test.YtflahclphdlolaaZG2a
import Derived.Test.YtflahclphdlolaaZG4a
import Derived.Test.YtflahclphdlolaaZG5a
import Derived.Test.YtflahclphdlolaaZG6a
import Derived.Test.YtflahclphdlolaaZG7a
import Derived.Test.YtflahclphdlolaaZRValid
import Derived.Test.YtflahclphdlolaaZWCmp
/- What Spread of package exact returns. -/
namespace Go.Proofs.Ytflahclphdlolaa
open Go.RowKit

/-- n times the sum of the squared deviations: n Q - S S. -/
def dvZ (L : List It) : Int := (L.length : Int) * sqZ L - smZ L * smZ L
/-- The sum of the squared differences of the last value and all before it, and of all pairs. -/
def rowZ (v : Int) (L : List It) : Int := (L.map (fun x => (v - x.2) * (v - x.2))).sum
theorem rowZ_form (v : Int) (L : List It) : rowZ v L = (L.length : Int) * (v * v) - 2 * v * smZ L + sqZ L := by
  induction L with
  | nil => simp [rowZ, smZ, sqZ]
  | cons x L ih =>
    simp only [rowZ, smZ, sqZ, List.map_cons, List.sum_cons, List.length_cons] at *
    rw [ih]
    have e1 : (v - x.2) * (v - x.2) = v * v - 2 * v * x.2 + x.2 * x.2 := by
      rw [Int.sub_mul, Int.mul_sub, Int.mul_sub, Int.mul_comm x.2 v, Int.mul_assoc 2 v x.2]; omega
    have e2 : ((L.length + 1 : Nat) : Int) * (v * v) = (L.length : Int) * (v * v) + v * v := by rw [Int.natCast_add, Int.add_mul]; simp
    have e3 : 2 * v * (x.2 + (L.map (fun x => x.2)).sum) = 2 * v * x.2 + 2 * v * (L.map (fun x => x.2)).sum := Int.mul_add _ _ _
    rw [e1, e2, e3]
    omega
theorem rowZ_nonneg (v : Int) (L : List It) : 0 ≤ rowZ v L := by
  induction L with
  | nil => simp [rowZ]
  | cons x L ih =>
    have : 0 ≤ (v - x.2) * (v - x.2) := by rw [← sq_abs]; exact Int.mul_nonneg (by omega) (by omega)
    simp only [rowZ, List.map_cons, List.sum_cons] at *
    omega
theorem dvZ_next (L : List It) (x : It) : dvZ (L ++ [x]) = dvZ L + rowZ x.2 L := by
  rw [rowZ_form]
  unfold dvZ
  have e1 : sqZ (L ++ [x]) = sqZ L + x.2 * x.2 := by simp [sqZ]
  have e2 : smZ (L ++ [x]) = smZ L + x.2 := by simp [smZ]
  rw [e1, e2, List.length_append]
  have e3 : ((L.length + [x].length : Nat) : Int) = (L.length : Int) + 1 := by simp
  rw [e3]
  generalize (L.length : Int) = n
  generalize sqZ L = Q
  generalize smZ L = S
  generalize x.2 = v
  simp only [Int.add_mul, Int.mul_add, Int.one_mul]
  rw [Int.mul_assoc 2 v S, Int.mul_comm v S]
  omega
theorem dvZ_nil : dvZ [] = 0 := by simp [dvZ, sqZ, smZ]
theorem dvZ_nonneg (L : List It) : 0 ≤ dvZ L := by
  have : ∀ k, k ≤ L.length → 0 ≤ dvZ (L.take k) := by
    intro k
    induction k with
    | zero => intro _; rw [List.take_zero, dvZ_nil]; exact Int.le_refl _
    | succ k ih =>
      intro hk
      rw [take_next (by omega), dvZ_next]
      have := ih (by omega)
      have := rowZ_nonneg (L.getD k (0, 0)).2 (L.take k)
      omega
  have h := this L.length (Nat.le_refl _)
  rwa [List.take_of_length_le (Nat.le_refl _)] at h
theorem dvZ_le {L : List It} (h : InI L) (hn : L.length ≤ 1000000) : dvZ L < 6277101735386680763835789423207666416102355444464034512896 := by
  unfold dvZ
  have h1 := sqZ_le h
  have h0 := sqZ_nonneg L
  have h2 : 0 ≤ smZ L * smZ L := by rw [← sq_abs]; exact Int.mul_nonneg (by omega) (by omega)
  have h3 : (L.length : Int) * sqZ L ≤ 1000000 * (1000000 * 85070591730234615865843651857942052864) := Int.mul_le_mul (by omega) (by omega) h0 (by omega)
  omega

/-- What the walk of Spread holds: the words of s in block a. -/
structure Spc (w wr : World) (a : Nat) (s : Int) : Prop where
  up : Up w wr
  s0 : wr.cell? ⟨a, 0, none⟩ = some (.int .u64 (dg3 s 0))
  s1 : wr.cell? ⟨a, 1, none⟩ = some (.int .u64 (dg3 s 1))
  s2 : wr.cell? ⟨a, 2, none⟩ = some (.int .u64 (dg3 s 2))
theorem Spc.keep {w w1 w2 : World} {a : Nat} {s : Int} (h : Spc w w1 a s) (hu : Up w1 w2) : Spc w w2 a s := ⟨h.up.trans hu, hu.keep _ _ _ h.s0, hu.keep _ _ _ h.s1, hu.keep _ _ _ h.s2⟩
theorem skeep {w w1 w2 : World} {a : Nat} {s : Int} (hu : Hid (Up w1 w2)) (h : Spc w w1 a s ∧ w1.cell? ⟨a, 0, none⟩ = some (.int .u64 (dg3 s 0)) ∧ w1.cell? ⟨a, 1, none⟩ = some (.int .u64 (dg3 s 1)) ∧ w1.cell? ⟨a, 2, none⟩ = some (.int .u64 (dg3 s 2))) :
    Spc w w2 a s ∧ w2.cell? ⟨a, 0, none⟩ = some (.int .u64 (dg3 s 0)) ∧ w2.cell? ⟨a, 1, none⟩ = some (.int .u64 (dg3 s 1)) ∧ w2.cell? ⟨a, 2, none⟩ = some (.int .u64 (dg3 s 2)) :=
  ⟨h.1.keep hu.out, hu.out.keep _ _ _ h.1.s0, hu.out.keep _ _ _ h.1.s1, hu.out.keep _ _ _ h.1.s2⟩
theorem sset {w w1 : World} {a b q : Nat} {s : Int} {v : Value} (h : Spc w w1 a s ∧ w1.cell? ⟨a, 0, none⟩ = some (.int .u64 (dg3 s 0)) ∧ w1.cell? ⟨a, 1, none⟩ = some (.int .u64 (dg3 s 1)) ∧ w1.cell? ⟨a, 2, none⟩ = some (.int .u64 (dg3 s 2))) (hb : w.heap.size ≤ b) (ha : b ≠ a) :
    Spc w (w1.setCell ⟨b, q, none⟩ v) a s ∧ (w1.setCell ⟨b, q, none⟩ v).cell? ⟨a, 0, none⟩ = some (.int .u64 (dg3 s 0)) ∧ (w1.setCell ⟨b, q, none⟩ v).cell? ⟨a, 1, none⟩ = some (.int .u64 (dg3 s 1)) ∧ (w1.setCell ⟨b, q, none⟩ v).cell? ⟨a, 2, none⟩ = some (.int .u64 (dg3 s 2)) := by
  have h0 := (cell_far (p := ⟨b, q, none⟩) (v := v) (show b ≠ a from ha)).trans h.1.s0
  have h1 := (cell_far (p := ⟨b, q, none⟩) (v := v) (show b ≠ a from ha)).trans h.1.s1
  have h2 := (cell_far (p := ⟨b, q, none⟩) (v := v) (show b ≠ a from ha)).trans h.1.s2
  exact ⟨⟨h.1.up.setCell hb _, h0, h1, h2⟩, h0, h1, h2⟩

/-- What Spread returns. -/
def sprN (L : List It) : Int := if L = [] then 0 else quoN (dvZ L) L.length
def sprD (L : List It) : Int := if L = [] then 1 else quoD (dvZ L) L.length
def sprB (L : List It) : Bool := if L = [] then true else quoB (dvZ L) L.length
set_option maxHeartbeats 8000000 in
set_option maxRecDepth 100000 in
theorem spread_up (n k : Nat) (A : Option Addr) (L : List It) (hn : n ≤ 1000000) (hI : InI L) (w : World) (hS : Sl w A n L) :
    Calls Try.prog 24 #[.slice A n k] w fun e w' => e = gotR (sprN L) (sprD L) (sprB L) ∧ Up w w' := by
  by_cases h0 : n = 0
  · subst h0
    have : L = [] := List.length_eq_zero_iff.1 hS.1
    unfold sprN sprD sprB
    rw [if_pos this, if_pos this, if_pos this]
    have KO := Lib.hid (ofr_up 0)
    clear hS this hI
    go_enter Try.func24, Try.ntmps24
    go_wp2_with fail
    refine (KO.out _).mono ?_
    rintro e w1 ⟨rfl, hu1⟩
    have r0 := hu1.keep w.heap.size 0 (.int .i64 0) (by simp [go_sem])
    have r1 := hu1.keep w.heap.size 1 (.int .i64 0) (by simp [go_sem])
    have HU : Hid (Up w w1) := Lib.hid (by repeat (first | exact Up.refl _ | (refine Up.trans ?_ (hu1); skip) | refine Up.alloc ?_ _ _ | refine Up.setCell ?_ (by first | (simp; done) | (simp; omega) | omega) _ | refine Up.drewN ?_ _ | refine Up.drew ?_))
    have z0 := HU.out.ownGe (Nat.le_refl w.heap.size) 0
    have z1 := HU.out.ownGe (Nat.le_refl w.heap.size) 1
    clear hu1
    go_wp2_with fail
    refine bodyPost_ret (v := .tuple #[.agg #[.int .i64 0, .int .i64 1], .bool true]) (by simp [results, Try.results24, go_sem, r0, r1]) rfl ⟨?_, ?_⟩
    · rfl
    · ((repeat (first | (with_reducible exact Up.refl _) | (with_reducible exact HU.out) | (with_reducible refine Up.alloc ?_ _ _) | (with_reducible refine Up.setCell ?_ ?_ _) | (with_reducible refine Up.drewN ?_ _) | (with_reducible refine Up.drew ?_))); all_goals (first | (simp; done) | (simp; omega) | omega))
  have hl := hS.1
  have hne : ¬ L = [] := fun h => h0 (by rw [← hl, h]; rfl)
  unfold sprN sprD sprB
  rw [if_neg hne, if_neg hne, if_neg hne]
  have HS := Lib.hid hS
  have hdn := dvZ_nonneg L
  have hdl := dvZ_le hI (by omega)
  have hq0 := sqZ_nonneg L
  have e := smZ_eq L
  have hp := posZ_le hI
  have hq := negZ_le hI
  have h2 : In2 ((smZ L).natAbs : Int) := ⟨by omega, by omega⟩
  have K1 := Lib.hid (fun W (h : Up w W) => total_up n k A L hn hI W (hS.up h))
  have KQ := Lib.hid (fun W (h : Up w W) => squares_up n k A L hn hI W (hS.up h))
  have KS := Lib.hid (fun W => wordsOf_v ((smZ L).natAbs : Int) h2 W)
  have hwn : In2 (n : Int) := ⟨by omega, by omega⟩
  have KO := Lib.hid (fun W => of_up (n : Int) W)
  have KW := Lib.hid (fun W => wordsOf_v (n : Int) hwn W)
  rw [show hiZ (n : Int) = 0 by unfold hiZ; omega, show loZ (n : Int) = n by unfold loZ; omega] at KW
  have KX := Lib.hid (fun W => times3_v (n : Int) (sqZ L) W)
  have KY := Lib.hid (fun W => times3_v ((smZ L).natAbs : Int) ((smZ L).natAbs : Int) W)
  rw [sq_abs] at KY
  have KM := Lib.hid (fun W => minus_v ((n : Int) * sqZ L) (smZ L * smZ L) W)
  have ed : (n : Int) * sqZ L - smZ L * smZ L = dvZ L := by unfold dvZ; rw [hl]
  rw [ed] at KM
  have KD := Lib.hid (fun W => equot_v (dvZ L) (n : Int) hdn hdl (by omega) (by omega) W)
  rw [hl]
  unfold gotR at KD
  unfold gotR
  generalize quoN (dvZ L) (n : Int) = x at *
  generalize quoD (dvZ L) (n : Int) = y at *
  generalize quoB (dvZ L) (n : Int) = z at *
  unfold w3 at KQ KS KW KX KY KM KD
  unfold got2 at K1
  generalize ((smZ L).natAbs : Int) = s at *
  generalize decide (smZ L < 0) = sb at *
  generalize smZ L * smZ L = ss at *
  generalize dvZ L = dv at *
  generalize (n : Int) * sqZ L = nq at *
  generalize sqZ L = qq at *
  have t0 : ((n : Int) == 0) = false := by simp; omega
  have wn : IntKind.u64.wrap (n : Int) = n := by rw [IntKind.wrap_u64]; omega
  clear hS hI hne hdn hdl hq0 e hp hq h2 hwn ed hl h0
  go_enter Try.func24, Try.ntmps24
  go_wp2_with fail
  refine (K1.out _ (by repeat (first | exact Up.refl _ | refine Up.alloc ?_ _ _ | refine Up.setCell ?_ (by first | (simp; done) | (simp; omega) | omega) _ | refine Up.drewN ?_ _ | refine Up.drew ?_))).mono ?_
  rintro e w1 ⟨rfl, hu1⟩
  have r0 := hu1.keep w.heap.size 0 (.int .i64 0) (by simp [go_sem])
  have r1 := hu1.keep w.heap.size 1 (.int .i64 0) (by simp [go_sem])
  have HU1 : Hid (Up w w1) := Lib.hid (by repeat (first | exact Up.refl _ | (refine Up.trans ?_ (hu1); skip) | refine Up.alloc ?_ _ _ | refine Up.setCell ?_ (by first | (simp; done) | (simp; omega) | omega) _ | refine Up.drewN ?_ _ | refine Up.drew ?_))
  clear hu1
  go_wp2_with fail
  refine (KS.out _).mono ?_
  rintro e w2 ⟨rfl, hu2⟩
  have r0 := hu2.keep w.heap.size 0 _ (((Up.refl w1).alloc _ _).keep _ _ _ r0)
  have r1 := hu2.keep w.heap.size 1 _ (((Up.refl w1).alloc _ _).keep _ _ _ r1)
  have HU2 : Hid (Up w w2) := Lib.hid ((HU1.out.alloc _ _).trans hu2)
  clear hu2
  go_upto_region 6 with fail
  have r0_ := ((Up.refl w2).alloc #[.int .u64 (dg3 s 0), .int .u64 (dg3 s 1), .int .u64 (dg3 s 2)] 80).keep _ _ _ r0
  have r1_ := ((Up.refl w2).alloc #[.int .u64 (dg3 s 0), .int .u64 (dg3 s 1), .int .u64 (dg3 s 2)] 80).keep _ _ _ r1
  have HP : Hid (Spc w (w2.alloc (.cells #[.int .u64 (dg3 s 0), .int .u64 (dg3 s 1), .int .u64 (dg3 s 2)] 80)) w2.heap.size s) := Lib.hid ⟨HU2.out.alloc _ _, by simp [go_sem], by simp [go_sem], by simp [go_sem]⟩
  have la : w.heap.size < w2.heap.size := World.block_lt_of_cell? _ _ r0
  have z0_ := HP.out.up.ownGe (Nat.le_refl w.heap.size) 0
  have z1_ := HP.out.up.ownGe (Nat.le_refl w.heap.size) 1
  clear r0 r1 HU2 HU1
  generalize w2.alloc (.cells #[.int .u64 (dg3 s 0), .int .u64 (dg3 s 1), .int .u64 (dg3 s 2)] 80) = wi at *
  generalize w2.heap.size = a at *
  have c0 := HP.out.s0
  have c1 := HP.out.s1
  have c2 := HP.out.s2
  refine wp_region_held_drew (S := fun w' => Spc w w' a s ∧ w'.cell? ⟨a, 0, none⟩ = some (.int .u64 (dg3 s 0)) ∧ w'.cell? ⟨a, 1, none⟩ = some (.int .u64 (dg3 s 1)) ∧ w'.cell? ⟨a, 2, none⟩ = some (.int .u64 (dg3 s 2))) (by kernel_rfl) ?hB1 (fun hHeld => ?_)
  case hB1 => (first | (with_reducible assumption) | (exact skeep (Lib.hid (Up.refl _).drew) ⟨HP.out, c0, c1, c2⟩) | (exact sset (sset hHeld (Nat.le_refl _) (by omega)) (Nat.le_refl _) (by omega)))
  refine wpAnyH_take (i := 0) (oi := ⟨_, _, _, _, _, _⟩) (v := ?v2) rfl (by kernel_rfl) (by kernel_rfl) (by kernel_rfl) (fun _ _ _ h => h) (Or.inl ⟨by rfl, ?hy2⟩) (by assumption) ?_
  case hy2 => (intro w hSw; (try dsimp only at hSw); go_simp; (try (with_reducible rfl)))
  (try simp only [Act.put, List.setIfInBounds_toArray, List.set_cons_zero, List.set_cons_succ])
  refine wpAnyH_take (i := 3) (oi := ⟨_, _, _, _, _, _⟩) (v := ?v3) rfl (by kernel_rfl) (by kernel_rfl) (by kernel_rfl) (fun _ _ _ h => h) (Or.inl ⟨by rfl, ?hy3⟩) (by assumption) ?_
  case hy3 => (intro w hSw; (try dsimp only at hSw); go_simp; (try (with_reducible rfl)))
  (try simp only [Act.put, List.setIfInBounds_toArray, List.set_cons_zero, List.set_cons_succ])
  refine wpAnyH_take (i := 6) (oi := ⟨_, _, _, _, _, _⟩) (v := ?v4) rfl (by kernel_rfl) (by kernel_rfl) (by kernel_rfl) (fun _ _ _ h => h) (Or.inl ⟨by rfl, ?hy4⟩) (by assumption) ?_
  case hy4 => (intro w hSw; (try dsimp only at hSw); go_simp; (try (with_reducible rfl)))
  (try simp only [Act.put, List.setIfInBounds_toArray, List.set_cons_zero, List.set_cons_succ])
  refine wpAnyH_take (i := 7) (oi := ⟨_, _, _, _, _, _⟩) (v := ?v5) rfl (by kernel_rfl) (by kernel_rfl) (by kernel_rfl) (fun _ _ _ h => h) (Or.inl ⟨by rfl, ?hy5⟩) (by assumption) ?_
  case hy5 => (intro w hSw; (try dsimp only at hSw); go_simp; (try (with_reducible rfl)))
  (try simp only [Act.put, List.setIfInBounds_toArray, List.set_cons_zero, List.set_cons_succ])
  refine wpAnyH_take (i := 10) (oi := ⟨_, _, _, _, _, _⟩) (v := ?v6) rfl (by kernel_rfl) (by kernel_rfl) (by kernel_rfl) (fun _ _ _ h => h) (Or.inl ⟨by rfl, ?hy6⟩) (by assumption) ?_
  case hy6 => (intro w hSw; (try dsimp only at hSw); go_simp; (try (with_reducible rfl)))
  (try simp only [Act.put, List.setIfInBounds_toArray, List.set_cons_zero, List.set_cons_succ])
  refine wpAnyH_ready (rs := [1]) (by kernel_rfl) (by simp) ?_
  refine AllReadyH.cons (o := ⟨_, _, _, _, _, _⟩) rfl (fun K hK => ?_) AllReadyH.nil
  go_simp
  (go_at_call 51; (with_reducible refine (KO.out _).mono ?_); rintro e w1 ⟨rfl, hu1⟩; have HU1 := Lib.hid hu1; have hS1 := skeep (Lib.hid hu1) hHeld; have r0_1 := hu1.keep _ _ _ r0_; have r1_1 := hu1.keep _ _ _ r1_; have z0_1 := (hu1.cells.2 _).trans z0_; have z1_1 := (hu1.cells.2 _).trans z1_; clear hu1; (try unfold gotR))
  (try go_wp2_with fail)
  refine hK.out _ _ ?hB7 (fun hHeld => ?_)
  case hB7 => (first | (with_reducible assumption) | (exact skeep (Lib.hid (Up.refl _).drew) ⟨HP.out, c0, c1, c2⟩) | (exact sset (sset hHeld (Nat.le_refl _) (by omega)) (Nat.le_refl _) (by omega)))
  clear hK K
  (try simp only [Act.put, List.setIfInBounds_toArray, List.set_cons_zero, List.set_cons_succ])
  refine wpAnyH_ready (rs := [2]) (by kernel_rfl) (by simp) ?_
  refine AllReadyH.cons (o := ⟨_, _, _, _, _, _⟩) rfl (fun K hK => ?_) AllReadyH.nil
  go_simp
  (go_at_call 47; (with_reducible refine (KW.out _).mono ?_); rintro e w2 ⟨rfl, hu2⟩; have HU2 := Lib.hid hu2; have hS2 := skeep (Lib.hid hu2) hHeld; have r0_2 := hu2.keep _ _ _ r0_1; have r1_2 := hu2.keep _ _ _ r1_1; have z0_2 := (hu2.cells.2 _).trans z0_1; have z1_2 := (hu2.cells.2 _).trans z1_1; clear hu2; (try unfold gotR))
  (try go_wp2_with fail)
  refine hK.out _ _ ?hB8 (fun hHeld => ?_)
  case hB8 => (first | (with_reducible assumption) | (exact skeep (Lib.hid (Up.refl _).drew) ⟨HP.out, c0, c1, c2⟩) | (exact sset (sset hHeld (Nat.le_refl _) (by omega)) (Nat.le_refl _) (by omega)))
  clear hK K
  (try simp only [Act.put, List.setIfInBounds_toArray, List.set_cons_zero, List.set_cons_succ])
  refine wpAnyH_ready (rs := [4]) (by kernel_rfl) (by simp) ?_
  refine AllReadyH.cons (o := ⟨_, _, _, _, _, _⟩) rfl (fun K hK => ?_) AllReadyH.nil
  go_simp
  (go_at_call 52; (with_reducible refine (KQ.out _ hHeld.1.up).mono ?_); rintro e w3 ⟨rfl, hu3⟩; have HU3 := Lib.hid hu3; have hS3 := skeep (Lib.hid hu3) hHeld; have r0_3 := hu3.keep _ _ _ r0_2; have r1_3 := hu3.keep _ _ _ r1_2; have z0_3 := (hu3.cells.2 _).trans z0_2; have z1_3 := (hu3.cells.2 _).trans z1_2; clear hu3; (try unfold gotR))
  (try go_wp2_with fail)
  refine hK.out _ _ ?hB9 (fun hHeld => ?_)
  case hB9 => (first | (with_reducible assumption) | (exact skeep (Lib.hid (Up.refl _).drew) ⟨HP.out, c0, c1, c2⟩) | (exact sset (sset hHeld (Nat.le_refl _) (by omega)) (Nat.le_refl _) (by omega)))
  clear hK K
  (try simp only [Act.put, List.setIfInBounds_toArray, List.set_cons_zero, List.set_cons_succ])
  refine wpAnyH_ready (rs := [5]) (by kernel_rfl) (by simp) ?_
  refine AllReadyH.cons (o := ⟨_, _, _, _, _, _⟩) rfl (fun K hK => ?_) AllReadyH.nil
  go_simp
  (go_at_call 50; (with_reducible refine (KX.out _).mono ?_); rintro e w4 ⟨rfl, hu4⟩; have HU4 := Lib.hid hu4; have hS4 := skeep (Lib.hid hu4) hHeld; have r0_4 := hu4.keep _ _ _ r0_3; have r1_4 := hu4.keep _ _ _ r1_3; have z0_4 := (hu4.cells.2 _).trans z0_3; have z1_4 := (hu4.cells.2 _).trans z1_3; clear hu4; (try unfold gotR))
  (try go_wp2_with fail)
  refine hK.out _ _ ?hB10 (fun hHeld => ?_)
  case hB10 => (first | (with_reducible assumption) | (exact skeep (Lib.hid (Up.refl _).drew) ⟨HP.out, c0, c1, c2⟩) | (exact sset (sset hHeld (Nat.le_refl _) (by omega)) (Nat.le_refl _) (by omega)))
  clear hK K
  (try simp only [Act.put, List.setIfInBounds_toArray, List.set_cons_zero, List.set_cons_succ])
  refine wpAnyH_ready (rs := [8]) (by kernel_rfl) (by simp) ?_
  refine AllReadyH.cons (o := ⟨_, _, _, _, _, _⟩) rfl (fun K hK => ?_) AllReadyH.nil
  go_simp
  (go_at_call 50; (with_reducible refine (KY.out _).mono ?_); rintro e w5 ⟨rfl, hu5⟩; have HU5 := Lib.hid hu5; have hS5 := skeep (Lib.hid hu5) hHeld; have r0_5 := hu5.keep _ _ _ r0_4; have r1_5 := hu5.keep _ _ _ r1_4; have z0_5 := (hu5.cells.2 _).trans z0_4; have z1_5 := (hu5.cells.2 _).trans z1_4; clear hu5; (try unfold gotR))
  (try go_wp2_with fail)
  refine hK.out _ _ ?hB11 (fun hHeld => ?_)
  case hB11 => (first | (with_reducible assumption) | (exact skeep (Lib.hid (Up.refl _).drew) ⟨HP.out, c0, c1, c2⟩) | (exact sset (sset hHeld (Nat.le_refl _) (by omega)) (Nat.le_refl _) (by omega)))
  clear hK K
  (try simp only [Act.put, List.setIfInBounds_toArray, List.set_cons_zero, List.set_cons_succ])
  refine wpAnyH_ready (rs := [9]) (by kernel_rfl) (by simp) ?_
  refine AllReadyH.cons (o := ⟨_, _, _, _, _, _⟩) rfl (fun K hK => ?_) AllReadyH.nil
  go_simp
  (go_at_call 49; (with_reducible refine (KM.out _).mono ?_); rintro e w6 ⟨rfl, hu6⟩; have HU6 := Lib.hid hu6; have hS6 := skeep (Lib.hid hu6) hHeld; have r0_6 := hu6.keep _ _ _ r0_5; have r1_6 := hu6.keep _ _ _ r1_5; have z0_6 := (hu6.cells.2 _).trans z0_5; have z1_6 := (hu6.cells.2 _).trans z1_5; clear hu6; (try unfold gotR))
  (try go_wp2_with fail)
  refine hK.out _ _ ?hB12 (fun hHeld => ?_)
  case hB12 => (first | (with_reducible assumption) | (exact skeep (Lib.hid (Up.refl _).drew) ⟨HP.out, c0, c1, c2⟩) | (exact sset (sset hHeld (Nat.le_refl _) (by omega)) (Nat.le_refl _) (by omega)))
  clear hK K
  (try simp only [Act.put, List.setIfInBounds_toArray, List.set_cons_zero, List.set_cons_succ])
  refine wpAnyH_ready (rs := [11]) (by kernel_rfl) (by simp) ?_
  refine AllReadyH.cons (o := ⟨_, _, _, _, _, _⟩) rfl (fun K hK => ?_) AllReadyH.nil
  go_simp
  (go_at_call 48; (with_reducible refine (KD.out _).mono ?_); rintro e w7 ⟨rfl, hu7⟩; have HU7 := Lib.hid hu7; have hS7 := skeep (Lib.hid hu7) hHeld; have r0_7 := hu7.keep _ _ _ r0_6; have r1_7 := hu7.keep _ _ _ r1_6; have z0_7 := (hu7.cells.2 _).trans z0_6; have z1_7 := (hu7.cells.2 _).trans z1_6; clear hu7; (try unfold gotR))
  (try go_wp2_with fail)
  refine hK.out _ _ ?hB13 (fun hHeld => ?_)
  case hB13 => (first | (with_reducible assumption) | (exact skeep (Lib.hid (Up.refl _).drew) ⟨HP.out, c0, c1, c2⟩) | (exact sset (sset hHeld (Nat.le_refl _) (by omega)) (Nat.le_refl _) (by omega)))
  clear hK K
  (try simp only [Act.put, List.setIfInBounds_toArray, List.set_cons_zero, List.set_cons_succ])
  refine wpAnyH_take (i := 12) (oi := ⟨_, _, _, _, _, _⟩) (v := ?v14) rfl (by kernel_rfl) (by kernel_rfl) (by kernel_rfl) (fun _ _ _ h => h) (Or.inl ⟨by rfl, ?hy14⟩) (by assumption) ?_
  case hy14 => (intro w hSw; (try dsimp only at hSw); go_simp; (try (with_reducible rfl)))
  (try simp only [Act.put, List.setIfInBounds_toArray, List.set_cons_zero, List.set_cons_succ])
  refine wpAnyH_take (i := 13) (oi := ⟨_, _, _, _, _, _⟩) (v := ?v15) rfl (by kernel_rfl) (by kernel_rfl) (by kernel_rfl) (fun _ _ _ h => h) (Or.inl ⟨by rfl, ?hy15⟩) (by assumption) ?_
  case hy15 => (intro w hSw; (try dsimp only at hSw); go_simp; (try (with_reducible rfl)))
  (try simp only [Act.put, List.setIfInBounds_toArray, List.set_cons_zero, List.set_cons_succ])
  refine wpAnyH_ready (rs := [14]) (by kernel_rfl) (by simp) ?_
  refine AllReadyH.cons (o := ⟨_, _, _, _, _, _⟩) rfl (fun K hK => ?_) AllReadyH.nil
  go_simp
  refine hK.out _ _ ?hB16 (fun hHeld => ?_)
  case hB16 => (first | (with_reducible assumption) | (exact skeep (Lib.hid (Up.refl _).drew) ⟨HP.out, c0, c1, c2⟩) | (exact sset (sset hHeld (Nat.le_refl _) (by omega)) (Nat.le_refl _) (by omega)))
  clear hK K
  (try simp only [Act.put, List.setIfInBounds_toArray, List.set_cons_zero, List.set_cons_succ])
  refine wpAnyH_take (i := 15) (oi := ⟨_, _, _, _, _, _⟩) (v := ?v17) rfl (by kernel_rfl) (by kernel_rfl) (by kernel_rfl) (fun _ _ _ h => h) (Or.inl ⟨by rfl, ?hy17⟩) (by assumption) ?_
  case hy17 => (intro w hSw; (try dsimp only at hSw); go_simp; (try (with_reducible rfl)))
  (try simp only [Act.put, List.setIfInBounds_toArray, List.set_cons_zero, List.set_cons_succ])
  refine wpAnyH_done (by kernel_rfl) ?_ _
  go_wp2_with fail
  refine bodyPost_ret (v := .tuple #[.agg #[.int .i64 x, .int .i64 y], .bool z]) (by simp [results, Try.results24, go_sem, r0_7, r1_7]) rfl ⟨?_, ?_⟩
  · rfl
  · ((repeat (first | (with_reducible exact Up.refl _) | (with_reducible exact hS7.1.up) | (with_reducible refine Up.alloc ?_ _ _) | (with_reducible refine Up.setCell ?_ ?_ _) | (with_reducible refine Up.drewN ?_ _) | (with_reducible refine Up.drew ?_))); all_goals (first | (simp; done) | (simp; omega) | omega))
end Go.Proofs.Ytflahclphdlolaa

/- The numbers of the answers of package recent: what each question is answered with, and that all of it fits. -/
namespace Go.Proofs.Ytflahclphdlolaa
open Go.RowKit

def smallI (L : List It) : Prop := ∀ x ∈ L, -4096 ≤ x.2 ∧ x.2 ≤ 4096
theorem smallI.tail {x : It} {L : List It} (h : smallI (x :: L)) : smallI L := fun y hy => h y (List.mem_cons_of_mem _ hy)
theorem st_small {v c now : Int} {L : List It} (h : stB v c now L = true) : InI L ∧ L.length ≤ 65536 ∧ smallI L := by
  have g := stB_true h
  obtain ⟨m1, m2, m3, m4⟩ := mayB_true g.1
  have ht := tickB_true m1
  have hv := val_iff.1 g.2.2.1
  have ho := ok_iff.1 g.2.2.2
  have hs : smallI L := fun x hx => valueB_true (ho x hx).2
  refine ⟨fun x hx => ?_, by have := g.2.1; omega, hs⟩
  have h1 := hv.2.1 x hx
  have h2 := hs x hx
  unfold In
  exact ⟨⟨by omega, by omega⟩, by omega, by omega⟩
theorem sq4096 {x : Int} (h1 : -4096 ≤ x) (h2 : x ≤ 4096) : 0 ≤ x * x ∧ x * x ≤ 16777216 := by
  have h3 : 0 ≤ (4096 - x) * (4096 + x) := Int.mul_nonneg (by omega) (by omega)
  have h4 : 0 ≤ (x.natAbs : Int) * (x.natAbs : Int) := Int.mul_nonneg (by omega) (by omega)
  rw [sq_abs] at h4
  rw [Int.sub_mul, Int.mul_add, Int.mul_add, Int.mul_comm x 4096] at h3
  exact ⟨h4, by omega⟩
theorem sm_bound {L : List It} (h : smallI L) : -(4096 * (L.length : Int)) ≤ smZ L ∧ smZ L ≤ 4096 * (L.length : Int) := by
  induction L with
  | nil => simp [smZ]
  | cons x L ih =>
    have h1 := h x (List.mem_cons_self ..)
    have h2 := ih h.tail
    have e : smZ (x :: L) = x.2 + smZ L := by simp [smZ]
    rw [e, List.length_cons]
    omega
theorem sq_bound {L : List It} (h : smallI L) : 0 ≤ sqZ L ∧ sqZ L ≤ 16777216 * (L.length : Int) := by
  induction L with
  | nil => simp [sqZ]
  | cons x L ih =>
    have h1 := h x (List.mem_cons_self ..)
    have h2 := ih h.tail
    have h3 := sq4096 h1.1 h1.2
    have e : sqZ (x :: L) = x.2 * x.2 + sqZ L := by simp [sqZ]
    rw [e, List.length_cons]
    omega
theorem dv_bound {L : List It} (h : smallI L) (hl : L.length ≤ 65536) : 0 ≤ dvZ L ∧ dvZ L ≤ 72057594037927936 := by
  refine ⟨dvZ_nonneg L, ?_⟩
  have h1 := sq_bound h
  have h2 : 0 ≤ smZ L * smZ L := by
    have : 0 ≤ ((smZ L).natAbs : Int) * ((smZ L).natAbs : Int) := Int.mul_nonneg (by omega) (by omega)
    rwa [sq_abs] at this
  have h3 : (L.length : Int) * sqZ L ≤ 65536 * 1099511627776 := Int.mul_le_mul (by omega) (by omega) h1.1 (by omega)
  unfold dvZ
  omega
theorem quo_fit {p q : Int} (h0 : 0 ≤ p) (h1 : p ≤ 4611686018427387904) (h2 : 1 ≤ q) (h3 : q ≤ 4611686018427387904) : quoB p q = true := by
  have hg := quoG_pos (p := p) (q := q) (by omega)
  have e1 : quoP p q = p / quoG p q := by unfold quoP; rw [if_neg (by omega)]
  have a1 : 0 ≤ p / quoG p q := Int.ediv_nonneg h0 (by omega)
  have a2 : p / quoG p q ≤ p := Int.ediv_le_self _ h0
  have e2 : quoQ p q = q / quoG p q := by unfold quoQ; rw [show (q.natAbs : Int) = q by omega]
  have b1 : 0 ≤ q / quoG p q := Int.ediv_nonneg (by omega) (by omega)
  have b2 : q / quoG p q ≤ q := Int.ediv_le_self _ (by omega)
  unfold quoB
  rw [e1, e2, fits_yes (show In (p / quoG p q) by unfold In; omega), fits_yes (show In (q / quoG p q) by unfold In; omega), decide_eq_true (show q ≠ 0 by omega)]
  rfl
theorem spr_ok {L : List It} (h : smallI L) (hl : L.length ≤ 65536) : validB (sprN L) (sprD L) = true ∧ In (sprN L) ∧ In (sprD L) ∧ sprB L = true := by
  by_cases he : L = []
  · unfold sprN sprD sprB
    rw [if_pos he, if_pos he, if_pos he]
    exact ⟨by decide, by unfold In; omega, by unfold In; omega, rfl⟩
  · unfold sprN sprD sprB
    rw [if_neg he, if_neg he, if_neg he]
    have h1 := dv_bound h hl
    have h2 : 0 < L.length := List.length_pos_iff.2 he
    have h3 := quo_fit h1.1 (by omega) (show (1 : Int) ≤ L.length by omega) (by omega)
    obtain ⟨_, a, b, d, _⟩ := quo_yes h3
    exact ⟨d, a, b, h3⟩
theorem valid_one (n : Int) : validB n 1 = true := by unfold validB; exact decide_eq_true ⟨Int.le_refl _, by simp⟩
def leV (L : List It) : Int := if L = [] then 0 else leZ (L.getD 0 (0, 0)).2 L
def grV (L : List It) : Int := if L = [] then 0 else grZ (L.getD 0 (0, 0)).2 L
theorem leE_V (L : List It) : leE L = got (leV L) (decide (L ≠ [])) := by
  unfold leE leV
  by_cases h : L = []
  · rw [if_pos h, if_pos h, decide_eq_false (by simp [h])]
  · rw [if_neg h, if_neg h, decide_eq_true h]
theorem grE_V (L : List It) : grE L = got (grV L) (decide (L ≠ [])) := by
  unfold grE grV
  by_cases h : L = []
  · rw [if_pos h, if_pos h, decide_eq_false (by simp [h])]
  · rw [if_neg h, if_neg h, decide_eq_true h]
theorem leZ_in {L : List It} (h : smallI L) : ∀ x, -4096 ≤ x → x ≤ 4096 → -4096 ≤ leZ x L ∧ leZ x L ≤ 4096 := by
  induction L with
  | nil => intro x h1 h2; exact ⟨h1, h2⟩
  | cons y L ih =>
    intro x h1 h2
    have h3 := h y (List.mem_cons_self ..)
    exact ih h.tail (min x y.2) (by omega) (by omega)
theorem grZ_in {L : List It} (h : smallI L) : ∀ x, -4096 ≤ x → x ≤ 4096 → -4096 ≤ grZ x L ∧ grZ x L ≤ 4096 := by
  induction L with
  | nil => intro x h1 h2; exact ⟨h1, h2⟩
  | cons y L ih =>
    intro x h1 h2
    have h3 := h y (List.mem_cons_self ..)
    exact ih h.tail (max x y.2) (by omega) (by omega)
theorem ext_in {L : List It} (h : smallI L) : -4096 ≤ leV L ∧ leV L ≤ 4096 ∧ -4096 ≤ grV L ∧ grV L ≤ 4096 := by
  by_cases he : L = []
  · unfold leV grV
    rw [if_pos he, if_pos he]
    omega
  · unfold leV grV
    rw [if_neg he, if_neg he]
    have h1 := h _ (getD_mem (List.length_pos_iff.2 he))
    have h2 := leZ_in h _ h1.1 h1.2
    have h3 := grZ_in h _ h1.1 h1.2
    omega

/-- What a question is answered with: the number (zero if there is none), the values, the error. -/
def askR (v c now : Int) (L : List It) (o a b : Int) : Int × Int × List Int × Int :=
  if stB v c now L = false then (0, 0, [], 2)
  else if o = 1 then ((L.length : Int), 1, [], 0)
  else if o = 2 then (smZ L, 1, [], 0)
  else if o = 3 then (sqZ L, 1, [], 0)
  else if o = 4 then (grV L - leV L, 1, [], 0)
  else if o = 5 then (sprN L, sprD L, [], 0)
  else if o = 6 then (if L = [] then (0, 0, [], 7) else (0, 0, [leV L, grV L], 0))
  else if o = 7 then ((rkN a L : Int), 1, [], 0)
  else if o = 8 then (if askB a b = false then (0, 0, [], 1) else if (qnO L a b).isSome = true then (0, 0, [(qnO L a b).getD 0], 0) else (0, 0, [], 7))
  else (0, 0, [], 12)
theorem Lo.refl (w : World) : Lo w w := Lo.of_up (Up.refl w)
theorem Lo.frozen9 {W W' : World} (h : Lo W W') (a : Addr) (ha : a.block < W.heap.size) : W'.frozen? a = W.frozen? a := by
  have := h.block a.block ha
  unfold World.frozen?
  rw [this]
theorem Sn.lo {w w' : World} {A : Option Addr} {n : Nat} {L : List Int} (h : Sn w A n L) (hu : Lo w w') : Sn w' A n L := by
  refine ⟨h.1, fun hn => ?_⟩
  obtain ⟨b, o, e, hc⟩ := h.2 hn
  exact ⟨b, o, e, fun j hj => hu.keep _ _ _ (hc j hj)⟩
end Go.Proofs.Ytflahclphdlolaa

/- Exact of package bounds and of its reference for a number in lowest terms; number and integer of package recent, Whole of the reference. -/
namespace Go.Proofs.Ytflahclphdlolaa
open Go.RowKit

theorem Up.set11 {w0 w : World} {p : Nat} {v0 v1 v2 v3 v4 v5 v6 v7 v8 v9 v10 : Value} (h : Up w0 w) (hp : w0.heap.size ≤ p) : Up w0 ((((((((((((w.setCell ⟨p, 0, none⟩ v0).setCell ⟨p, 1, none⟩ v1).setCell ⟨p, 2, none⟩ v2).setCell ⟨p, 3, none⟩ v3).setCell ⟨p, 4, none⟩ v4).setCell ⟨p, 5, none⟩ v5).setCell ⟨p, 6, none⟩ v6).setCell ⟨p, 7, none⟩ v7).setCell ⟨p, 8, none⟩ v8).setCell ⟨p, 9, none⟩ v9).setCell ⟨p, 10, none⟩ v10)) :=
  (((((((((((h.setCell hp _).setCell hp _).setCell hp _).setCell hp _).setCell hp _).setCell hp _).setCell hp _).setCell hp _).setCell hp _).setCell hp _).setCell hp _)
theorem Up.set6 {w0 w : World} {p : Nat} {v0 v1 v2 v3 v4 v5 : Value} (h : Up w0 w) (hp : w0.heap.size ≤ p) : Up w0 (((((((w.setCell ⟨p, 0, none⟩ v0).setCell ⟨p, 1, none⟩ v1).setCell ⟨p, 2, none⟩ v2).setCell ⟨p, 3, none⟩ v3).setCell ⟨p, 4, none⟩ v4).setCell ⟨p, 5, none⟩ v5)) :=
  ((((((h.setCell hp _).setCell hp _).setCell hp _).setCell hp _).setCell hp _).setCell hp _)
theorem Lo.set11 {w0 w : World} {p : Nat} {v0 v1 v2 v3 v4 v5 v6 v7 v8 v9 v10 : Value} (h : Lo w0 w) (hp : w0.heap.size ≤ p) : Lo w0 ((((((((((((w.setCell ⟨p, 0, none⟩ v0).setCell ⟨p, 1, none⟩ v1).setCell ⟨p, 2, none⟩ v2).setCell ⟨p, 3, none⟩ v3).setCell ⟨p, 4, none⟩ v4).setCell ⟨p, 5, none⟩ v5).setCell ⟨p, 6, none⟩ v6).setCell ⟨p, 7, none⟩ v7).setCell ⟨p, 8, none⟩ v8).setCell ⟨p, 9, none⟩ v9).setCell ⟨p, 10, none⟩ v10)) := by
  unfold Lo at *
  exact (((((((((((h.setCell hp _).setCell hp _).setCell hp _).setCell hp _).setCell hp _).setCell hp _).setCell hp _).setCell hp _).setCell hp _).setCell hp _).setCell hp _)
theorem Nw.none_ {w : World} : Nw w none := fun _ _ e => by cases e
theorem Sn.off {w : World} {A : Option Addr} {n p o : Nat} {M : List Int} (h : Sn w A n M) (hn : ∀ b o, A = some ⟨b, o, none⟩ → b ≠ p) (x : Value) : Sn (w.setCell ⟨p, o, none⟩ x) A n M := by
  refine ⟨h.1, fun h0 => ?_⟩
  obtain ⟨b, o, e, hc⟩ := h.2 h0
  exact ⟨b, o, e, fun j hj => (cell_far (fun hp => hn b o e hp.symm)).trans (hc j hj)⟩
theorem Sn.set11 {w : World} {A : Option Addr} {n p : Nat} {M : List Int} {v0 v1 v2 v3 v4 v5 v6 v7 v8 v9 v10 : Value} (h : Sn w A n M) (hp : ∀ b o, A = some ⟨b, o, none⟩ → b ≠ p) : Sn ((((((((((((w.setCell ⟨p, 0, none⟩ v0).setCell ⟨p, 1, none⟩ v1).setCell ⟨p, 2, none⟩ v2).setCell ⟨p, 3, none⟩ v3).setCell ⟨p, 4, none⟩ v4).setCell ⟨p, 5, none⟩ v5).setCell ⟨p, 6, none⟩ v6).setCell ⟨p, 7, none⟩ v7).setCell ⟨p, 8, none⟩ v8).setCell ⟨p, 9, none⟩ v9).setCell ⟨p, 10, none⟩ v10)) A n M :=
  (((((((((((h.off hp _).off hp _).off hp _).off hp _).off hp _).off hp _).off hp _).off hp _).off hp _).off hp _).off hp _)

set_option maxHeartbeats 8000000 in
set_option maxRecDepth 100000 in
theorem exact9_up (n d : Int) (hv : validB n d = true) (hn : In n) (hd : In d) (w : World) :
    Calls Try.prog 81 #[.agg #[.int .i64 n, .int .i64 d]] w fun e w' => e = .returned (.agg #[.int .i64 n, .int .i64 d, .int .i64 n, .int .i64 d, .int .i64 n, .int .i64 d]) ∧ Up w w' := by
  have H1 := Lib.hid (fun W => valid_up n d hn hd W)
  rw [hv] at H1
  clear hn hd hv
  go_enter Try.func81, Try.ntmps81
  go_wp2_with fail
  refine (H1.out _).mono ?_
  rintro e w1 ⟨rfl, hu⟩
  have HU1 := Lib.hid ((((Up.refl w).alloc #[.int .i64 n, .int .i64 d] 46).alloc #[.int .i64 0, .int .i64 0, .int .i64 0, .int .i64 0, .int .i64 0, .int .i64 0] 50).trans hu)
  have c0 := hu.keep (w.heap.size) 0 (.int .i64 n) (by simp [go_sem])
  have c1 := hu.keep (w.heap.size) 1 (.int .i64 d) (by simp [go_sem])
  have r0 := hu.keep (w.heap.size + 1) 0 (.int .i64 0) (by simp [go_sem])
  have r1 := hu.keep (w.heap.size + 1) 1 (.int .i64 0) (by simp [go_sem])
  have r2 := hu.keep (w.heap.size + 1) 2 (.int .i64 0) (by simp [go_sem])
  have r3 := hu.keep (w.heap.size + 1) 3 (.int .i64 0) (by simp [go_sem])
  have r4 := hu.keep (w.heap.size + 1) 4 (.int .i64 0) (by simp [go_sem])
  have r5 := hu.keep (w.heap.size + 1) 5 (.int .i64 0) (by simp [go_sem])
  have z0 := HU1.out.ownGe (g := w.heap.size + 1) (by omega) 0
  have z1 := HU1.out.ownGe (g := w.heap.size + 1) (by omega) 1
  have z2 := HU1.out.ownGe (g := w.heap.size + 1) (by omega) 2
  have z3 := HU1.out.ownGe (g := w.heap.size + 1) (by omega) 3
  have z4 := HU1.out.ownGe (g := w.heap.size + 1) (by omega) 4
  have z5 := HU1.out.ownGe (g := w.heap.size + 1) (by omega) 5
  clear hu
  go_wp2_with fail
  refine bodyPost_ret (v := .agg #[.int .i64 n, .int .i64 d, .int .i64 n, .int .i64 d, .int .i64 n, .int .i64 d]) (by simp [results, Try.results81, go_sem, r0, r1, r2, r3, r4, r5]) rfl ⟨rfl, ?_⟩
  exact HU1.out.set6 (by omega)

set_option maxHeartbeats 8000000 in
set_option maxRecDepth 100000 in
theorem rexact9_up (n d : Int) (hv : validB n d = true) (hn : In n) (hd : In d) (w : World) :
    Calls Try.prog 61 #[.agg #[.int .i64 n, .int .i64 d]] w fun e w' => e = .returned (.agg #[.int .i64 n, .int .i64 d, .int .i64 n, .int .i64 d, .int .i64 n, .int .i64 d]) ∧ Up w w' := by
  have H1 := Lib.hid (fun W => rvalid_up n d hn hd W)
  rw [hv] at H1
  clear hn hd hv
  go_enter Try.func61, Try.ntmps61
  go_wp2_with fail
  refine (H1.out _).mono ?_
  rintro e w1 ⟨rfl, hu⟩
  have HU1 := Lib.hid ((((Up.refl w).alloc #[.int .i64 n, .int .i64 d] 46).alloc #[.int .i64 0, .int .i64 0, .int .i64 0, .int .i64 0, .int .i64 0, .int .i64 0] 50).trans hu)
  have c0 := hu.keep (w.heap.size) 0 (.int .i64 n) (by simp [go_sem])
  have c1 := hu.keep (w.heap.size) 1 (.int .i64 d) (by simp [go_sem])
  have r0 := hu.keep (w.heap.size + 1) 0 (.int .i64 0) (by simp [go_sem])
  have r1 := hu.keep (w.heap.size + 1) 1 (.int .i64 0) (by simp [go_sem])
  have r2 := hu.keep (w.heap.size + 1) 2 (.int .i64 0) (by simp [go_sem])
  have r3 := hu.keep (w.heap.size + 1) 3 (.int .i64 0) (by simp [go_sem])
  have r4 := hu.keep (w.heap.size + 1) 4 (.int .i64 0) (by simp [go_sem])
  have r5 := hu.keep (w.heap.size + 1) 5 (.int .i64 0) (by simp [go_sem])
  have z0 := HU1.out.ownGe (g := w.heap.size + 1) (by omega) 0
  have z1 := HU1.out.ownGe (g := w.heap.size + 1) (by omega) 1
  have z2 := HU1.out.ownGe (g := w.heap.size + 1) (by omega) 2
  have z3 := HU1.out.ownGe (g := w.heap.size + 1) (by omega) 3
  have z4 := HU1.out.ownGe (g := w.heap.size + 1) (by omega) 4
  have z5 := HU1.out.ownGe (g := w.heap.size + 1) (by omega) 5
  clear hu
  go_wp2_with fail
  refine bodyPost_ret (v := .agg #[.int .i64 n, .int .i64 d, .int .i64 n, .int .i64 d, .int .i64 n, .int .i64 d]) (by simp [results, Try.results61, go_sem, r0, r1, r2, r3, r4, r5]) rfl ⟨rfl, ?_⟩
  exact HU1.out.set6 (by omega)

set_option maxHeartbeats 8000000 in
set_option maxRecDepth 100000 in
theorem number_up (n d : Int) (hv : validB n d = true) (hn : In n) (hd : In d) (w : World) :
    Calls Try.prog 57 #[.agg #[.int .i64 n, .int .i64 d]] w fun e w' => e = .returned (.agg #[.int .i64 n, .int .i64 d, .int .i64 n, .int .i64 d, .int .i64 n, .int .i64 d, .slice none 0 0, .int .u64 0, .int .u64 0, .int .u64 0, .int .u64 0]) ∧ Up w w' := by
  have H1 := Lib.hid (fun W => exact9_up n d hv hn hd W)
  clear hn hd hv
  go_enter Try.func57, Try.ntmps57
  go_wp2_with fail
  refine (H1.out _).mono ?_
  rintro e w1 ⟨rfl, hu⟩
  have HU1 := Lib.hid ((((Up.refl w).alloc #[.int .i64 n, .int .i64 d] 46).alloc #[.int .i64 0, .int .i64 0, .int .i64 0, .int .i64 0, .int .i64 0, .int .i64 0, .slice none 0 0, .int .u64 0, .int .u64 0, .int .u64 0, .int .u64 0] 58).trans hu)
  have r0 := hu.keep (w.heap.size + 1) 0 (.int .i64 0) (by simp [go_sem])
  have r1 := hu.keep (w.heap.size + 1) 1 (.int .i64 0) (by simp [go_sem])
  have r2 := hu.keep (w.heap.size + 1) 2 (.int .i64 0) (by simp [go_sem])
  have r3 := hu.keep (w.heap.size + 1) 3 (.int .i64 0) (by simp [go_sem])
  have r4 := hu.keep (w.heap.size + 1) 4 (.int .i64 0) (by simp [go_sem])
  have r5 := hu.keep (w.heap.size + 1) 5 (.int .i64 0) (by simp [go_sem])
  have r6 := hu.keep (w.heap.size + 1) 6 (.slice none 0 0) (by simp [go_sem])
  have r7 := hu.keep (w.heap.size + 1) 7 (.int .u64 0) (by simp [go_sem])
  have r8 := hu.keep (w.heap.size + 1) 8 (.int .u64 0) (by simp [go_sem])
  have r9 := hu.keep (w.heap.size + 1) 9 (.int .u64 0) (by simp [go_sem])
  have r10 := hu.keep (w.heap.size + 1) 10 (.int .u64 0) (by simp [go_sem])
  have z0 := HU1.out.ownGe (g := w.heap.size + 1) (by omega) 0
  have z1 := HU1.out.ownGe (g := w.heap.size + 1) (by omega) 1
  have z2 := HU1.out.ownGe (g := w.heap.size + 1) (by omega) 2
  have z3 := HU1.out.ownGe (g := w.heap.size + 1) (by omega) 3
  have z4 := HU1.out.ownGe (g := w.heap.size + 1) (by omega) 4
  have z5 := HU1.out.ownGe (g := w.heap.size + 1) (by omega) 5
  have z6 := HU1.out.ownGe (g := w.heap.size + 1) (by omega) 6
  have z7 := HU1.out.ownGe (g := w.heap.size + 1) (by omega) 7
  have z8 := HU1.out.ownGe (g := w.heap.size + 1) (by omega) 8
  have z9 := HU1.out.ownGe (g := w.heap.size + 1) (by omega) 9
  have z10 := HU1.out.ownGe (g := w.heap.size + 1) (by omega) 10
  clear hu
  go_wp2_with fail
  refine bodyPost_ret (v := .agg #[.int .i64 n, .int .i64 d, .int .i64 n, .int .i64 d, .int .i64 n, .int .i64 d, .slice none 0 0, .int .u64 0, .int .u64 0, .int .u64 0, .int .u64 0]) (by simp [results, Try.results57, go_sem, r0, r1, r2, r3, r4, r5, r6, r7, r8, r9, r10]) rfl ⟨rfl, ?_⟩
  exact HU1.out.set11 (by omega)

set_option maxHeartbeats 8000000 in
set_option maxRecDepth 100000 in
theorem integer_up (n : Int) (hn : In n) (w : World) :
    Calls Try.prog 53 #[.int .i64 n] w fun e w' => e = .returned (.agg #[.int .i64 n, .int .i64 1, .int .i64 n, .int .i64 1, .int .i64 n, .int .i64 1, .slice none 0 0, .int .u64 0, .int .u64 0, .int .u64 0, .int .u64 0]) ∧ Up w w' := by
  have H1 := Lib.hid (fun W => ofr_up n W)
  have H2 := Lib.hid (fun W => number_up n 1 (valid_one n) hn (by unfold In; omega) W)
  clear hn
  go_enter Try.func53, Try.ntmps53
  go_wp2_with fail
  refine (H1.out _).mono ?_
  rintro e w1 ⟨rfl, hu⟩
  go_wp2_with fail
  refine (H2.out _).mono ?_
  rintro e w2 ⟨rfl, hu2⟩
  have hv := hu.trans hu2
  have HU1 := Lib.hid (((Up.refl w).alloc #[.int .i64 0, .int .i64 0, .int .i64 0, .int .i64 0, .int .i64 0, .int .i64 0, .slice none 0 0, .int .u64 0, .int .u64 0, .int .u64 0, .int .u64 0] 58).trans hv)
  have r0 := hv.keep (w.heap.size) 0 (.int .i64 0) (by simp [go_sem])
  have r1 := hv.keep (w.heap.size) 1 (.int .i64 0) (by simp [go_sem])
  have r2 := hv.keep (w.heap.size) 2 (.int .i64 0) (by simp [go_sem])
  have r3 := hv.keep (w.heap.size) 3 (.int .i64 0) (by simp [go_sem])
  have r4 := hv.keep (w.heap.size) 4 (.int .i64 0) (by simp [go_sem])
  have r5 := hv.keep (w.heap.size) 5 (.int .i64 0) (by simp [go_sem])
  have r6 := hv.keep (w.heap.size) 6 (.slice none 0 0) (by simp [go_sem])
  have r7 := hv.keep (w.heap.size) 7 (.int .u64 0) (by simp [go_sem])
  have r8 := hv.keep (w.heap.size) 8 (.int .u64 0) (by simp [go_sem])
  have r9 := hv.keep (w.heap.size) 9 (.int .u64 0) (by simp [go_sem])
  have r10 := hv.keep (w.heap.size) 10 (.int .u64 0) (by simp [go_sem])
  have z0 := HU1.out.ownGe (g := w.heap.size) (by omega) 0
  have z1 := HU1.out.ownGe (g := w.heap.size) (by omega) 1
  have z2 := HU1.out.ownGe (g := w.heap.size) (by omega) 2
  have z3 := HU1.out.ownGe (g := w.heap.size) (by omega) 3
  have z4 := HU1.out.ownGe (g := w.heap.size) (by omega) 4
  have z5 := HU1.out.ownGe (g := w.heap.size) (by omega) 5
  have z6 := HU1.out.ownGe (g := w.heap.size) (by omega) 6
  have z7 := HU1.out.ownGe (g := w.heap.size) (by omega) 7
  have z8 := HU1.out.ownGe (g := w.heap.size) (by omega) 8
  have z9 := HU1.out.ownGe (g := w.heap.size) (by omega) 9
  have z10 := HU1.out.ownGe (g := w.heap.size) (by omega) 10
  clear hu hu2 hv
  go_wp2_with fail
  refine bodyPost_ret (v := .agg #[.int .i64 n, .int .i64 1, .int .i64 n, .int .i64 1, .int .i64 n, .int .i64 1, .slice none 0 0, .int .u64 0, .int .u64 0, .int .u64 0, .int .u64 0]) (by simp [results, Try.results53, go_sem, r0, r1, r2, r3, r4, r5, r6, r7, r8, r9, r10]) rfl ⟨rfl, ?_⟩
  exact HU1.out.set11 (by omega)

set_option maxHeartbeats 8000000 in
set_option maxRecDepth 100000 in
theorem whole8_up (n : Int) (hn : In n) (w : World) :
    Calls Try.prog 26 #[.int .i64 n] w fun e w' => e = .returned (.agg #[.int .i64 n, .int .i64 1, .int .i64 n, .int .i64 1, .int .i64 n, .int .i64 1]) ∧ Up w w' := by
  have H1 := Lib.hid (fun W => rofr_up n W)
  have H2 := Lib.hid (fun W => rexact9_up n 1 (valid_one n) hn (by unfold In; omega) W)
  clear hn
  go_enter Try.func26, Try.ntmps26
  go_wp2_with fail
  refine (H1.out _).mono ?_
  rintro e w1 ⟨rfl, hu⟩
  go_wp2_with fail
  refine (H2.out _).mono ?_
  rintro e w2 ⟨rfl, hu2⟩
  have hv := hu.trans hu2
  have HU1 := Lib.hid (((Up.refl w).alloc #[.int .i64 0, .int .i64 0, .int .i64 0, .int .i64 0, .int .i64 0, .int .i64 0] 50).trans hv)
  have r0 := hv.keep (w.heap.size) 0 (.int .i64 0) (by simp [go_sem])
  have r1 := hv.keep (w.heap.size) 1 (.int .i64 0) (by simp [go_sem])
  have r2 := hv.keep (w.heap.size) 2 (.int .i64 0) (by simp [go_sem])
  have r3 := hv.keep (w.heap.size) 3 (.int .i64 0) (by simp [go_sem])
  have r4 := hv.keep (w.heap.size) 4 (.int .i64 0) (by simp [go_sem])
  have r5 := hv.keep (w.heap.size) 5 (.int .i64 0) (by simp [go_sem])
  have z0 := HU1.out.ownGe (g := w.heap.size) (by omega) 0
  have z1 := HU1.out.ownGe (g := w.heap.size) (by omega) 1
  have z2 := HU1.out.ownGe (g := w.heap.size) (by omega) 2
  have z3 := HU1.out.ownGe (g := w.heap.size) (by omega) 3
  have z4 := HU1.out.ownGe (g := w.heap.size) (by omega) 4
  have z5 := HU1.out.ownGe (g := w.heap.size) (by omega) 5
  clear hu hu2 hv
  go_wp2_with fail
  refine bodyPost_ret (v := .agg #[.int .i64 n, .int .i64 1, .int .i64 n, .int .i64 1, .int .i64 n, .int .i64 1]) (by simp [results, Try.results26, go_sem, r0, r1, r2, r3, r4, r5]) rfl ⟨rfl, ?_⟩
  exact HU1.out.set6 (by omega)

set_option maxHeartbeats 8000000 in
set_option maxRecDepth 100000 in
theorem distance_up (n k : Nat) (A : Option Addr) (L : List It) (hn : n ≤ 1000000) (hs : smallI L) (w : World) (hS : Sl w A n L) :
    Calls Try.prog 56 #[.slice A n k] w fun e w' => e = .returned (.int .i64 (grV L - leV L)) ∧ Up w w' := by
  have K1 := Lib.hid (fun W (h : Sl W A n L) => least_up n k A L hn W h)
  have K2 := Lib.hid (fun W (h : Sl W A n L) => greatest_up n k A L hn W h)
  rw [leE_V] at K1
  rw [grE_V] at K2
  have HS := Lib.hid hS
  obtain ⟨x1, x2, x3, x4⟩ := ext_in hs
  generalize leV L = x at *
  generalize grV L = y at *
  clear hS
  unfold got at K1 K2
  go_enter Try.func56, Try.ntmps56
  go_wp2_with fail
  refine (K1.out _ HS.out).mono ?_
  rintro e w1 ⟨rfl, hu⟩
  go_wp2_with fail
  refine (K2.out _ (HS.out.up hu)).mono ?_
  rintro e w2 ⟨rfl, hu2⟩
  have HU := Lib.hid (hu.trans hu2)
  clear hu hu2
  go_wp2_with fail
  go_ret
  exact ⟨rfl, HU.out⟩
end Go.Proofs.Ytflahclphdlolaa

/- extremes and quantile of package recent. -/
namespace Go.Proofs.Ytflahclphdlolaa
open Go.RowKit

set_option maxHeartbeats 8000000 in
set_option maxRecDepth 100000 in
theorem extremes_up (n k : Nat) (A : Option Addr) (L : List It) (hn : n ≤ 1000000) (w : World) (hS : Sl w A n L) {N D e0 : Int} {Vs : List Int} (h : (if L = [] then ((0 : Int), (0 : Int), ([] : List Int), (7 : Int)) else (0, 0, [leV L, grV L], 0)) = (N, D, Vs, e0)) :
    Calls Try.prog 58 #[.slice A n k] w fun e w' => ∃ A' k', e = .returned (.tuple #[.agg #[.int .i64 N, .int .i64 D, .int .i64 N, .int .i64 D, .int .i64 N, .int .i64 D, .slice A' Vs.length k', .int .u64 0, .int .u64 0, .int .u64 0, .int .u64 0], .int .i64 e0]) ∧ Sn w' A' Vs.length Vs ∧ Nw w A' ∧ Up w w' := by
  have K1 := Lib.hid (fun W (h : Sl W A n L) => least_up n k A L hn W h)
  have K2 := Lib.hid (fun W (h : Sl W A n L) => greatest_up n k A L hn W h)
  rw [leE_V] at K1
  rw [grE_V] at K2
  have HS := Lib.hid hS
  by_cases he : L = []
  · rw [if_pos he] at h
    rw [decide_eq_false (show ¬ L ≠ [] by simp [he])] at K1
    cases h
    generalize leV L = x at *
    clear hS he K2
    unfold got at K1
    go_enter Try.func58, Try.ntmps58
    go_wp2_with fail
    refine (K1.out _ (HS.out.up ((Up.refl _).alloc _ _))).mono ?_
    rintro e w1 ⟨rfl, hu⟩
    have HU1 := Lib.hid (((Up.refl w).alloc #[.int .i64 0, .int .i64 0, .int .i64 0, .int .i64 0, .int .i64 0, .int .i64 0, .slice none 0 0, .int .u64 0, .int .u64 0, .int .u64 0, .int .u64 0] 58).trans hu)
    have r0 := hu.keep (w.heap.size) 0 (.int .i64 0) (by simp [go_sem])
    have r1 := hu.keep (w.heap.size) 1 (.int .i64 0) (by simp [go_sem])
    have r2 := hu.keep (w.heap.size) 2 (.int .i64 0) (by simp [go_sem])
    have r3 := hu.keep (w.heap.size) 3 (.int .i64 0) (by simp [go_sem])
    have r4 := hu.keep (w.heap.size) 4 (.int .i64 0) (by simp [go_sem])
    have r5 := hu.keep (w.heap.size) 5 (.int .i64 0) (by simp [go_sem])
    have r6 := hu.keep (w.heap.size) 6 (.slice none 0 0) (by simp [go_sem])
    have r7 := hu.keep (w.heap.size) 7 (.int .u64 0) (by simp [go_sem])
    have r8 := hu.keep (w.heap.size) 8 (.int .u64 0) (by simp [go_sem])
    have r9 := hu.keep (w.heap.size) 9 (.int .u64 0) (by simp [go_sem])
    have r10 := hu.keep (w.heap.size) 10 (.int .u64 0) (by simp [go_sem])
    have z0 := HU1.out.ownGe (g := w.heap.size) (by omega) 0
    have z1 := HU1.out.ownGe (g := w.heap.size) (by omega) 1
    have z2 := HU1.out.ownGe (g := w.heap.size) (by omega) 2
    have z3 := HU1.out.ownGe (g := w.heap.size) (by omega) 3
    have z4 := HU1.out.ownGe (g := w.heap.size) (by omega) 4
    have z5 := HU1.out.ownGe (g := w.heap.size) (by omega) 5
    have z6 := HU1.out.ownGe (g := w.heap.size) (by omega) 6
    have z7 := HU1.out.ownGe (g := w.heap.size) (by omega) 7
    have z8 := HU1.out.ownGe (g := w.heap.size) (by omega) 8
    have z9 := HU1.out.ownGe (g := w.heap.size) (by omega) 9
    have z10 := HU1.out.ownGe (g := w.heap.size) (by omega) 10
    clear hu
    go_wp2_with fail
    refine bodyPost_ret (v := .tuple #[.agg #[.int .i64 0, .int .i64 0, .int .i64 0, .int .i64 0, .int .i64 0, .int .i64 0, .slice none 0 0, .int .u64 0, .int .u64 0, .int .u64 0, .int .u64 0], .int .i64 7]) (by simp [results, Try.results58, go_sem, r0, r1, r2, r3, r4, r5, r6, r7, r8, r9, r10]) rfl ⟨none, 0, rfl, Sn.none_, Nw.none_, ?_⟩
    exact HU1.out.set11 (Nat.le_refl _)
  · rw [if_neg he] at h
    rw [decide_eq_true (show L ≠ [] from he)] at K1 K2
    cases h
    generalize leV L = x at *
    generalize grV L = y at *
    clear hS he
    unfold got at K1 K2
    go_enter Try.func58, Try.ntmps58
    go_wp2_with fail
    refine (K1.out _ (HS.out.up ((Up.refl _).alloc _ _))).mono ?_
    rintro e w1 ⟨rfl, hu⟩
    have HU1 := Lib.hid (((Up.refl w).alloc #[.int .i64 0, .int .i64 0, .int .i64 0, .int .i64 0, .int .i64 0, .int .i64 0, .slice none 0 0, .int .u64 0, .int .u64 0, .int .u64 0, .int .u64 0] 58).trans hu)
    go_wp2_with fail
    refine (K2.out _ (HS.out.up HU1.out)).mono ?_
    rintro e w2 ⟨rfl, hu2⟩
    have hv := hu.trans hu2
    have HU2 := Lib.hid (HU1.out.trans hu2)
    have r0 := hv.keep (w.heap.size) 0 (.int .i64 0) (by simp [go_sem])
    have r1 := hv.keep (w.heap.size) 1 (.int .i64 0) (by simp [go_sem])
    have r2 := hv.keep (w.heap.size) 2 (.int .i64 0) (by simp [go_sem])
    have r3 := hv.keep (w.heap.size) 3 (.int .i64 0) (by simp [go_sem])
    have r4 := hv.keep (w.heap.size) 4 (.int .i64 0) (by simp [go_sem])
    have r5 := hv.keep (w.heap.size) 5 (.int .i64 0) (by simp [go_sem])
    have r6 := hv.keep (w.heap.size) 6 (.slice none 0 0) (by simp [go_sem])
    have r7 := hv.keep (w.heap.size) 7 (.int .u64 0) (by simp [go_sem])
    have r8 := hv.keep (w.heap.size) 8 (.int .u64 0) (by simp [go_sem])
    have r9 := hv.keep (w.heap.size) 9 (.int .u64 0) (by simp [go_sem])
    have r10 := hv.keep (w.heap.size) 10 (.int .u64 0) (by simp [go_sem])
    have z0 := HU2.out.ownGe (g := w.heap.size) (by omega) 0
    have z1 := HU2.out.ownGe (g := w.heap.size) (by omega) 1
    have z2 := HU2.out.ownGe (g := w.heap.size) (by omega) 2
    have z3 := HU2.out.ownGe (g := w.heap.size) (by omega) 3
    have z4 := HU2.out.ownGe (g := w.heap.size) (by omega) 4
    have z5 := HU2.out.ownGe (g := w.heap.size) (by omega) 5
    have z6 := HU2.out.ownGe (g := w.heap.size) (by omega) 6
    have z7 := HU2.out.ownGe (g := w.heap.size) (by omega) 7
    have z8 := HU2.out.ownGe (g := w.heap.size) (by omega) 8
    have z9 := HU2.out.ownGe (g := w.heap.size) (by omega) 9
    have z10 := HU2.out.ownGe (g := w.heap.size) (by omega) 10
    have hlt : w.heap.size < w2.heap.size := World.block_lt_of_cell? _ _ r0
    clear hu hu2 hv
    go_wp2_with fail
    refine bodyPost_ret (v := .tuple #[.agg #[.int .i64 0, .int .i64 0, .int .i64 0, .int .i64 0, .int .i64 0, .int .i64 0, .slice (some ⟨w2.heap.size, 0, none⟩) 2 2, .int .u64 0, .int .u64 0, .int .u64 0, .int .u64 0], .int .i64 0]) (by simp [results, Try.results58, go_sem, r0, r1, r2, r3, r4, r5, r6, r7, r8, r9, r10, hlt]) rfl ⟨some ⟨w2.heap.size, 0, none⟩, 2, rfl, ?_, fun b o e => by cases e; exact HU2.out.size, ?_⟩
    · exact (Bn.new _ [x, y] _ (by simp [World.setCell])).sn rfl
    · exact (HU2.out.set11 (Nat.le_refl _)).alloc _ _

set_option maxHeartbeats 8000000 in
set_option maxRecDepth 100000 in
theorem quantile9_lo (n k : Nat) (A : Option Addr) (L : List It) (a b : Int) (hb : b ≤ 9223372036854775807) (hn : n ≤ 1000000) (w : World) (hS : Sl w A n L) {N D e0 : Int} {Vs : List Int}
    (h : (if askB a b = false then ((0 : Int), (0 : Int), ([] : List Int), (1 : Int)) else if (qnO L a b).isSome = true then (0, 0, [(qnO L a b).getD 0], 0) else (0, 0, [], 7)) = (N, D, Vs, e0)) :
    Calls Try.prog 60 #[.slice A n k, .int .i64 a, .int .i64 b] w fun e w' => ∃ A' k', e = .returned (.tuple #[.agg #[.int .i64 N, .int .i64 D, .int .i64 N, .int .i64 D, .int .i64 N, .int .i64 D, .slice A' Vs.length k', .int .u64 0, .int .u64 0, .int .u64 0, .int .u64 0], .int .i64 e0]) ∧ Sn w' A' Vs.length Vs ∧ Nw w A' ∧ Lo w w' := by
  have K1 := Lib.hid (fun W (h : Sl W A n L) => quantile_lo n k A L a b hb hn W h)
  have HS := Lib.hid hS
  by_cases ha : askB a b = false
  · rw [if_pos ha] at h
    cases h
    have h3 : b < 1 ∨ a < 0 ∨ b < a := by have := of_decide_eq_false ha; omega
    clear K1 hS ha
    by_cases h1 : b < 1
    · have t1 : decide (b < 1) = true := decide_eq_true h1
      clear h1 h3
      go_enter Try.func60, Try.ntmps60
      go_wp2_with fail
      refine bodyPost_ret (v := .tuple #[.agg #[.int .i64 0, .int .i64 0, .int .i64 0, .int .i64 0, .int .i64 0, .int .i64 0, .slice none 0 0, .int .u64 0, .int .u64 0, .int .u64 0, .int .u64 0], .int .i64 1]) (by simp [results, Try.results60, go_sem]) rfl ⟨none, 0, rfl, Sn.none_, Nw.none_, ?_⟩
      exact Lo.of_up (by repeat (first | exact Up.refl _ | refine Up.alloc ?_ _ _ | refine Up.setCell ?_ (by first | (simp; done) | (simp; omega) | omega) _ | refine Up.drewN ?_ _ | refine Up.drew ?_))
    have t1 : decide (b < 1) = false := decide_eq_false h1
    by_cases h2 : a < 0
    · have t2 : decide (a < 0) = true := decide_eq_true h2
      clear h1 h2 h3
      go_enter Try.func60, Try.ntmps60
      go_wp2_with fail
      refine bodyPost_ret (v := .tuple #[.agg #[.int .i64 0, .int .i64 0, .int .i64 0, .int .i64 0, .int .i64 0, .int .i64 0, .slice none 0 0, .int .u64 0, .int .u64 0, .int .u64 0, .int .u64 0], .int .i64 1]) (by simp [results, Try.results60, go_sem]) rfl ⟨none, 0, rfl, Sn.none_, Nw.none_, ?_⟩
      exact Lo.of_up (by repeat (first | exact Up.refl _ | refine Up.alloc ?_ _ _ | refine Up.setCell ?_ (by first | (simp; done) | (simp; omega) | omega) _ | refine Up.drewN ?_ _ | refine Up.drew ?_))
    have t2 : decide (a < 0) = false := decide_eq_false h2
    have t3 : decide (b < a) = true := decide_eq_true (by omega)
    clear h1 h2 h3
    go_enter Try.func60, Try.ntmps60
    go_wp2_with fail
    refine bodyPost_ret (v := .tuple #[.agg #[.int .i64 0, .int .i64 0, .int .i64 0, .int .i64 0, .int .i64 0, .int .i64 0, .slice none 0 0, .int .u64 0, .int .u64 0, .int .u64 0, .int .u64 0], .int .i64 1]) (by simp [results, Try.results60, go_sem]) rfl ⟨none, 0, rfl, Sn.none_, Nw.none_, ?_⟩
    exact Lo.of_up (by repeat (first | exact Up.refl _ | refine Up.alloc ?_ _ _ | refine Up.setCell ?_ (by first | (simp; done) | (simp; omega) | omega) _ | refine Up.drewN ?_ _ | refine Up.drew ?_))
  rw [if_neg ha] at h
  have h3 : 1 ≤ b ∧ 0 ≤ a ∧ a ≤ b := of_decide_eq_true (by rw [Bool.not_eq_false] at ha; exact ha)
  have t1 : decide (b < 1) = false := decide_eq_false (by omega)
  have t2 : decide (a < 0) = false := decide_eq_false (by omega)
  have t3 : decide (b < a) = false := decide_eq_false (by omega)
  clear h3 ha hS
  generalize (qnO L a b).getD 0 = y at *
  generalize (qnO L a b).isSome = s at *
  unfold got at K1
  cases s with
  | false =>
    rw [if_neg (by simp)] at h
    cases h
    go_enter Try.func60, Try.ntmps60
    go_wp2_with fail
    refine (K1.out _ (HS.out.up ((Up.refl _).alloc _ _))).mono ?_
    rintro e w1 ⟨rfl, hu⟩
    have HV : Hid (Lo (w.alloc (.cells #[.int .i64 0, .int .i64 0, .int .i64 0, .int .i64 0, .int .i64 0, .int .i64 0, .slice none 0 0, .int .u64 0, .int .u64 0, .int .u64 0, .int .u64 0] 58)) w1) := Lib.hid hu
    have HU1 : Hid (Lo w w1) := Lib.hid (Below.trans ((Up.refl w).alloc #[.int .i64 0, .int .i64 0, .int .i64 0, .int .i64 0, .int .i64 0, .int .i64 0, .slice none 0 0, .int .u64 0, .int .u64 0, .int .u64 0, .int .u64 0] 58).below (hu.mono (by simp)))
    have r0 := HV.out.keep (w.heap.size) 0 (.int .i64 0) (by simp [go_sem])
    have r1 := HV.out.keep (w.heap.size) 1 (.int .i64 0) (by simp [go_sem])
    have r2 := HV.out.keep (w.heap.size) 2 (.int .i64 0) (by simp [go_sem])
    have r3 := HV.out.keep (w.heap.size) 3 (.int .i64 0) (by simp [go_sem])
    have r4 := HV.out.keep (w.heap.size) 4 (.int .i64 0) (by simp [go_sem])
    have r5 := HV.out.keep (w.heap.size) 5 (.int .i64 0) (by simp [go_sem])
    have r6 := HV.out.keep (w.heap.size) 6 (.slice none 0 0) (by simp [go_sem])
    have r7 := HV.out.keep (w.heap.size) 7 (.int .u64 0) (by simp [go_sem])
    have r8 := HV.out.keep (w.heap.size) 8 (.int .u64 0) (by simp [go_sem])
    have r9 := HV.out.keep (w.heap.size) 9 (.int .u64 0) (by simp [go_sem])
    have r10 := HV.out.keep (w.heap.size) 10 (.int .u64 0) (by simp [go_sem])
    have z0 : w1.frozen? ⟨w.heap.size, 0, none⟩ = false := (HV.out.frozen9 _ (by simp)).trans ((Blk.new w _ _).frozen 0)
    have z1 : w1.frozen? ⟨w.heap.size, 1, none⟩ = false := (HV.out.frozen9 _ (by simp)).trans ((Blk.new w _ _).frozen 1)
    have z2 : w1.frozen? ⟨w.heap.size, 2, none⟩ = false := (HV.out.frozen9 _ (by simp)).trans ((Blk.new w _ _).frozen 2)
    have z3 : w1.frozen? ⟨w.heap.size, 3, none⟩ = false := (HV.out.frozen9 _ (by simp)).trans ((Blk.new w _ _).frozen 3)
    have z4 : w1.frozen? ⟨w.heap.size, 4, none⟩ = false := (HV.out.frozen9 _ (by simp)).trans ((Blk.new w _ _).frozen 4)
    have z5 : w1.frozen? ⟨w.heap.size, 5, none⟩ = false := (HV.out.frozen9 _ (by simp)).trans ((Blk.new w _ _).frozen 5)
    have z6 : w1.frozen? ⟨w.heap.size, 6, none⟩ = false := (HV.out.frozen9 _ (by simp)).trans ((Blk.new w _ _).frozen 6)
    have z7 : w1.frozen? ⟨w.heap.size, 7, none⟩ = false := (HV.out.frozen9 _ (by simp)).trans ((Blk.new w _ _).frozen 7)
    have z8 : w1.frozen? ⟨w.heap.size, 8, none⟩ = false := (HV.out.frozen9 _ (by simp)).trans ((Blk.new w _ _).frozen 8)
    have z9 : w1.frozen? ⟨w.heap.size, 9, none⟩ = false := (HV.out.frozen9 _ (by simp)).trans ((Blk.new w _ _).frozen 9)
    have z10 : w1.frozen? ⟨w.heap.size, 10, none⟩ = false := (HV.out.frozen9 _ (by simp)).trans ((Blk.new w _ _).frozen 10)
    clear hu
    go_wp2_with fail
    refine bodyPost_ret (v := .tuple #[.agg #[.int .i64 0, .int .i64 0, .int .i64 0, .int .i64 0, .int .i64 0, .int .i64 0, .slice none 0 0, .int .u64 0, .int .u64 0, .int .u64 0, .int .u64 0], .int .i64 7]) (by simp [results, Try.results60, go_sem, r0, r1, r2, r3, r4, r5, r6, r7, r8, r9, r10]) rfl ⟨none, 0, rfl, Sn.none_, Nw.none_, ?_⟩
    exact HU1.out.set11 (Nat.le_refl _)
  | true =>
    rw [if_pos rfl] at h
    cases h
    go_enter Try.func60, Try.ntmps60
    go_wp2_with fail
    refine (K1.out _ (HS.out.up ((Up.refl _).alloc _ _))).mono ?_
    rintro e w1 ⟨rfl, hu⟩
    have HV : Hid (Lo (w.alloc (.cells #[.int .i64 0, .int .i64 0, .int .i64 0, .int .i64 0, .int .i64 0, .int .i64 0, .slice none 0 0, .int .u64 0, .int .u64 0, .int .u64 0, .int .u64 0] 58)) w1) := Lib.hid hu
    have HU1 : Hid (Lo w w1) := Lib.hid (Below.trans ((Up.refl w).alloc #[.int .i64 0, .int .i64 0, .int .i64 0, .int .i64 0, .int .i64 0, .int .i64 0, .slice none 0 0, .int .u64 0, .int .u64 0, .int .u64 0, .int .u64 0] 58).below (hu.mono (by simp)))
    have r0 := HV.out.keep (w.heap.size) 0 (.int .i64 0) (by simp [go_sem])
    have r1 := HV.out.keep (w.heap.size) 1 (.int .i64 0) (by simp [go_sem])
    have r2 := HV.out.keep (w.heap.size) 2 (.int .i64 0) (by simp [go_sem])
    have r3 := HV.out.keep (w.heap.size) 3 (.int .i64 0) (by simp [go_sem])
    have r4 := HV.out.keep (w.heap.size) 4 (.int .i64 0) (by simp [go_sem])
    have r5 := HV.out.keep (w.heap.size) 5 (.int .i64 0) (by simp [go_sem])
    have r6 := HV.out.keep (w.heap.size) 6 (.slice none 0 0) (by simp [go_sem])
    have r7 := HV.out.keep (w.heap.size) 7 (.int .u64 0) (by simp [go_sem])
    have r8 := HV.out.keep (w.heap.size) 8 (.int .u64 0) (by simp [go_sem])
    have r9 := HV.out.keep (w.heap.size) 9 (.int .u64 0) (by simp [go_sem])
    have r10 := HV.out.keep (w.heap.size) 10 (.int .u64 0) (by simp [go_sem])
    have z0 : w1.frozen? ⟨w.heap.size, 0, none⟩ = false := (HV.out.frozen9 _ (by simp)).trans ((Blk.new w _ _).frozen 0)
    have z1 : w1.frozen? ⟨w.heap.size, 1, none⟩ = false := (HV.out.frozen9 _ (by simp)).trans ((Blk.new w _ _).frozen 1)
    have z2 : w1.frozen? ⟨w.heap.size, 2, none⟩ = false := (HV.out.frozen9 _ (by simp)).trans ((Blk.new w _ _).frozen 2)
    have z3 : w1.frozen? ⟨w.heap.size, 3, none⟩ = false := (HV.out.frozen9 _ (by simp)).trans ((Blk.new w _ _).frozen 3)
    have z4 : w1.frozen? ⟨w.heap.size, 4, none⟩ = false := (HV.out.frozen9 _ (by simp)).trans ((Blk.new w _ _).frozen 4)
    have z5 : w1.frozen? ⟨w.heap.size, 5, none⟩ = false := (HV.out.frozen9 _ (by simp)).trans ((Blk.new w _ _).frozen 5)
    have z6 : w1.frozen? ⟨w.heap.size, 6, none⟩ = false := (HV.out.frozen9 _ (by simp)).trans ((Blk.new w _ _).frozen 6)
    have z7 : w1.frozen? ⟨w.heap.size, 7, none⟩ = false := (HV.out.frozen9 _ (by simp)).trans ((Blk.new w _ _).frozen 7)
    have z8 : w1.frozen? ⟨w.heap.size, 8, none⟩ = false := (HV.out.frozen9 _ (by simp)).trans ((Blk.new w _ _).frozen 8)
    have z9 : w1.frozen? ⟨w.heap.size, 9, none⟩ = false := (HV.out.frozen9 _ (by simp)).trans ((Blk.new w _ _).frozen 9)
    have z10 : w1.frozen? ⟨w.heap.size, 10, none⟩ = false := (HV.out.frozen9 _ (by simp)).trans ((Blk.new w _ _).frozen 10)
    have hlt : w.heap.size < w1.heap.size := World.block_lt_of_cell? _ _ r0
    clear hu
    go_wp2_with fail
    refine bodyPost_ret (v := .tuple #[.agg #[.int .i64 0, .int .i64 0, .int .i64 0, .int .i64 0, .int .i64 0, .int .i64 0, .slice (some ⟨w1.heap.size, 0, none⟩) 1 1, .int .u64 0, .int .u64 0, .int .u64 0, .int .u64 0], .int .i64 0]) (by simp [results, Try.results60, go_sem, r0, r1, r2, r3, r4, r5, r6, r7, r8, r9, r10, hlt]) rfl ⟨some ⟨w1.heap.size, 0, none⟩, 1, rfl, ?_, fun b o e => by cases e; exact Nat.le_of_lt hlt, ?_⟩
    · exact (Bn.new _ [y] _ (by simp [World.setCell])).sn rfl
    · exact (HU1.out.set11 (Nat.le_refl _)).up ((Up.refl _).alloc _ _)
end Go.Proofs.Ytflahclphdlolaa

/- What Ask of package recent returns. -/
namespace Go.Proofs.Ytflahclphdlolaa
open Go.RowKit

set_option maxHeartbeats 8000000 in
set_option maxRecDepth 100000 in
theorem ask9_bad (v c now o a b : Int) (n k : Nat) (A : Option Addr) (L : List It) (hst : stB v c now L = false) (w : World) (hS : Sl w A n L) :
    Calls Try.prog 25 #[.agg #[.int .i64 v, .int .i64 c, .int .i64 now, .slice A n k], .agg #[.int .i64 o, .int .i64 a, .int .i64 b]] w fun e w' => e = .returned (.tuple #[.agg #[.int .i64 0, .int .i64 0, .int .i64 0, .int .i64 0, .int .i64 0, .int .i64 0, .slice none 0 0, .int .u64 0, .int .u64 0, .int .u64 0, .int .u64 0], .int .i64 2]) ∧ Up w w' := by
  have KV := Lib.hid (fun W (h : Sl W A n L) => validate9_up v c now n k A L W h)
  rw [stE_no hst] at KV
  have HS := Lib.hid hS
  clear hS hst
  go_enter Try.func25, Try.ntmps25
  go_wp2_with (go_at_call 16; (with_reducible refine (KV.out _ (HS.out.up ((((Up.refl w).alloc _ _).alloc _ _).alloc _ _))).mono ?_); rintro e w1 ⟨rfl, hu⟩; have HU1 := Lib.hid (((((Up.refl w).alloc #[.int .i64 v, .int .i64 c, .int .i64 now, .slice A n k] 24).alloc #[.int .i64 o, .int .i64 a, .int .i64 b] 62).alloc #[.int .i64 0, .int .i64 0, .int .i64 0, .int .i64 0, .int .i64 0, .int .i64 0, .slice none 0 0, .int .u64 0, .int .u64 0, .int .u64 0, .int .u64 0] 58).trans hu); have s3 := hu.keep w.heap.size 3 (.slice A n k) (by simp [go_sem]); have q0 := hu.keep (w.heap.size + 1) 0 (.int .i64 o) (by simp [go_sem]); have q1 := hu.keep (w.heap.size + 1) 1 (.int .i64 a) (by simp [go_sem]); have q2 := hu.keep (w.heap.size + 1) 2 (.int .i64 b) (by simp [go_sem]); have r0 := hu.keep (w.heap.size + 1 + 1) 0 (.int .i64 0) (by simp [go_sem]); have r1 := hu.keep (w.heap.size + 1 + 1) 1 (.int .i64 0) (by simp [go_sem]); have r2 := hu.keep (w.heap.size + 1 + 1) 2 (.int .i64 0) (by simp [go_sem]); have r3 := hu.keep (w.heap.size + 1 + 1) 3 (.int .i64 0) (by simp [go_sem]); have r4 := hu.keep (w.heap.size + 1 + 1) 4 (.int .i64 0) (by simp [go_sem]); have r5 := hu.keep (w.heap.size + 1 + 1) 5 (.int .i64 0) (by simp [go_sem]); have r6 := hu.keep (w.heap.size + 1 + 1) 6 (.slice none 0 0) (by simp [go_sem]); have r7 := hu.keep (w.heap.size + 1 + 1) 7 (.int .u64 0) (by simp [go_sem]); have r8 := hu.keep (w.heap.size + 1 + 1) 8 (.int .u64 0) (by simp [go_sem]); have r9 := hu.keep (w.heap.size + 1 + 1) 9 (.int .u64 0) (by simp [go_sem]); have r10 := hu.keep (w.heap.size + 1 + 1) 10 (.int .u64 0) (by simp [go_sem]); have z0 := HU1.out.ownGe (g := w.heap.size + 1 + 1) (by omega) 0; have z1 := HU1.out.ownGe (g := w.heap.size + 1 + 1) (by omega) 1; have z2 := HU1.out.ownGe (g := w.heap.size + 1 + 1) (by omega) 2; have z3 := HU1.out.ownGe (g := w.heap.size + 1 + 1) (by omega) 3; have z4 := HU1.out.ownGe (g := w.heap.size + 1 + 1) (by omega) 4; have z5 := HU1.out.ownGe (g := w.heap.size + 1 + 1) (by omega) 5; have z6 := HU1.out.ownGe (g := w.heap.size + 1 + 1) (by omega) 6; have z7 := HU1.out.ownGe (g := w.heap.size + 1 + 1) (by omega) 7; have z8 := HU1.out.ownGe (g := w.heap.size + 1 + 1) (by omega) 8; have z9 := HU1.out.ownGe (g := w.heap.size + 1 + 1) (by omega) 9; have z10 := HU1.out.ownGe (g := w.heap.size + 1 + 1) (by omega) 10; have hlt : w.heap.size + 1 + 1 < w1.heap.size := World.block_lt_of_cell? _ _ r0; clear hu)
  refine bodyPost_ret (v := .tuple #[.agg #[.int .i64 0, .int .i64 0, .int .i64 0, .int .i64 0, .int .i64 0, .int .i64 0, .slice none 0 0, .int .u64 0, .int .u64 0, .int .u64 0, .int .u64 0], .int .i64 2]) (by simp [results, Try.results25, go_sem, r0, r1, r2, r3, r4, r5, r6, r7, r8, r9, r10]) rfl ⟨rfl, ?_⟩
  exact HU1.out.set11 (by omega)

set_option maxHeartbeats 8000000 in
set_option maxRecDepth 100000 in
theorem ask9_other (v c now o a b : Int) (n k : Nat) (A : Option Addr) (L : List It) (hst : stB v c now L = true) (ho : ¬ (1 ≤ o ∧ o ≤ 8)) (w : World) (hS : Sl w A n L) :
    Calls Try.prog 25 #[.agg #[.int .i64 v, .int .i64 c, .int .i64 now, .slice A n k], .agg #[.int .i64 o, .int .i64 a, .int .i64 b]] w fun e w' => e = .returned (.tuple #[.agg #[.int .i64 0, .int .i64 0, .int .i64 0, .int .i64 0, .int .i64 0, .int .i64 0, .slice none 0 0, .int .u64 0, .int .u64 0, .int .u64 0, .int .u64 0], .int .i64 12]) ∧ Up w w' := by
  have KV := Lib.hid (fun W (h : Sl W A n L) => validate9_up v c now n k A L W h)
  rw [stE_yes hst] at KV
  have HS := Lib.hid hS
  have t1 : (o == 1) = false := by simp; omega
  have t2 : (o == 2) = false := by simp; omega
  have t3 : (o == 3) = false := by simp; omega
  have t4 : (o == 4) = false := by simp; omega
  have t5 : (o == 5) = false := by simp; omega
  have t6 : (o == 6) = false := by simp; omega
  have t7 : (o == 7) = false := by simp; omega
  have t8 : (o == 8) = false := by simp; omega
  clear hS hst ho
  go_enter Try.func25, Try.ntmps25
  go_wp2_with (go_at_call 16; (with_reducible refine (KV.out _ (HS.out.up ((((Up.refl w).alloc _ _).alloc _ _).alloc _ _))).mono ?_); rintro e w1 ⟨rfl, hu⟩; have HU1 := Lib.hid (((((Up.refl w).alloc #[.int .i64 v, .int .i64 c, .int .i64 now, .slice A n k] 24).alloc #[.int .i64 o, .int .i64 a, .int .i64 b] 62).alloc #[.int .i64 0, .int .i64 0, .int .i64 0, .int .i64 0, .int .i64 0, .int .i64 0, .slice none 0 0, .int .u64 0, .int .u64 0, .int .u64 0, .int .u64 0] 58).trans hu); have s3 := hu.keep w.heap.size 3 (.slice A n k) (by simp [go_sem]); have q0 := hu.keep (w.heap.size + 1) 0 (.int .i64 o) (by simp [go_sem]); have q1 := hu.keep (w.heap.size + 1) 1 (.int .i64 a) (by simp [go_sem]); have q2 := hu.keep (w.heap.size + 1) 2 (.int .i64 b) (by simp [go_sem]); have r0 := hu.keep (w.heap.size + 1 + 1) 0 (.int .i64 0) (by simp [go_sem]); have r1 := hu.keep (w.heap.size + 1 + 1) 1 (.int .i64 0) (by simp [go_sem]); have r2 := hu.keep (w.heap.size + 1 + 1) 2 (.int .i64 0) (by simp [go_sem]); have r3 := hu.keep (w.heap.size + 1 + 1) 3 (.int .i64 0) (by simp [go_sem]); have r4 := hu.keep (w.heap.size + 1 + 1) 4 (.int .i64 0) (by simp [go_sem]); have r5 := hu.keep (w.heap.size + 1 + 1) 5 (.int .i64 0) (by simp [go_sem]); have r6 := hu.keep (w.heap.size + 1 + 1) 6 (.slice none 0 0) (by simp [go_sem]); have r7 := hu.keep (w.heap.size + 1 + 1) 7 (.int .u64 0) (by simp [go_sem]); have r8 := hu.keep (w.heap.size + 1 + 1) 8 (.int .u64 0) (by simp [go_sem]); have r9 := hu.keep (w.heap.size + 1 + 1) 9 (.int .u64 0) (by simp [go_sem]); have r10 := hu.keep (w.heap.size + 1 + 1) 10 (.int .u64 0) (by simp [go_sem]); have z0 := HU1.out.ownGe (g := w.heap.size + 1 + 1) (by omega) 0; have z1 := HU1.out.ownGe (g := w.heap.size + 1 + 1) (by omega) 1; have z2 := HU1.out.ownGe (g := w.heap.size + 1 + 1) (by omega) 2; have z3 := HU1.out.ownGe (g := w.heap.size + 1 + 1) (by omega) 3; have z4 := HU1.out.ownGe (g := w.heap.size + 1 + 1) (by omega) 4; have z5 := HU1.out.ownGe (g := w.heap.size + 1 + 1) (by omega) 5; have z6 := HU1.out.ownGe (g := w.heap.size + 1 + 1) (by omega) 6; have z7 := HU1.out.ownGe (g := w.heap.size + 1 + 1) (by omega) 7; have z8 := HU1.out.ownGe (g := w.heap.size + 1 + 1) (by omega) 8; have z9 := HU1.out.ownGe (g := w.heap.size + 1 + 1) (by omega) 9; have z10 := HU1.out.ownGe (g := w.heap.size + 1 + 1) (by omega) 10; have hlt : w.heap.size + 1 + 1 < w1.heap.size := World.block_lt_of_cell? _ _ r0; clear hu)
  refine bodyPost_ret (v := .tuple #[.agg #[.int .i64 0, .int .i64 0, .int .i64 0, .int .i64 0, .int .i64 0, .int .i64 0, .slice none 0 0, .int .u64 0, .int .u64 0, .int .u64 0, .int .u64 0], .int .i64 12]) (by simp [results, Try.results25, go_sem, r0, r1, r2, r3, r4, r5, r6, r7, r8, r9, r10]) rfl ⟨rfl, ?_⟩
  exact HU1.out.set11 (by omega)

set_option maxHeartbeats 8000000 in
set_option maxRecDepth 100000 in
theorem ask9_1 (v c now a b : Int) (n k : Nat) (A : Option Addr) (L : List It) (hst : stB v c now L = true) (w : World) (hS : Sl w A n L) :
    Calls Try.prog 25 #[.agg #[.int .i64 v, .int .i64 c, .int .i64 now, .slice A n k], .agg #[.int .i64 1, .int .i64 a, .int .i64 b]] w fun e w' => e = .returned (.tuple #[.agg #[.int .i64 (L.length : Int), .int .i64 1, .int .i64 (L.length : Int), .int .i64 1, .int .i64 (L.length : Int), .int .i64 1, .slice none 0 0, .int .u64 0, .int .u64 0, .int .u64 0, .int .u64 0], .int .i64 0]) ∧ Up w w' := by
  have KV := Lib.hid (fun W (h : Sl W A n L) => validate9_up v c now n k A L W h)
  rw [stE_yes hst] at KV
  have HS := Lib.hid hS
  obtain ⟨hI, hl, hs⟩ := st_small hst
  have hn : n ≤ 65536 := by rw [← hS.1]; exact hl
  have KA := Lib.hid (fun W => count_any n k A W)
  have KB := Lib.hid (fun W => integer_up (n : Int) (by unfold In; omega) W)
  rw [show (L.length : Int) = n by rw [hS.1]]
  clear hS hst hI hl hs hn
  go_enter Try.func25, Try.ntmps25
  go_wp2_with (go_at_call 16; (with_reducible refine (KV.out _ (HS.out.up ((((Up.refl w).alloc _ _).alloc _ _).alloc _ _))).mono ?_); rintro e w1 ⟨rfl, hu⟩; have HU1 := Lib.hid (((((Up.refl w).alloc #[.int .i64 v, .int .i64 c, .int .i64 now, .slice A n k] 24).alloc #[.int .i64 1, .int .i64 a, .int .i64 b] 62).alloc #[.int .i64 0, .int .i64 0, .int .i64 0, .int .i64 0, .int .i64 0, .int .i64 0, .slice none 0 0, .int .u64 0, .int .u64 0, .int .u64 0, .int .u64 0] 58).trans hu); have s3 := hu.keep w.heap.size 3 (.slice A n k) (by simp [go_sem]); have q0 := hu.keep (w.heap.size + 1) 0 (.int .i64 1) (by simp [go_sem]); have q1 := hu.keep (w.heap.size + 1) 1 (.int .i64 a) (by simp [go_sem]); have q2 := hu.keep (w.heap.size + 1) 2 (.int .i64 b) (by simp [go_sem]); have r0 := hu.keep (w.heap.size + 1 + 1) 0 (.int .i64 0) (by simp [go_sem]); have r1 := hu.keep (w.heap.size + 1 + 1) 1 (.int .i64 0) (by simp [go_sem]); have r2 := hu.keep (w.heap.size + 1 + 1) 2 (.int .i64 0) (by simp [go_sem]); have r3 := hu.keep (w.heap.size + 1 + 1) 3 (.int .i64 0) (by simp [go_sem]); have r4 := hu.keep (w.heap.size + 1 + 1) 4 (.int .i64 0) (by simp [go_sem]); have r5 := hu.keep (w.heap.size + 1 + 1) 5 (.int .i64 0) (by simp [go_sem]); have r6 := hu.keep (w.heap.size + 1 + 1) 6 (.slice none 0 0) (by simp [go_sem]); have r7 := hu.keep (w.heap.size + 1 + 1) 7 (.int .u64 0) (by simp [go_sem]); have r8 := hu.keep (w.heap.size + 1 + 1) 8 (.int .u64 0) (by simp [go_sem]); have r9 := hu.keep (w.heap.size + 1 + 1) 9 (.int .u64 0) (by simp [go_sem]); have r10 := hu.keep (w.heap.size + 1 + 1) 10 (.int .u64 0) (by simp [go_sem]); have z0 := HU1.out.ownGe (g := w.heap.size + 1 + 1) (by omega) 0; have z1 := HU1.out.ownGe (g := w.heap.size + 1 + 1) (by omega) 1; have z2 := HU1.out.ownGe (g := w.heap.size + 1 + 1) (by omega) 2; have z3 := HU1.out.ownGe (g := w.heap.size + 1 + 1) (by omega) 3; have z4 := HU1.out.ownGe (g := w.heap.size + 1 + 1) (by omega) 4; have z5 := HU1.out.ownGe (g := w.heap.size + 1 + 1) (by omega) 5; have z6 := HU1.out.ownGe (g := w.heap.size + 1 + 1) (by omega) 6; have z7 := HU1.out.ownGe (g := w.heap.size + 1 + 1) (by omega) 7; have z8 := HU1.out.ownGe (g := w.heap.size + 1 + 1) (by omega) 8; have z9 := HU1.out.ownGe (g := w.heap.size + 1 + 1) (by omega) 9; have z10 := HU1.out.ownGe (g := w.heap.size + 1 + 1) (by omega) 10; have hlt : w.heap.size + 1 + 1 < w1.heap.size := World.block_lt_of_cell? _ _ r0; clear hu)
  refine (KA.out _).mono ?_
  rintro e w2 ⟨rfl, rfl⟩
  go_wp2_with fail
  refine (KB.out _).mono ?_
  rintro e w3 ⟨rfl, hv⟩
  have HU2 := Lib.hid (HU1.out.trans hv)
  have R0 := hv.keep _ _ _ r0
  have R1 := hv.keep _ _ _ r1
  have R2 := hv.keep _ _ _ r2
  have R3 := hv.keep _ _ _ r3
  have R4 := hv.keep _ _ _ r4
  have R5 := hv.keep _ _ _ r5
  have R6 := hv.keep _ _ _ r6
  have R7 := hv.keep _ _ _ r7
  have R8 := hv.keep _ _ _ r8
  have R9 := hv.keep _ _ _ r9
  have R10 := hv.keep _ _ _ r10
  have Z0 := HU2.out.ownGe (g := w.heap.size + 1 + 1) (by omega) 0
  have Z1 := HU2.out.ownGe (g := w.heap.size + 1 + 1) (by omega) 1
  have Z2 := HU2.out.ownGe (g := w.heap.size + 1 + 1) (by omega) 2
  have Z3 := HU2.out.ownGe (g := w.heap.size + 1 + 1) (by omega) 3
  have Z4 := HU2.out.ownGe (g := w.heap.size + 1 + 1) (by omega) 4
  have Z5 := HU2.out.ownGe (g := w.heap.size + 1 + 1) (by omega) 5
  have Z6 := HU2.out.ownGe (g := w.heap.size + 1 + 1) (by omega) 6
  have Z7 := HU2.out.ownGe (g := w.heap.size + 1 + 1) (by omega) 7
  have Z8 := HU2.out.ownGe (g := w.heap.size + 1 + 1) (by omega) 8
  have Z9 := HU2.out.ownGe (g := w.heap.size + 1 + 1) (by omega) 9
  have Z10 := HU2.out.ownGe (g := w.heap.size + 1 + 1) (by omega) 10
  clear r0 r1 r2 r3 r4 r5 r6 r7 r8 r9 r10 z0 z1 z2 z3 z4 z5 z6 z7 z8 z9 z10 s3 q0 q1 q2
  clear hv
  go_wp2_with fail
  refine bodyPost_ret (v := .tuple #[.agg #[.int .i64 (n : Int), .int .i64 1, .int .i64 (n : Int), .int .i64 1, .int .i64 (n : Int), .int .i64 1, .slice none 0 0, .int .u64 0, .int .u64 0, .int .u64 0, .int .u64 0], .int .i64 0]) (by simp [results, Try.results25, go_sem, R0, R1, R2, R3, R4, R5, R6, R7, R8, R9, R10]) rfl ⟨rfl, ?_⟩
  exact HU2.out.set11 (by omega)

set_option maxHeartbeats 8000000 in
set_option maxRecDepth 100000 in
theorem ask9_2 (v c now a b : Int) (n k : Nat) (A : Option Addr) (L : List It) (hst : stB v c now L = true) (w : World) (hS : Sl w A n L) :
    Calls Try.prog 25 #[.agg #[.int .i64 v, .int .i64 c, .int .i64 now, .slice A n k], .agg #[.int .i64 2, .int .i64 a, .int .i64 b]] w fun e w' => e = .returned (.tuple #[.agg #[.int .i64 (smZ L), .int .i64 1, .int .i64 (smZ L), .int .i64 1, .int .i64 (smZ L), .int .i64 1, .slice none 0 0, .int .u64 0, .int .u64 0, .int .u64 0, .int .u64 0], .int .i64 0]) ∧ Up w w' := by
  have KV := Lib.hid (fun W (h : Sl W A n L) => validate9_up v c now n k A L W h)
  rw [stE_yes hst] at KV
  have HS := Lib.hid hS
  obtain ⟨hI, hl, hs⟩ := st_small hst
  have hn : n ≤ 65536 := by rw [← hS.1]; exact hl
  have hx : In (smZ L) := by have := sm_bound hs; unfold In; omega
  have KA := Lib.hid (fun W (h : Sl W A n L) => sumE_up n k A L (by omega) hI W h)
  have KB := Lib.hid (fun W => integer_up (smZ L) hx W)
  rw [fit_yes hx, fits_yes hx] at KA
  unfold got at KA
  clear hx
  generalize smZ L = x at *
  clear hS hst hI hl hs hn
  go_enter Try.func25, Try.ntmps25
  go_wp2_with (go_at_call 16; (with_reducible refine (KV.out _ (HS.out.up ((((Up.refl w).alloc _ _).alloc _ _).alloc _ _))).mono ?_); rintro e w1 ⟨rfl, hu⟩; have HU1 := Lib.hid (((((Up.refl w).alloc #[.int .i64 v, .int .i64 c, .int .i64 now, .slice A n k] 24).alloc #[.int .i64 2, .int .i64 a, .int .i64 b] 62).alloc #[.int .i64 0, .int .i64 0, .int .i64 0, .int .i64 0, .int .i64 0, .int .i64 0, .slice none 0 0, .int .u64 0, .int .u64 0, .int .u64 0, .int .u64 0] 58).trans hu); have s3 := hu.keep w.heap.size 3 (.slice A n k) (by simp [go_sem]); have q0 := hu.keep (w.heap.size + 1) 0 (.int .i64 2) (by simp [go_sem]); have q1 := hu.keep (w.heap.size + 1) 1 (.int .i64 a) (by simp [go_sem]); have q2 := hu.keep (w.heap.size + 1) 2 (.int .i64 b) (by simp [go_sem]); have r0 := hu.keep (w.heap.size + 1 + 1) 0 (.int .i64 0) (by simp [go_sem]); have r1 := hu.keep (w.heap.size + 1 + 1) 1 (.int .i64 0) (by simp [go_sem]); have r2 := hu.keep (w.heap.size + 1 + 1) 2 (.int .i64 0) (by simp [go_sem]); have r3 := hu.keep (w.heap.size + 1 + 1) 3 (.int .i64 0) (by simp [go_sem]); have r4 := hu.keep (w.heap.size + 1 + 1) 4 (.int .i64 0) (by simp [go_sem]); have r5 := hu.keep (w.heap.size + 1 + 1) 5 (.int .i64 0) (by simp [go_sem]); have r6 := hu.keep (w.heap.size + 1 + 1) 6 (.slice none 0 0) (by simp [go_sem]); have r7 := hu.keep (w.heap.size + 1 + 1) 7 (.int .u64 0) (by simp [go_sem]); have r8 := hu.keep (w.heap.size + 1 + 1) 8 (.int .u64 0) (by simp [go_sem]); have r9 := hu.keep (w.heap.size + 1 + 1) 9 (.int .u64 0) (by simp [go_sem]); have r10 := hu.keep (w.heap.size + 1 + 1) 10 (.int .u64 0) (by simp [go_sem]); have z0 := HU1.out.ownGe (g := w.heap.size + 1 + 1) (by omega) 0; have z1 := HU1.out.ownGe (g := w.heap.size + 1 + 1) (by omega) 1; have z2 := HU1.out.ownGe (g := w.heap.size + 1 + 1) (by omega) 2; have z3 := HU1.out.ownGe (g := w.heap.size + 1 + 1) (by omega) 3; have z4 := HU1.out.ownGe (g := w.heap.size + 1 + 1) (by omega) 4; have z5 := HU1.out.ownGe (g := w.heap.size + 1 + 1) (by omega) 5; have z6 := HU1.out.ownGe (g := w.heap.size + 1 + 1) (by omega) 6; have z7 := HU1.out.ownGe (g := w.heap.size + 1 + 1) (by omega) 7; have z8 := HU1.out.ownGe (g := w.heap.size + 1 + 1) (by omega) 8; have z9 := HU1.out.ownGe (g := w.heap.size + 1 + 1) (by omega) 9; have z10 := HU1.out.ownGe (g := w.heap.size + 1 + 1) (by omega) 10; have hlt : w.heap.size + 1 + 1 < w1.heap.size := World.block_lt_of_cell? _ _ r0; clear hu)
  refine (KA.out _ (HS.out.up HU1.out)).mono ?_
  rintro e w2 ⟨rfl, hu2⟩
  go_wp2_with fail
  refine (KB.out _).mono ?_
  rintro e w3 ⟨rfl, hu3⟩
  have hv := hu2.trans hu3
  clear hu2 hu3
  have HU2 := Lib.hid (HU1.out.trans hv)
  have R0 := hv.keep _ _ _ r0
  have R1 := hv.keep _ _ _ r1
  have R2 := hv.keep _ _ _ r2
  have R3 := hv.keep _ _ _ r3
  have R4 := hv.keep _ _ _ r4
  have R5 := hv.keep _ _ _ r5
  have R6 := hv.keep _ _ _ r6
  have R7 := hv.keep _ _ _ r7
  have R8 := hv.keep _ _ _ r8
  have R9 := hv.keep _ _ _ r9
  have R10 := hv.keep _ _ _ r10
  have Z0 := HU2.out.ownGe (g := w.heap.size + 1 + 1) (by omega) 0
  have Z1 := HU2.out.ownGe (g := w.heap.size + 1 + 1) (by omega) 1
  have Z2 := HU2.out.ownGe (g := w.heap.size + 1 + 1) (by omega) 2
  have Z3 := HU2.out.ownGe (g := w.heap.size + 1 + 1) (by omega) 3
  have Z4 := HU2.out.ownGe (g := w.heap.size + 1 + 1) (by omega) 4
  have Z5 := HU2.out.ownGe (g := w.heap.size + 1 + 1) (by omega) 5
  have Z6 := HU2.out.ownGe (g := w.heap.size + 1 + 1) (by omega) 6
  have Z7 := HU2.out.ownGe (g := w.heap.size + 1 + 1) (by omega) 7
  have Z8 := HU2.out.ownGe (g := w.heap.size + 1 + 1) (by omega) 8
  have Z9 := HU2.out.ownGe (g := w.heap.size + 1 + 1) (by omega) 9
  have Z10 := HU2.out.ownGe (g := w.heap.size + 1 + 1) (by omega) 10
  clear r0 r1 r2 r3 r4 r5 r6 r7 r8 r9 r10 z0 z1 z2 z3 z4 z5 z6 z7 z8 z9 z10 s3 q0 q1 q2
  clear hv
  go_wp2_with fail
  refine bodyPost_ret (v := .tuple #[.agg #[.int .i64 x, .int .i64 1, .int .i64 x, .int .i64 1, .int .i64 x, .int .i64 1, .slice none 0 0, .int .u64 0, .int .u64 0, .int .u64 0, .int .u64 0], .int .i64 0]) (by simp [results, Try.results25, go_sem, R0, R1, R2, R3, R4, R5, R6, R7, R8, R9, R10]) rfl ⟨rfl, ?_⟩
  exact HU2.out.set11 (by omega)

set_option maxHeartbeats 8000000 in
set_option maxRecDepth 100000 in
theorem ask9_3 (v c now a b : Int) (n k : Nat) (A : Option Addr) (L : List It) (hst : stB v c now L = true) (w : World) (hS : Sl w A n L) :
    Calls Try.prog 25 #[.agg #[.int .i64 v, .int .i64 c, .int .i64 now, .slice A n k], .agg #[.int .i64 3, .int .i64 a, .int .i64 b]] w fun e w' => e = .returned (.tuple #[.agg #[.int .i64 (sqZ L), .int .i64 1, .int .i64 (sqZ L), .int .i64 1, .int .i64 (sqZ L), .int .i64 1, .slice none 0 0, .int .u64 0, .int .u64 0, .int .u64 0, .int .u64 0], .int .i64 0]) ∧ Up w w' := by
  have KV := Lib.hid (fun W (h : Sl W A n L) => validate9_up v c now n k A L W h)
  rw [stE_yes hst] at KV
  have HS := Lib.hid hS
  obtain ⟨hI, hl, hs⟩ := st_small hst
  have hn : n ≤ 65536 := by rw [← hS.1]; exact hl
  have hx : In (sqZ L) := by have := sq_bound hs; unfold In; omega
  have KA := Lib.hid (fun W (h : Sl W A n L) => squaresE_up n k A L (by omega) hI W h)
  have KB := Lib.hid (fun W => integer_up (sqZ L) hx W)
  rw [fit_yes hx, fits_yes hx] at KA
  unfold got at KA
  clear hx
  generalize sqZ L = x at *
  clear hS hst hI hl hs hn
  go_enter Try.func25, Try.ntmps25
  go_wp2_with (go_at_call 16; (with_reducible refine (KV.out _ (HS.out.up ((((Up.refl w).alloc _ _).alloc _ _).alloc _ _))).mono ?_); rintro e w1 ⟨rfl, hu⟩; have HU1 := Lib.hid (((((Up.refl w).alloc #[.int .i64 v, .int .i64 c, .int .i64 now, .slice A n k] 24).alloc #[.int .i64 3, .int .i64 a, .int .i64 b] 62).alloc #[.int .i64 0, .int .i64 0, .int .i64 0, .int .i64 0, .int .i64 0, .int .i64 0, .slice none 0 0, .int .u64 0, .int .u64 0, .int .u64 0, .int .u64 0] 58).trans hu); have s3 := hu.keep w.heap.size 3 (.slice A n k) (by simp [go_sem]); have q0 := hu.keep (w.heap.size + 1) 0 (.int .i64 3) (by simp [go_sem]); have q1 := hu.keep (w.heap.size + 1) 1 (.int .i64 a) (by simp [go_sem]); have q2 := hu.keep (w.heap.size + 1) 2 (.int .i64 b) (by simp [go_sem]); have r0 := hu.keep (w.heap.size + 1 + 1) 0 (.int .i64 0) (by simp [go_sem]); have r1 := hu.keep (w.heap.size + 1 + 1) 1 (.int .i64 0) (by simp [go_sem]); have r2 := hu.keep (w.heap.size + 1 + 1) 2 (.int .i64 0) (by simp [go_sem]); have r3 := hu.keep (w.heap.size + 1 + 1) 3 (.int .i64 0) (by simp [go_sem]); have r4 := hu.keep (w.heap.size + 1 + 1) 4 (.int .i64 0) (by simp [go_sem]); have r5 := hu.keep (w.heap.size + 1 + 1) 5 (.int .i64 0) (by simp [go_sem]); have r6 := hu.keep (w.heap.size + 1 + 1) 6 (.slice none 0 0) (by simp [go_sem]); have r7 := hu.keep (w.heap.size + 1 + 1) 7 (.int .u64 0) (by simp [go_sem]); have r8 := hu.keep (w.heap.size + 1 + 1) 8 (.int .u64 0) (by simp [go_sem]); have r9 := hu.keep (w.heap.size + 1 + 1) 9 (.int .u64 0) (by simp [go_sem]); have r10 := hu.keep (w.heap.size + 1 + 1) 10 (.int .u64 0) (by simp [go_sem]); have z0 := HU1.out.ownGe (g := w.heap.size + 1 + 1) (by omega) 0; have z1 := HU1.out.ownGe (g := w.heap.size + 1 + 1) (by omega) 1; have z2 := HU1.out.ownGe (g := w.heap.size + 1 + 1) (by omega) 2; have z3 := HU1.out.ownGe (g := w.heap.size + 1 + 1) (by omega) 3; have z4 := HU1.out.ownGe (g := w.heap.size + 1 + 1) (by omega) 4; have z5 := HU1.out.ownGe (g := w.heap.size + 1 + 1) (by omega) 5; have z6 := HU1.out.ownGe (g := w.heap.size + 1 + 1) (by omega) 6; have z7 := HU1.out.ownGe (g := w.heap.size + 1 + 1) (by omega) 7; have z8 := HU1.out.ownGe (g := w.heap.size + 1 + 1) (by omega) 8; have z9 := HU1.out.ownGe (g := w.heap.size + 1 + 1) (by omega) 9; have z10 := HU1.out.ownGe (g := w.heap.size + 1 + 1) (by omega) 10; have hlt : w.heap.size + 1 + 1 < w1.heap.size := World.block_lt_of_cell? _ _ r0; clear hu)
  refine (KA.out _ (HS.out.up HU1.out)).mono ?_
  rintro e w2 ⟨rfl, hu2⟩
  go_wp2_with fail
  refine (KB.out _).mono ?_
  rintro e w3 ⟨rfl, hu3⟩
  have hv := hu2.trans hu3
  clear hu2 hu3
  have HU2 := Lib.hid (HU1.out.trans hv)
  have R0 := hv.keep _ _ _ r0
  have R1 := hv.keep _ _ _ r1
  have R2 := hv.keep _ _ _ r2
  have R3 := hv.keep _ _ _ r3
  have R4 := hv.keep _ _ _ r4
  have R5 := hv.keep _ _ _ r5
  have R6 := hv.keep _ _ _ r6
  have R7 := hv.keep _ _ _ r7
  have R8 := hv.keep _ _ _ r8
  have R9 := hv.keep _ _ _ r9
  have R10 := hv.keep _ _ _ r10
  have Z0 := HU2.out.ownGe (g := w.heap.size + 1 + 1) (by omega) 0
  have Z1 := HU2.out.ownGe (g := w.heap.size + 1 + 1) (by omega) 1
  have Z2 := HU2.out.ownGe (g := w.heap.size + 1 + 1) (by omega) 2
  have Z3 := HU2.out.ownGe (g := w.heap.size + 1 + 1) (by omega) 3
  have Z4 := HU2.out.ownGe (g := w.heap.size + 1 + 1) (by omega) 4
  have Z5 := HU2.out.ownGe (g := w.heap.size + 1 + 1) (by omega) 5
  have Z6 := HU2.out.ownGe (g := w.heap.size + 1 + 1) (by omega) 6
  have Z7 := HU2.out.ownGe (g := w.heap.size + 1 + 1) (by omega) 7
  have Z8 := HU2.out.ownGe (g := w.heap.size + 1 + 1) (by omega) 8
  have Z9 := HU2.out.ownGe (g := w.heap.size + 1 + 1) (by omega) 9
  have Z10 := HU2.out.ownGe (g := w.heap.size + 1 + 1) (by omega) 10
  clear r0 r1 r2 r3 r4 r5 r6 r7 r8 r9 r10 z0 z1 z2 z3 z4 z5 z6 z7 z8 z9 z10 s3 q0 q1 q2
  clear hv
  go_wp2_with fail
  refine bodyPost_ret (v := .tuple #[.agg #[.int .i64 x, .int .i64 1, .int .i64 x, .int .i64 1, .int .i64 x, .int .i64 1, .slice none 0 0, .int .u64 0, .int .u64 0, .int .u64 0, .int .u64 0], .int .i64 0]) (by simp [results, Try.results25, go_sem, R0, R1, R2, R3, R4, R5, R6, R7, R8, R9, R10]) rfl ⟨rfl, ?_⟩
  exact HU2.out.set11 (by omega)

set_option maxHeartbeats 8000000 in
set_option maxRecDepth 100000 in
theorem ask9_4 (v c now a b : Int) (n k : Nat) (A : Option Addr) (L : List It) (hst : stB v c now L = true) (w : World) (hS : Sl w A n L) :
    Calls Try.prog 25 #[.agg #[.int .i64 v, .int .i64 c, .int .i64 now, .slice A n k], .agg #[.int .i64 4, .int .i64 a, .int .i64 b]] w fun e w' => e = .returned (.tuple #[.agg #[.int .i64 (grV L - leV L), .int .i64 1, .int .i64 (grV L - leV L), .int .i64 1, .int .i64 (grV L - leV L), .int .i64 1, .slice none 0 0, .int .u64 0, .int .u64 0, .int .u64 0, .int .u64 0], .int .i64 0]) ∧ Up w w' := by
  have KV := Lib.hid (fun W (h : Sl W A n L) => validate9_up v c now n k A L W h)
  rw [stE_yes hst] at KV
  have HS := Lib.hid hS
  obtain ⟨hI, hl, hs⟩ := st_small hst
  have hn : n ≤ 65536 := by rw [← hS.1]; exact hl
  have hx : In (grV L - leV L) := by have := ext_in hs; unfold In; omega
  have KA := Lib.hid (fun W (h : Sl W A n L) => distance_up n k A L (by omega) hs W h)
  have KB := Lib.hid (fun W => integer_up (grV L - leV L) hx W)
  clear hx
  generalize grV L - leV L = x at *
  clear hS hst hI hl hs hn
  go_enter Try.func25, Try.ntmps25
  go_wp2_with (go_at_call 16; (with_reducible refine (KV.out _ (HS.out.up ((((Up.refl w).alloc _ _).alloc _ _).alloc _ _))).mono ?_); rintro e w1 ⟨rfl, hu⟩; have HU1 := Lib.hid (((((Up.refl w).alloc #[.int .i64 v, .int .i64 c, .int .i64 now, .slice A n k] 24).alloc #[.int .i64 4, .int .i64 a, .int .i64 b] 62).alloc #[.int .i64 0, .int .i64 0, .int .i64 0, .int .i64 0, .int .i64 0, .int .i64 0, .slice none 0 0, .int .u64 0, .int .u64 0, .int .u64 0, .int .u64 0] 58).trans hu); have s3 := hu.keep w.heap.size 3 (.slice A n k) (by simp [go_sem]); have q0 := hu.keep (w.heap.size + 1) 0 (.int .i64 4) (by simp [go_sem]); have q1 := hu.keep (w.heap.size + 1) 1 (.int .i64 a) (by simp [go_sem]); have q2 := hu.keep (w.heap.size + 1) 2 (.int .i64 b) (by simp [go_sem]); have r0 := hu.keep (w.heap.size + 1 + 1) 0 (.int .i64 0) (by simp [go_sem]); have r1 := hu.keep (w.heap.size + 1 + 1) 1 (.int .i64 0) (by simp [go_sem]); have r2 := hu.keep (w.heap.size + 1 + 1) 2 (.int .i64 0) (by simp [go_sem]); have r3 := hu.keep (w.heap.size + 1 + 1) 3 (.int .i64 0) (by simp [go_sem]); have r4 := hu.keep (w.heap.size + 1 + 1) 4 (.int .i64 0) (by simp [go_sem]); have r5 := hu.keep (w.heap.size + 1 + 1) 5 (.int .i64 0) (by simp [go_sem]); have r6 := hu.keep (w.heap.size + 1 + 1) 6 (.slice none 0 0) (by simp [go_sem]); have r7 := hu.keep (w.heap.size + 1 + 1) 7 (.int .u64 0) (by simp [go_sem]); have r8 := hu.keep (w.heap.size + 1 + 1) 8 (.int .u64 0) (by simp [go_sem]); have r9 := hu.keep (w.heap.size + 1 + 1) 9 (.int .u64 0) (by simp [go_sem]); have r10 := hu.keep (w.heap.size + 1 + 1) 10 (.int .u64 0) (by simp [go_sem]); have z0 := HU1.out.ownGe (g := w.heap.size + 1 + 1) (by omega) 0; have z1 := HU1.out.ownGe (g := w.heap.size + 1 + 1) (by omega) 1; have z2 := HU1.out.ownGe (g := w.heap.size + 1 + 1) (by omega) 2; have z3 := HU1.out.ownGe (g := w.heap.size + 1 + 1) (by omega) 3; have z4 := HU1.out.ownGe (g := w.heap.size + 1 + 1) (by omega) 4; have z5 := HU1.out.ownGe (g := w.heap.size + 1 + 1) (by omega) 5; have z6 := HU1.out.ownGe (g := w.heap.size + 1 + 1) (by omega) 6; have z7 := HU1.out.ownGe (g := w.heap.size + 1 + 1) (by omega) 7; have z8 := HU1.out.ownGe (g := w.heap.size + 1 + 1) (by omega) 8; have z9 := HU1.out.ownGe (g := w.heap.size + 1 + 1) (by omega) 9; have z10 := HU1.out.ownGe (g := w.heap.size + 1 + 1) (by omega) 10; have hlt : w.heap.size + 1 + 1 < w1.heap.size := World.block_lt_of_cell? _ _ r0; clear hu)
  refine (KA.out _ (HS.out.up HU1.out)).mono ?_
  rintro e w2 ⟨rfl, hu2⟩
  go_wp2_with fail
  refine (KB.out _).mono ?_
  rintro e w3 ⟨rfl, hu3⟩
  have hv := hu2.trans hu3
  clear hu2 hu3
  have HU2 := Lib.hid (HU1.out.trans hv)
  have R0 := hv.keep _ _ _ r0
  have R1 := hv.keep _ _ _ r1
  have R2 := hv.keep _ _ _ r2
  have R3 := hv.keep _ _ _ r3
  have R4 := hv.keep _ _ _ r4
  have R5 := hv.keep _ _ _ r5
  have R6 := hv.keep _ _ _ r6
  have R7 := hv.keep _ _ _ r7
  have R8 := hv.keep _ _ _ r8
  have R9 := hv.keep _ _ _ r9
  have R10 := hv.keep _ _ _ r10
  have Z0 := HU2.out.ownGe (g := w.heap.size + 1 + 1) (by omega) 0
  have Z1 := HU2.out.ownGe (g := w.heap.size + 1 + 1) (by omega) 1
  have Z2 := HU2.out.ownGe (g := w.heap.size + 1 + 1) (by omega) 2
  have Z3 := HU2.out.ownGe (g := w.heap.size + 1 + 1) (by omega) 3
  have Z4 := HU2.out.ownGe (g := w.heap.size + 1 + 1) (by omega) 4
  have Z5 := HU2.out.ownGe (g := w.heap.size + 1 + 1) (by omega) 5
  have Z6 := HU2.out.ownGe (g := w.heap.size + 1 + 1) (by omega) 6
  have Z7 := HU2.out.ownGe (g := w.heap.size + 1 + 1) (by omega) 7
  have Z8 := HU2.out.ownGe (g := w.heap.size + 1 + 1) (by omega) 8
  have Z9 := HU2.out.ownGe (g := w.heap.size + 1 + 1) (by omega) 9
  have Z10 := HU2.out.ownGe (g := w.heap.size + 1 + 1) (by omega) 10
  clear r0 r1 r2 r3 r4 r5 r6 r7 r8 r9 r10 z0 z1 z2 z3 z4 z5 z6 z7 z8 z9 z10 s3 q0 q1 q2
  clear hv
  go_wp2_with fail
  refine bodyPost_ret (v := .tuple #[.agg #[.int .i64 x, .int .i64 1, .int .i64 x, .int .i64 1, .int .i64 x, .int .i64 1, .slice none 0 0, .int .u64 0, .int .u64 0, .int .u64 0, .int .u64 0], .int .i64 0]) (by simp [results, Try.results25, go_sem, R0, R1, R2, R3, R4, R5, R6, R7, R8, R9, R10]) rfl ⟨rfl, ?_⟩
  exact HU2.out.set11 (by omega)

set_option maxHeartbeats 8000000 in
set_option maxRecDepth 100000 in
theorem ask9_5 (v c now a b : Int) (n k : Nat) (A : Option Addr) (L : List It) (hst : stB v c now L = true) (w : World) (hS : Sl w A n L) :
    Calls Try.prog 25 #[.agg #[.int .i64 v, .int .i64 c, .int .i64 now, .slice A n k], .agg #[.int .i64 5, .int .i64 a, .int .i64 b]] w fun e w' => e = .returned (.tuple #[.agg #[.int .i64 (sprN L), .int .i64 (sprD L), .int .i64 (sprN L), .int .i64 (sprD L), .int .i64 (sprN L), .int .i64 (sprD L), .slice none 0 0, .int .u64 0, .int .u64 0, .int .u64 0, .int .u64 0], .int .i64 0]) ∧ Up w w' := by
  have KV := Lib.hid (fun W (h : Sl W A n L) => validate9_up v c now n k A L W h)
  rw [stE_yes hst] at KV
  have HS := Lib.hid hS
  obtain ⟨hI, hl, hs⟩ := st_small hst
  have hn : n ≤ 65536 := by rw [← hS.1]; exact hl
  have hx := spr_ok hs hl
  have KA := Lib.hid (fun W (h : Sl W A n L) => spread_up n k A L (by omega) hI W h)
  have KB := Lib.hid (fun W => number_up (sprN L) (sprD L) hx.1 hx.2.1 hx.2.2.1 W)
  rw [hx.2.2.2] at KA
  unfold gotR at KA
  clear hx
  generalize sprN L = x at *
  generalize sprD L = y at *
  clear hS hst hI hl hs hn
  go_enter Try.func25, Try.ntmps25
  go_wp2_with (go_at_call 16; (with_reducible refine (KV.out _ (HS.out.up ((((Up.refl w).alloc _ _).alloc _ _).alloc _ _))).mono ?_); rintro e w1 ⟨rfl, hu⟩; have HU1 := Lib.hid (((((Up.refl w).alloc #[.int .i64 v, .int .i64 c, .int .i64 now, .slice A n k] 24).alloc #[.int .i64 5, .int .i64 a, .int .i64 b] 62).alloc #[.int .i64 0, .int .i64 0, .int .i64 0, .int .i64 0, .int .i64 0, .int .i64 0, .slice none 0 0, .int .u64 0, .int .u64 0, .int .u64 0, .int .u64 0] 58).trans hu); have s3 := hu.keep w.heap.size 3 (.slice A n k) (by simp [go_sem]); have q0 := hu.keep (w.heap.size + 1) 0 (.int .i64 5) (by simp [go_sem]); have q1 := hu.keep (w.heap.size + 1) 1 (.int .i64 a) (by simp [go_sem]); have q2 := hu.keep (w.heap.size + 1) 2 (.int .i64 b) (by simp [go_sem]); have r0 := hu.keep (w.heap.size + 1 + 1) 0 (.int .i64 0) (by simp [go_sem]); have r1 := hu.keep (w.heap.size + 1 + 1) 1 (.int .i64 0) (by simp [go_sem]); have r2 := hu.keep (w.heap.size + 1 + 1) 2 (.int .i64 0) (by simp [go_sem]); have r3 := hu.keep (w.heap.size + 1 + 1) 3 (.int .i64 0) (by simp [go_sem]); have r4 := hu.keep (w.heap.size + 1 + 1) 4 (.int .i64 0) (by simp [go_sem]); have r5 := hu.keep (w.heap.size + 1 + 1) 5 (.int .i64 0) (by simp [go_sem]); have r6 := hu.keep (w.heap.size + 1 + 1) 6 (.slice none 0 0) (by simp [go_sem]); have r7 := hu.keep (w.heap.size + 1 + 1) 7 (.int .u64 0) (by simp [go_sem]); have r8 := hu.keep (w.heap.size + 1 + 1) 8 (.int .u64 0) (by simp [go_sem]); have r9 := hu.keep (w.heap.size + 1 + 1) 9 (.int .u64 0) (by simp [go_sem]); have r10 := hu.keep (w.heap.size + 1 + 1) 10 (.int .u64 0) (by simp [go_sem]); have z0 := HU1.out.ownGe (g := w.heap.size + 1 + 1) (by omega) 0; have z1 := HU1.out.ownGe (g := w.heap.size + 1 + 1) (by omega) 1; have z2 := HU1.out.ownGe (g := w.heap.size + 1 + 1) (by omega) 2; have z3 := HU1.out.ownGe (g := w.heap.size + 1 + 1) (by omega) 3; have z4 := HU1.out.ownGe (g := w.heap.size + 1 + 1) (by omega) 4; have z5 := HU1.out.ownGe (g := w.heap.size + 1 + 1) (by omega) 5; have z6 := HU1.out.ownGe (g := w.heap.size + 1 + 1) (by omega) 6; have z7 := HU1.out.ownGe (g := w.heap.size + 1 + 1) (by omega) 7; have z8 := HU1.out.ownGe (g := w.heap.size + 1 + 1) (by omega) 8; have z9 := HU1.out.ownGe (g := w.heap.size + 1 + 1) (by omega) 9; have z10 := HU1.out.ownGe (g := w.heap.size + 1 + 1) (by omega) 10; have hlt : w.heap.size + 1 + 1 < w1.heap.size := World.block_lt_of_cell? _ _ r0; clear hu)
  refine (KA.out _ (HS.out.up HU1.out)).mono ?_
  rintro e w2 ⟨rfl, hu2⟩
  go_wp2_with fail
  refine (KB.out _).mono ?_
  rintro e w3 ⟨rfl, hu3⟩
  have hv := (hu2.alloc #[.int .i64 x, .int .i64 y] 46).trans hu3
  clear hu2 hu3
  have HU2 := Lib.hid (HU1.out.trans hv)
  have R0 := hv.keep _ _ _ r0
  have R1 := hv.keep _ _ _ r1
  have R2 := hv.keep _ _ _ r2
  have R3 := hv.keep _ _ _ r3
  have R4 := hv.keep _ _ _ r4
  have R5 := hv.keep _ _ _ r5
  have R6 := hv.keep _ _ _ r6
  have R7 := hv.keep _ _ _ r7
  have R8 := hv.keep _ _ _ r8
  have R9 := hv.keep _ _ _ r9
  have R10 := hv.keep _ _ _ r10
  have Z0 := HU2.out.ownGe (g := w.heap.size + 1 + 1) (by omega) 0
  have Z1 := HU2.out.ownGe (g := w.heap.size + 1 + 1) (by omega) 1
  have Z2 := HU2.out.ownGe (g := w.heap.size + 1 + 1) (by omega) 2
  have Z3 := HU2.out.ownGe (g := w.heap.size + 1 + 1) (by omega) 3
  have Z4 := HU2.out.ownGe (g := w.heap.size + 1 + 1) (by omega) 4
  have Z5 := HU2.out.ownGe (g := w.heap.size + 1 + 1) (by omega) 5
  have Z6 := HU2.out.ownGe (g := w.heap.size + 1 + 1) (by omega) 6
  have Z7 := HU2.out.ownGe (g := w.heap.size + 1 + 1) (by omega) 7
  have Z8 := HU2.out.ownGe (g := w.heap.size + 1 + 1) (by omega) 8
  have Z9 := HU2.out.ownGe (g := w.heap.size + 1 + 1) (by omega) 9
  have Z10 := HU2.out.ownGe (g := w.heap.size + 1 + 1) (by omega) 10
  clear r0 r1 r2 r3 r4 r5 r6 r7 r8 r9 r10 z0 z1 z2 z3 z4 z5 z6 z7 z8 z9 z10 s3 q0 q1 q2
  clear hv
  go_wp2_with fail
  refine bodyPost_ret (v := .tuple #[.agg #[.int .i64 x, .int .i64 y, .int .i64 x, .int .i64 y, .int .i64 x, .int .i64 y, .slice none 0 0, .int .u64 0, .int .u64 0, .int .u64 0, .int .u64 0], .int .i64 0]) (by simp [results, Try.results25, go_sem, R0, R1, R2, R3, R4, R5, R6, R7, R8, R9, R10]) rfl ⟨rfl, ?_⟩
  exact HU2.out.set11 (by omega)

set_option maxHeartbeats 8000000 in
set_option maxRecDepth 100000 in
theorem ask9_7 (v c now a b : Int) (n k : Nat) (A : Option Addr) (L : List It) (hst : stB v c now L = true) (w : World) (hS : Sl w A n L) :
    Calls Try.prog 25 #[.agg #[.int .i64 v, .int .i64 c, .int .i64 now, .slice A n k], .agg #[.int .i64 7, .int .i64 a, .int .i64 b]] w fun e w' => e = .returned (.tuple #[.agg #[.int .i64 (rkN a L : Int), .int .i64 1, .int .i64 (rkN a L : Int), .int .i64 1, .int .i64 (rkN a L : Int), .int .i64 1, .slice none 0 0, .int .u64 0, .int .u64 0, .int .u64 0, .int .u64 0], .int .i64 0]) ∧ Up w w' := by
  have KV := Lib.hid (fun W (h : Sl W A n L) => validate9_up v c now n k A L W h)
  rw [stE_yes hst] at KV
  have HS := Lib.hid hS
  obtain ⟨hI, hl, hs⟩ := st_small hst
  have hn : n ≤ 65536 := by rw [← hS.1]; exact hl
  have hx : In (rkN a L : Int) := by have := rkN_le a L; unfold In; omega
  have KA := Lib.hid (fun W (h : Sl W A n L) => rank_up n k A L a (by omega) W h)
  have KB := Lib.hid (fun W => integer_up (rkN a L : Int) hx W)
  clear hx
  generalize (rkN a L : Int) = x at *
  clear hS hst hI hl hs hn
  go_enter Try.func25, Try.ntmps25
  go_wp2_with (go_at_call 16; (with_reducible refine (KV.out _ (HS.out.up ((((Up.refl w).alloc _ _).alloc _ _).alloc _ _))).mono ?_); rintro e w1 ⟨rfl, hu⟩; have HU1 := Lib.hid (((((Up.refl w).alloc #[.int .i64 v, .int .i64 c, .int .i64 now, .slice A n k] 24).alloc #[.int .i64 7, .int .i64 a, .int .i64 b] 62).alloc #[.int .i64 0, .int .i64 0, .int .i64 0, .int .i64 0, .int .i64 0, .int .i64 0, .slice none 0 0, .int .u64 0, .int .u64 0, .int .u64 0, .int .u64 0] 58).trans hu); have s3 := hu.keep w.heap.size 3 (.slice A n k) (by simp [go_sem]); have q0 := hu.keep (w.heap.size + 1) 0 (.int .i64 7) (by simp [go_sem]); have q1 := hu.keep (w.heap.size + 1) 1 (.int .i64 a) (by simp [go_sem]); have q2 := hu.keep (w.heap.size + 1) 2 (.int .i64 b) (by simp [go_sem]); have r0 := hu.keep (w.heap.size + 1 + 1) 0 (.int .i64 0) (by simp [go_sem]); have r1 := hu.keep (w.heap.size + 1 + 1) 1 (.int .i64 0) (by simp [go_sem]); have r2 := hu.keep (w.heap.size + 1 + 1) 2 (.int .i64 0) (by simp [go_sem]); have r3 := hu.keep (w.heap.size + 1 + 1) 3 (.int .i64 0) (by simp [go_sem]); have r4 := hu.keep (w.heap.size + 1 + 1) 4 (.int .i64 0) (by simp [go_sem]); have r5 := hu.keep (w.heap.size + 1 + 1) 5 (.int .i64 0) (by simp [go_sem]); have r6 := hu.keep (w.heap.size + 1 + 1) 6 (.slice none 0 0) (by simp [go_sem]); have r7 := hu.keep (w.heap.size + 1 + 1) 7 (.int .u64 0) (by simp [go_sem]); have r8 := hu.keep (w.heap.size + 1 + 1) 8 (.int .u64 0) (by simp [go_sem]); have r9 := hu.keep (w.heap.size + 1 + 1) 9 (.int .u64 0) (by simp [go_sem]); have r10 := hu.keep (w.heap.size + 1 + 1) 10 (.int .u64 0) (by simp [go_sem]); have z0 := HU1.out.ownGe (g := w.heap.size + 1 + 1) (by omega) 0; have z1 := HU1.out.ownGe (g := w.heap.size + 1 + 1) (by omega) 1; have z2 := HU1.out.ownGe (g := w.heap.size + 1 + 1) (by omega) 2; have z3 := HU1.out.ownGe (g := w.heap.size + 1 + 1) (by omega) 3; have z4 := HU1.out.ownGe (g := w.heap.size + 1 + 1) (by omega) 4; have z5 := HU1.out.ownGe (g := w.heap.size + 1 + 1) (by omega) 5; have z6 := HU1.out.ownGe (g := w.heap.size + 1 + 1) (by omega) 6; have z7 := HU1.out.ownGe (g := w.heap.size + 1 + 1) (by omega) 7; have z8 := HU1.out.ownGe (g := w.heap.size + 1 + 1) (by omega) 8; have z9 := HU1.out.ownGe (g := w.heap.size + 1 + 1) (by omega) 9; have z10 := HU1.out.ownGe (g := w.heap.size + 1 + 1) (by omega) 10; have hlt : w.heap.size + 1 + 1 < w1.heap.size := World.block_lt_of_cell? _ _ r0; clear hu)
  refine (KA.out _ (HS.out.up HU1.out)).mono ?_
  rintro e w2 ⟨rfl, hu2⟩
  go_wp2_with fail
  refine (KB.out _).mono ?_
  rintro e w3 ⟨rfl, hu3⟩
  have hv := hu2.trans hu3
  clear hu2 hu3
  have HU2 := Lib.hid (HU1.out.trans hv)
  have R0 := hv.keep _ _ _ r0
  have R1 := hv.keep _ _ _ r1
  have R2 := hv.keep _ _ _ r2
  have R3 := hv.keep _ _ _ r3
  have R4 := hv.keep _ _ _ r4
  have R5 := hv.keep _ _ _ r5
  have R6 := hv.keep _ _ _ r6
  have R7 := hv.keep _ _ _ r7
  have R8 := hv.keep _ _ _ r8
  have R9 := hv.keep _ _ _ r9
  have R10 := hv.keep _ _ _ r10
  have Z0 := HU2.out.ownGe (g := w.heap.size + 1 + 1) (by omega) 0
  have Z1 := HU2.out.ownGe (g := w.heap.size + 1 + 1) (by omega) 1
  have Z2 := HU2.out.ownGe (g := w.heap.size + 1 + 1) (by omega) 2
  have Z3 := HU2.out.ownGe (g := w.heap.size + 1 + 1) (by omega) 3
  have Z4 := HU2.out.ownGe (g := w.heap.size + 1 + 1) (by omega) 4
  have Z5 := HU2.out.ownGe (g := w.heap.size + 1 + 1) (by omega) 5
  have Z6 := HU2.out.ownGe (g := w.heap.size + 1 + 1) (by omega) 6
  have Z7 := HU2.out.ownGe (g := w.heap.size + 1 + 1) (by omega) 7
  have Z8 := HU2.out.ownGe (g := w.heap.size + 1 + 1) (by omega) 8
  have Z9 := HU2.out.ownGe (g := w.heap.size + 1 + 1) (by omega) 9
  have Z10 := HU2.out.ownGe (g := w.heap.size + 1 + 1) (by omega) 10
  clear r0 r1 r2 r3 r4 r5 r6 r7 r8 r9 r10 z0 z1 z2 z3 z4 z5 z6 z7 z8 z9 z10 s3 q0 q1 q2
  clear hv
  go_wp2_with fail
  refine bodyPost_ret (v := .tuple #[.agg #[.int .i64 x, .int .i64 1, .int .i64 x, .int .i64 1, .int .i64 x, .int .i64 1, .slice none 0 0, .int .u64 0, .int .u64 0, .int .u64 0, .int .u64 0], .int .i64 0]) (by simp [results, Try.results25, go_sem, R0, R1, R2, R3, R4, R5, R6, R7, R8, R9, R10]) rfl ⟨rfl, ?_⟩
  exact HU2.out.set11 (by omega)

set_option maxHeartbeats 8000000 in
set_option maxRecDepth 100000 in
theorem ask9_6 (v c now a b : Int) (n k : Nat) (A : Option Addr) (L : List It) (hst : stB v c now L = true) {N D e0 : Int} {Vs : List Int} (h : (if L = [] then ((0 : Int), (0 : Int), ([] : List Int), (7 : Int)) else (0, 0, [leV L, grV L], 0)) = (N, D, Vs, e0)) (w : World) (hS : Sl w A n L) :
    Calls Try.prog 25 #[.agg #[.int .i64 v, .int .i64 c, .int .i64 now, .slice A n k], .agg #[.int .i64 6, .int .i64 a, .int .i64 b]] w fun e w' => ∃ A' k', e = .returned (.tuple #[.agg #[.int .i64 N, .int .i64 D, .int .i64 N, .int .i64 D, .int .i64 N, .int .i64 D, .slice A' Vs.length k', .int .u64 0, .int .u64 0, .int .u64 0, .int .u64 0], .int .i64 e0]) ∧ Sn w' A' Vs.length Vs ∧ Up w w' := by
  have KV := Lib.hid (fun W (h : Sl W A n L) => validate9_up v c now n k A L W h)
  rw [stE_yes hst] at KV
  have HS := Lib.hid hS
  obtain ⟨hI, hl, hs⟩ := st_small hst
  have hn : n ≤ 65536 := by rw [← hS.1]; exact hl
  have KA := Lib.hid (fun W (g : Sl W A n L) => extremes_up n k A L (by omega) W g h)
  clear hS hst hI hl hs hn h
  generalize Vs.length = m at *
  go_enter Try.func25, Try.ntmps25
  go_wp2_with (go_at_call 16; (with_reducible refine (KV.out _ (HS.out.up ((((Up.refl w).alloc _ _).alloc _ _).alloc _ _))).mono ?_); rintro e w1 ⟨rfl, hu⟩; have HU1 := Lib.hid (((((Up.refl w).alloc #[.int .i64 v, .int .i64 c, .int .i64 now, .slice A n k] 24).alloc #[.int .i64 6, .int .i64 a, .int .i64 b] 62).alloc #[.int .i64 0, .int .i64 0, .int .i64 0, .int .i64 0, .int .i64 0, .int .i64 0, .slice none 0 0, .int .u64 0, .int .u64 0, .int .u64 0, .int .u64 0] 58).trans hu); have s3 := hu.keep w.heap.size 3 (.slice A n k) (by simp [go_sem]); have q0 := hu.keep (w.heap.size + 1) 0 (.int .i64 6) (by simp [go_sem]); have q1 := hu.keep (w.heap.size + 1) 1 (.int .i64 a) (by simp [go_sem]); have q2 := hu.keep (w.heap.size + 1) 2 (.int .i64 b) (by simp [go_sem]); have r0 := hu.keep (w.heap.size + 1 + 1) 0 (.int .i64 0) (by simp [go_sem]); have r1 := hu.keep (w.heap.size + 1 + 1) 1 (.int .i64 0) (by simp [go_sem]); have r2 := hu.keep (w.heap.size + 1 + 1) 2 (.int .i64 0) (by simp [go_sem]); have r3 := hu.keep (w.heap.size + 1 + 1) 3 (.int .i64 0) (by simp [go_sem]); have r4 := hu.keep (w.heap.size + 1 + 1) 4 (.int .i64 0) (by simp [go_sem]); have r5 := hu.keep (w.heap.size + 1 + 1) 5 (.int .i64 0) (by simp [go_sem]); have r6 := hu.keep (w.heap.size + 1 + 1) 6 (.slice none 0 0) (by simp [go_sem]); have r7 := hu.keep (w.heap.size + 1 + 1) 7 (.int .u64 0) (by simp [go_sem]); have r8 := hu.keep (w.heap.size + 1 + 1) 8 (.int .u64 0) (by simp [go_sem]); have r9 := hu.keep (w.heap.size + 1 + 1) 9 (.int .u64 0) (by simp [go_sem]); have r10 := hu.keep (w.heap.size + 1 + 1) 10 (.int .u64 0) (by simp [go_sem]); have z0 := HU1.out.ownGe (g := w.heap.size + 1 + 1) (by omega) 0; have z1 := HU1.out.ownGe (g := w.heap.size + 1 + 1) (by omega) 1; have z2 := HU1.out.ownGe (g := w.heap.size + 1 + 1) (by omega) 2; have z3 := HU1.out.ownGe (g := w.heap.size + 1 + 1) (by omega) 3; have z4 := HU1.out.ownGe (g := w.heap.size + 1 + 1) (by omega) 4; have z5 := HU1.out.ownGe (g := w.heap.size + 1 + 1) (by omega) 5; have z6 := HU1.out.ownGe (g := w.heap.size + 1 + 1) (by omega) 6; have z7 := HU1.out.ownGe (g := w.heap.size + 1 + 1) (by omega) 7; have z8 := HU1.out.ownGe (g := w.heap.size + 1 + 1) (by omega) 8; have z9 := HU1.out.ownGe (g := w.heap.size + 1 + 1) (by omega) 9; have z10 := HU1.out.ownGe (g := w.heap.size + 1 + 1) (by omega) 10; have hlt : w.heap.size + 1 + 1 < w1.heap.size := World.block_lt_of_cell? _ _ r0; clear hu)
  refine (KA.out _ (HS.out.up HU1.out)).mono ?_
  rintro e w2 ⟨A2, k2, rfl, hN, hW, hv⟩
  have HN := Lib.hid (And.intro hN hW)
  have R0 := hv.keep _ _ _ r0
  have R1 := hv.keep _ _ _ r1
  have R2 := hv.keep _ _ _ r2
  have R3 := hv.keep _ _ _ r3
  have R4 := hv.keep _ _ _ r4
  have R5 := hv.keep _ _ _ r5
  have R6 := hv.keep _ _ _ r6
  have R7 := hv.keep _ _ _ r7
  have R8 := hv.keep _ _ _ r8
  have R9 := hv.keep _ _ _ r9
  have R10 := hv.keep _ _ _ r10
  have HU2 := Lib.hid (HU1.out.trans hv)
  have Z0 := HU2.out.ownGe (g := w.heap.size + 1 + 1) (by omega) 0
  have Z1 := HU2.out.ownGe (g := w.heap.size + 1 + 1) (by omega) 1
  have Z2 := HU2.out.ownGe (g := w.heap.size + 1 + 1) (by omega) 2
  have Z3 := HU2.out.ownGe (g := w.heap.size + 1 + 1) (by omega) 3
  have Z4 := HU2.out.ownGe (g := w.heap.size + 1 + 1) (by omega) 4
  have Z5 := HU2.out.ownGe (g := w.heap.size + 1 + 1) (by omega) 5
  have Z6 := HU2.out.ownGe (g := w.heap.size + 1 + 1) (by omega) 6
  have Z7 := HU2.out.ownGe (g := w.heap.size + 1 + 1) (by omega) 7
  have Z8 := HU2.out.ownGe (g := w.heap.size + 1 + 1) (by omega) 8
  have Z9 := HU2.out.ownGe (g := w.heap.size + 1 + 1) (by omega) 9
  have Z10 := HU2.out.ownGe (g := w.heap.size + 1 + 1) (by omega) 10
  clear hv hN hW r0 r1 r2 r3 r4 r5 r6 r7 r8 r9 r10 z0 z1 z2 z3 z4 z5 z6 z7 z8 z9 z10 s3 q0 q1 q2
  go_wp2_with fail
  refine bodyPost_ret (v := .tuple #[.agg #[.int .i64 N, .int .i64 D, .int .i64 N, .int .i64 D, .int .i64 N, .int .i64 D, .slice A2 m k2, .int .u64 0, .int .u64 0, .int .u64 0, .int .u64 0], .int .i64 e0]) (by simp [results, Try.results25, go_sem, R0, R1, R2, R3, R4, R5, R6, R7, R8, R9, R10]) rfl ⟨A2, k2, rfl, ?_, ?_⟩
  · exact HN.out.1.set11 (HN.out.2.off hlt)
  · exact HU2.out.set11 (by omega)

set_option maxHeartbeats 8000000 in
set_option maxRecDepth 100000 in
theorem ask9_8 (v c now a b : Int) (n k : Nat) (A : Option Addr) (L : List It) (hst : stB v c now L = true) (hb : b ≤ 9223372036854775807) {N D e0 : Int} {Vs : List Int} (h : (if askB a b = false then ((0 : Int), (0 : Int), ([] : List Int), (1 : Int)) else if (qnO L a b).isSome = true then (0, 0, [(qnO L a b).getD 0], 0) else (0, 0, [], 7)) = (N, D, Vs, e0)) (w : World) (hS : Sl w A n L) :
    Calls Try.prog 25 #[.agg #[.int .i64 v, .int .i64 c, .int .i64 now, .slice A n k], .agg #[.int .i64 8, .int .i64 a, .int .i64 b]] w fun e w' => ∃ A' k', e = .returned (.tuple #[.agg #[.int .i64 N, .int .i64 D, .int .i64 N, .int .i64 D, .int .i64 N, .int .i64 D, .slice A' Vs.length k', .int .u64 0, .int .u64 0, .int .u64 0, .int .u64 0], .int .i64 e0]) ∧ Sn w' A' Vs.length Vs ∧ Lo w w' := by
  have KV := Lib.hid (fun W (h : Sl W A n L) => validate9_up v c now n k A L W h)
  rw [stE_yes hst] at KV
  have HS := Lib.hid hS
  obtain ⟨hI, hl, hs⟩ := st_small hst
  have hn : n ≤ 65536 := by rw [← hS.1]; exact hl
  have KA := Lib.hid (fun W (g : Sl W A n L) => quantile9_lo n k A L a b hb (by omega) W g h)
  clear hS hst hI hl hs hn h
  generalize Vs.length = m at *
  go_enter Try.func25, Try.ntmps25
  go_wp2_with (go_at_call 16; (with_reducible refine (KV.out _ (HS.out.up ((((Up.refl w).alloc _ _).alloc _ _).alloc _ _))).mono ?_); rintro e w1 ⟨rfl, hu⟩; have HU1 := Lib.hid (((((Up.refl w).alloc #[.int .i64 v, .int .i64 c, .int .i64 now, .slice A n k] 24).alloc #[.int .i64 8, .int .i64 a, .int .i64 b] 62).alloc #[.int .i64 0, .int .i64 0, .int .i64 0, .int .i64 0, .int .i64 0, .int .i64 0, .slice none 0 0, .int .u64 0, .int .u64 0, .int .u64 0, .int .u64 0] 58).trans hu); have s3 := hu.keep w.heap.size 3 (.slice A n k) (by simp [go_sem]); have q0 := hu.keep (w.heap.size + 1) 0 (.int .i64 8) (by simp [go_sem]); have q1 := hu.keep (w.heap.size + 1) 1 (.int .i64 a) (by simp [go_sem]); have q2 := hu.keep (w.heap.size + 1) 2 (.int .i64 b) (by simp [go_sem]); have r0 := hu.keep (w.heap.size + 1 + 1) 0 (.int .i64 0) (by simp [go_sem]); have r1 := hu.keep (w.heap.size + 1 + 1) 1 (.int .i64 0) (by simp [go_sem]); have r2 := hu.keep (w.heap.size + 1 + 1) 2 (.int .i64 0) (by simp [go_sem]); have r3 := hu.keep (w.heap.size + 1 + 1) 3 (.int .i64 0) (by simp [go_sem]); have r4 := hu.keep (w.heap.size + 1 + 1) 4 (.int .i64 0) (by simp [go_sem]); have r5 := hu.keep (w.heap.size + 1 + 1) 5 (.int .i64 0) (by simp [go_sem]); have r6 := hu.keep (w.heap.size + 1 + 1) 6 (.slice none 0 0) (by simp [go_sem]); have r7 := hu.keep (w.heap.size + 1 + 1) 7 (.int .u64 0) (by simp [go_sem]); have r8 := hu.keep (w.heap.size + 1 + 1) 8 (.int .u64 0) (by simp [go_sem]); have r9 := hu.keep (w.heap.size + 1 + 1) 9 (.int .u64 0) (by simp [go_sem]); have r10 := hu.keep (w.heap.size + 1 + 1) 10 (.int .u64 0) (by simp [go_sem]); have z0 := HU1.out.ownGe (g := w.heap.size + 1 + 1) (by omega) 0; have z1 := HU1.out.ownGe (g := w.heap.size + 1 + 1) (by omega) 1; have z2 := HU1.out.ownGe (g := w.heap.size + 1 + 1) (by omega) 2; have z3 := HU1.out.ownGe (g := w.heap.size + 1 + 1) (by omega) 3; have z4 := HU1.out.ownGe (g := w.heap.size + 1 + 1) (by omega) 4; have z5 := HU1.out.ownGe (g := w.heap.size + 1 + 1) (by omega) 5; have z6 := HU1.out.ownGe (g := w.heap.size + 1 + 1) (by omega) 6; have z7 := HU1.out.ownGe (g := w.heap.size + 1 + 1) (by omega) 7; have z8 := HU1.out.ownGe (g := w.heap.size + 1 + 1) (by omega) 8; have z9 := HU1.out.ownGe (g := w.heap.size + 1 + 1) (by omega) 9; have z10 := HU1.out.ownGe (g := w.heap.size + 1 + 1) (by omega) 10; have hlt : w.heap.size + 1 + 1 < w1.heap.size := World.block_lt_of_cell? _ _ r0; clear hu)
  refine (KA.out _ (HS.out.up HU1.out)).mono ?_
  rintro e w2 ⟨A2, k2, rfl, hN, hW, hv⟩
  have HN := Lib.hid (And.intro hN hW)
  have R0 := hv.keep _ _ _ r0
  have R1 := hv.keep _ _ _ r1
  have R2 := hv.keep _ _ _ r2
  have R3 := hv.keep _ _ _ r3
  have R4 := hv.keep _ _ _ r4
  have R5 := hv.keep _ _ _ r5
  have R6 := hv.keep _ _ _ r6
  have R7 := hv.keep _ _ _ r7
  have R8 := hv.keep _ _ _ r8
  have R9 := hv.keep _ _ _ r9
  have R10 := hv.keep _ _ _ r10
  have HU2 : Hid (Lo w w2) := Lib.hid (Below.trans HU1.out.below (hv.mono HU1.out.size))
  have Z0 := (hv.frozen9 ⟨w.heap.size + 1 + 1, 0, none⟩ hlt).trans z0
  have Z1 := (hv.frozen9 ⟨w.heap.size + 1 + 1, 1, none⟩ hlt).trans z1
  have Z2 := (hv.frozen9 ⟨w.heap.size + 1 + 1, 2, none⟩ hlt).trans z2
  have Z3 := (hv.frozen9 ⟨w.heap.size + 1 + 1, 3, none⟩ hlt).trans z3
  have Z4 := (hv.frozen9 ⟨w.heap.size + 1 + 1, 4, none⟩ hlt).trans z4
  have Z5 := (hv.frozen9 ⟨w.heap.size + 1 + 1, 5, none⟩ hlt).trans z5
  have Z6 := (hv.frozen9 ⟨w.heap.size + 1 + 1, 6, none⟩ hlt).trans z6
  have Z7 := (hv.frozen9 ⟨w.heap.size + 1 + 1, 7, none⟩ hlt).trans z7
  have Z8 := (hv.frozen9 ⟨w.heap.size + 1 + 1, 8, none⟩ hlt).trans z8
  have Z9 := (hv.frozen9 ⟨w.heap.size + 1 + 1, 9, none⟩ hlt).trans z9
  have Z10 := (hv.frozen9 ⟨w.heap.size + 1 + 1, 10, none⟩ hlt).trans z10
  clear hv hN hW r0 r1 r2 r3 r4 r5 r6 r7 r8 r9 r10 z0 z1 z2 z3 z4 z5 z6 z7 z8 z9 z10 s3 q0 q1 q2
  go_wp2_with fail
  refine bodyPost_ret (v := .tuple #[.agg #[.int .i64 N, .int .i64 D, .int .i64 N, .int .i64 D, .int .i64 N, .int .i64 D, .slice A2 m k2, .int .u64 0, .int .u64 0, .int .u64 0, .int .u64 0], .int .i64 e0]) (by simp [results, Try.results25, go_sem, R0, R1, R2, R3, R4, R5, R6, R7, R8, R9, R10]) rfl ⟨A2, k2, rfl, ?_, ?_⟩
  · exact HN.out.1.set11 (HN.out.2.off hlt)
  · exact HU2.out.set11 (by omega)

theorem ask9_all (v c now o a b : Int) (n k : Nat) (A : Option Addr) (L : List It) (hb : b ≤ 9223372036854775807) {N D e0 : Int} {Vs : List Int} (h : askR v c now L o a b = (N, D, Vs, e0)) (w : World) (hS : Sl w A n L) :
    Calls Try.prog 25 #[.agg #[.int .i64 v, .int .i64 c, .int .i64 now, .slice A n k], .agg #[.int .i64 o, .int .i64 a, .int .i64 b]] w fun e w' => ∃ A' k', e = .returned (.tuple #[.agg #[.int .i64 N, .int .i64 D, .int .i64 N, .int .i64 D, .int .i64 N, .int .i64 D, .slice A' Vs.length k', .int .u64 0, .int .u64 0, .int .u64 0, .int .u64 0], .int .i64 e0]) ∧ Sn w' A' Vs.length Vs ∧ Lo w w' := by
  unfold askR at h
  by_cases hst : stB v c now L = false
  · rw [if_pos hst] at h
    cases h
    exact (ask9_bad v c now o a b n k A L hst w hS).mono (fun _ _ ⟨h1, h2⟩ => ⟨none, 0, h1, Sn.none_, Lo.of_up h2⟩)
  rw [if_neg hst] at h
  rw [Bool.not_eq_false] at hst
  by_cases h1 : o = 1
  · rw [if_pos h1] at h
    subst h1
    cases h
    exact (ask9_1 v c now a b n k A L hst w hS).mono (fun _ _ ⟨h1, h2⟩ => ⟨none, 0, h1, Sn.none_, Lo.of_up h2⟩)
  rw [if_neg h1] at h
  by_cases h2 : o = 2
  · rw [if_pos h2] at h
    subst h2
    cases h
    exact (ask9_2 v c now a b n k A L hst w hS).mono (fun _ _ ⟨h1, h2⟩ => ⟨none, 0, h1, Sn.none_, Lo.of_up h2⟩)
  rw [if_neg h2] at h
  by_cases h3 : o = 3
  · rw [if_pos h3] at h
    subst h3
    cases h
    exact (ask9_3 v c now a b n k A L hst w hS).mono (fun _ _ ⟨h1, h2⟩ => ⟨none, 0, h1, Sn.none_, Lo.of_up h2⟩)
  rw [if_neg h3] at h
  by_cases h4 : o = 4
  · rw [if_pos h4] at h
    subst h4
    cases h
    exact (ask9_4 v c now a b n k A L hst w hS).mono (fun _ _ ⟨h1, h2⟩ => ⟨none, 0, h1, Sn.none_, Lo.of_up h2⟩)
  rw [if_neg h4] at h
  by_cases h5 : o = 5
  · rw [if_pos h5] at h
    subst h5
    cases h
    exact (ask9_5 v c now a b n k A L hst w hS).mono (fun _ _ ⟨h1, h2⟩ => ⟨none, 0, h1, Sn.none_, Lo.of_up h2⟩)
  rw [if_neg h5] at h
  by_cases h6 : o = 6
  · rw [if_pos h6] at h
    subst h6
    exact (ask9_6 v c now a b n k A L hst h w hS).mono (fun _ _ ⟨A1, k1, h1, h2, h3⟩ => ⟨A1, k1, h1, h2, Lo.of_up h3⟩)
  rw [if_neg h6] at h
  by_cases h7 : o = 7
  · rw [if_pos h7] at h
    subst h7
    cases h
    exact (ask9_7 v c now a b n k A L hst w hS).mono (fun _ _ ⟨h1, h2⟩ => ⟨none, 0, h1, Sn.none_, Lo.of_up h2⟩)
  rw [if_neg h7] at h
  by_cases h8 : o = 8
  · rw [if_pos h8] at h
    subst h8
    exact ask9_8 v c now a b n k A L hst hb h w hS
  rw [if_neg h8] at h
  cases h
  exact (ask9_other v c now o a b n k A L hst (by omega) w hS).mono (fun _ _ ⟨h1, h2⟩ => ⟨none, 0, h1, Sn.none_, Lo.of_up h2⟩)
end Go.Proofs.Ytflahclphdlolaa

/- Equality of answers: numbers, bounds, fractions, lists of numbers. -/
namespace Go.Proofs.Ytflahclphdlolaa
open Go.RowKit

theorem eqRatio9 (a0 a1 : Int) (w : World) : (Op.equalIn 10000 46 (.agg #[.int .i64 a0, .int .i64 a1]) (.agg #[.int .i64 a0, .int .i64 a1])).run Try.prog w = .ok true w := by
  have qu := Try.underlying2
  have qa := Try.isAgg2
  have qz := Try.sizeOf2
  rw [show (10000 : Nat) = 9999 + 1 from rfl, Op.equalIn]
  simp only [Sem.run_bind, run_underlying Try.underlying46, Result.andThen_ok]
  go_simp
theorem eqBounds9 (a0 a1 : Int) (w : World) : (Op.equalIn 10000 50 (.agg #[.int .i64 a0, .int .i64 a1, .int .i64 a0, .int .i64 a1, .int .i64 a0, .int .i64 a1]) (.agg #[.int .i64 a0, .int .i64 a1, .int .i64 a0, .int .i64 a1, .int .i64 a0, .int .i64 a1])).run Try.prog w = .ok true w := by
  have qu := Try.underlying2
  have qa := Try.isAgg2
  have qz := Try.sizeOf2
  have ru := Try.underlying46
  have ra := Try.isAgg46
  have rz := Try.sizeOf46
  have e : ∀ w, (Op.equalIn 9999 46 (.agg #[.int .i64 a0, .int .i64 a1]) (.agg #[.int .i64 a0, .int .i64 a1])).run Try.prog w = .ok true w := fun w => by
    rw [show (9999 : Nat) = 9998 + 1 from rfl, Op.equalIn]
    simp only [Sem.run_bind, run_underlying Try.underlying46, Result.andThen_ok]
    go_simp
  rw [show (10000 : Nat) = 9999 + 1 from rfl, Op.equalIn]
  simp only [Sem.run_bind, run_underlying Try.underlying50, Result.andThen_ok]
  go_simp
set_option maxHeartbeats 2000000 in
set_option maxRecDepth 100000 in
theorem sameNum_t (n k q : Nat) (A B : Option Addr) (L : List Int) (hn : n ≤ 1000000) (w : World) (hA : Sn w A n L) (hB : Sn w B n L) :
    Calls Try.prog 29 #[.slice A n k, .slice B n q] w fun e w' => e = .returned (.bool true) ∧ Up w w' := by
  have HA := Lib.hid hA
  have HB := Lib.hid hB
  clear hA hB
  have t1 : ((n : Int) != (n : Int)) = false := by simp
  go_enter Try.func29, Try.ntmps29
  go_wp2
  go_loopw [13] (fun t wr => ∃ i : Nat, t = .int .i64 i ∧ i ≤ n ∧ Hid (Up w wr)) (fun t _ => n - (intOf t).toNat)
  case atStart => exact ⟨0, rfl, Nat.zero_le _, Lib.hid (Up.refl _)⟩
  case round =>
    obtain ⟨i, rfl, i2, HU⟩ := hrel
    by_cases hlt : i < n
    · obtain ⟨b, o, rfl, hc⟩ := (HA.out.up HU.out).2 (by omega)
      obtain ⟨b', o', rfl, hc'⟩ := (HB.out.up HU.out).2 (by omega)
      have d0 := hc i hlt
      have d1 := hc' i hlt
      clear hc hc'
      generalize L.getD i 0 = p0 at *
      have f2 : (i : Int) < n := by omega
      have f3 : (0 : Int) ≤ i := by omega
      have t2 : (p0 != p0) = false := by simp
      go_wp2
      go_quiet (fail)
      go_wp2
      go_roundw
      case rel => exact ⟨i + 1, by go_num, by omega, Lib.hid (HU.out.drewN _)⟩
      case measure => simp [intOf]; omega
    · go_wp2
      go_ret
      exact ⟨rfl, HU.out⟩
end Go.Proofs.Ytflahclphdlolaa
