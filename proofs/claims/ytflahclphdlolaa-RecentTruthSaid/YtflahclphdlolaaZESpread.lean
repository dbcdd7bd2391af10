/- What Spread of package exact returns. -/
import Derived.Test.YtflahclphdlolaaZEPlus
import Derived.Test.YtflahclphdlolaaZEQuo
import Derived.Test.YtflahclphdlolaaZESq
import Derived.Test.YtflahclphdlolaaZETimes
import Derived.Test.YtflahclphdlolaaZETotal
import Derived.Test.YtflahclphdlolaaZEWords
import Derived.Test.YtflahclphdlolaaZG0a
import Derived.Test.YtflahclphdlolaaZG2a
import Derived.Test.YtflahclphdlolaaZG4a
import Derived.Test.YtflahclphdlolaaZREasy
import Derived.Test.YtflahclphdlolaaZRQuo
import Derived.Test.YtflahclphdlolaaZWCmp
namespace Go.Proofs.Ytflahclphdlolaa
open Go.RowKit

/-- n times the sum of the squared deviations: n Q - S S. -/
def dvZ (L : List It) : Int := (L.length : Int) * sqZ L - smZ L * smZ L
/-- The sum of the squared differences of the last value and all before it, and of all pairs. -/
def rowZ (v : Int) (L : List It) : Int := (L.map (fun x => (v - x.2) * (v - x.2))).sum
theorem rowZ_form (v : Int) (L : List It) : rowZ v L = (L.length : Int) * (v * v) - 2 * v * smZ L + sqZ L := by
  induction L with
  | nil => simp [rowZ, smZ, sqZ]
  | cons x L ih =>
    simp only [rowZ, smZ, sqZ, List.map_cons, List.sum_cons, List.length_cons] at *
    rw [ih]
    have e1 : (v - x.2) * (v - x.2) = v * v - 2 * v * x.2 + x.2 * x.2 := by
      rw [Int.sub_mul, Int.mul_sub, Int.mul_sub, Int.mul_comm x.2 v, Int.mul_assoc 2 v x.2]; omega
    have e2 : ((L.length + 1 : Nat) : Int) * (v * v) = (L.length : Int) * (v * v) + v * v := by rw [Int.natCast_add, Int.add_mul]; simp
    have e3 : 2 * v * (x.2 + (L.map (fun x => x.2)).sum) = 2 * v * x.2 + 2 * v * (L.map (fun x => x.2)).sum := Int.mul_add _ _ _
    rw [e1, e2, e3]
    omega
theorem rowZ_nonneg (v : Int) (L : List It) : 0 ≤ rowZ v L := by
  induction L with
  | nil => simp [rowZ]
  | cons x L ih =>
    have : 0 ≤ (v - x.2) * (v - x.2) := by rw [← sq_abs]; exact Int.mul_nonneg (by omega) (by omega)
    simp only [rowZ, List.map_cons, List.sum_cons] at *
    omega
theorem dvZ_next (L : List It) (x : It) : dvZ (L ++ [x]) = dvZ L + rowZ x.2 L := by
  rw [rowZ_form]
  unfold dvZ
  have e1 : sqZ (L ++ [x]) = sqZ L + x.2 * x.2 := by simp [sqZ]
  have e2 : smZ (L ++ [x]) = smZ L + x.2 := by simp [smZ]
  rw [e1, e2, List.length_append]
  have e3 : ((L.length + [x].length : Nat) : Int) = (L.length : Int) + 1 := by simp
  rw [e3]
  generalize (L.length : Int) = n
  generalize sqZ L = Q
  generalize smZ L = S
  generalize x.2 = v
  simp only [Int.add_mul, Int.mul_add, Int.one_mul]
  rw [Int.mul_assoc 2 v S, Int.mul_comm v S]
  omega
theorem dvZ_nil : dvZ [] = 0 := by simp [dvZ, sqZ, smZ]
theorem dvZ_nonneg (L : List It) : 0 ≤ dvZ L := by
  have : ∀ k, k ≤ L.length → 0 ≤ dvZ (L.take k) := by
    intro k
    induction k with
    | zero => intro _; rw [List.take_zero, dvZ_nil]; exact Int.le_refl _
    | succ k ih =>
      intro hk
      rw [take_next (by omega), dvZ_next]
      have := ih (by omega)
      have := rowZ_nonneg (L.getD k (0, 0)).2 (L.take k)
      omega
  have h := this L.length (Nat.le_refl _)
  rwa [List.take_of_length_le (Nat.le_refl _)] at h
theorem dvZ_le {L : List It} (h : InI L) (hn : L.length ≤ 1000000) : dvZ L < 6277101735386680763835789423207666416102355444464034512896 := by
  unfold dvZ
  have h1 := sqZ_le h
  have h0 := sqZ_nonneg L
  have h2 : 0 ≤ smZ L * smZ L := by rw [← sq_abs]; exact Int.mul_nonneg (by omega) (by omega)
  have h3 : (L.length : Int) * sqZ L ≤ 1000000 * (1000000 * 85070591730234615865843651857942052864) := Int.mul_le_mul (by omega) (by omega) h0 (by omega)
  omega

/-- What the walk of Spread holds: the words of s in block a. -/
structure Spc (w wr : World) (a : Nat) (s : Int) : Prop where
  up : Up w wr
  s0 : wr.cell? ⟨a, 0, none⟩ = some (.int .u64 (dg3 s 0))
  s1 : wr.cell? ⟨a, 1, none⟩ = some (.int .u64 (dg3 s 1))
  s2 : wr.cell? ⟨a, 2, none⟩ = some (.int .u64 (dg3 s 2))
theorem Spc.keep {w w1 w2 : World} {a : Nat} {s : Int} (h : Spc w w1 a s) (hu : Up w1 w2) : Spc w w2 a s := ⟨h.up.trans hu, hu.keep _ _ _ h.s0, hu.keep _ _ _ h.s1, hu.keep _ _ _ h.s2⟩
theorem skeep {w w1 w2 : World} {a : Nat} {s : Int} (hu : Hid (Up w1 w2)) (h : Spc w w1 a s ∧ w1.cell? ⟨a, 0, none⟩ = some (.int .u64 (dg3 s 0)) ∧ w1.cell? ⟨a, 1, none⟩ = some (.int .u64 (dg3 s 1)) ∧ w1.cell? ⟨a, 2, none⟩ = some (.int .u64 (dg3 s 2))) :
    Spc w w2 a s ∧ w2.cell? ⟨a, 0, none⟩ = some (.int .u64 (dg3 s 0)) ∧ w2.cell? ⟨a, 1, none⟩ = some (.int .u64 (dg3 s 1)) ∧ w2.cell? ⟨a, 2, none⟩ = some (.int .u64 (dg3 s 2)) :=
  ⟨h.1.keep hu.out, hu.out.keep _ _ _ h.1.s0, hu.out.keep _ _ _ h.1.s1, hu.out.keep _ _ _ h.1.s2⟩
theorem sset {w w1 : World} {a b q : Nat} {s : Int} {v : Value} (h : Spc w w1 a s ∧ w1.cell? ⟨a, 0, none⟩ = some (.int .u64 (dg3 s 0)) ∧ w1.cell? ⟨a, 1, none⟩ = some (.int .u64 (dg3 s 1)) ∧ w1.cell? ⟨a, 2, none⟩ = some (.int .u64 (dg3 s 2))) (hb : w.heap.size ≤ b) (ha : b ≠ a) :
    Spc w (w1.setCell ⟨b, q, none⟩ v) a s ∧ (w1.setCell ⟨b, q, none⟩ v).cell? ⟨a, 0, none⟩ = some (.int .u64 (dg3 s 0)) ∧ (w1.setCell ⟨b, q, none⟩ v).cell? ⟨a, 1, none⟩ = some (.int .u64 (dg3 s 1)) ∧ (w1.setCell ⟨b, q, none⟩ v).cell? ⟨a, 2, none⟩ = some (.int .u64 (dg3 s 2)) := by
  have h0 := (cell_far (p := ⟨b, q, none⟩) (v := v) (show b ≠ a from ha)).trans h.1.s0
  have h1 := (cell_far (p := ⟨b, q, none⟩) (v := v) (show b ≠ a from ha)).trans h.1.s1
  have h2 := (cell_far (p := ⟨b, q, none⟩) (v := v) (show b ≠ a from ha)).trans h.1.s2
  exact ⟨⟨h.1.up.setCell hb _, h0, h1, h2⟩, h0, h1, h2⟩

/-- What Spread returns. -/
def sprN (L : List It) : Int := if L = [] then 0 else quoN (dvZ L) L.length
def sprD (L : List It) : Int := if L = [] then 1 else quoD (dvZ L) L.length
def sprB (L : List It) : Bool := if L = [] then true else quoB (dvZ L) L.length
set_option maxHeartbeats 8000000 in
set_option maxRecDepth 100000 in
theorem spread_up (n k : Nat) (A : Option Addr) (L : List It) (hn : n ≤ 1000000) (hI : InI L) (w : World) (hS : Sl w A n L) :
    Calls Try.prog 24 #[.slice A n k] w fun e w' => e = gotR (sprN L) (sprD L) (sprB L) ∧ Up w w' := by
  by_cases h0 : n = 0
  · subst h0
    have : L = [] := List.length_eq_zero_iff.1 hS.1
    unfold sprN sprD sprB
    rw [if_pos this, if_pos this, if_pos this]
    have KO := Lib.hid (ofr_up 0)
    clear hS this hI
    go_enter Try.func24, Try.ntmps24
    go_wp2_with fail
    refine (KO.out _).mono ?_
    rintro e w1 ⟨rfl, hu1⟩
    have r0 := hu1.keep w.heap.size 0 (.int .i64 0) (by simp [go_sem])
    have r1 := hu1.keep w.heap.size 1 (.int .i64 0) (by simp [go_sem])
    have HU : Hid (Up w w1) := Lib.hid (by repeat (first | exact Up.refl _ | (refine Up.trans ?_ (hu1); skip) | refine Up.alloc ?_ _ _ | refine Up.setCell ?_ (by first | (simp; done) | (simp; omega) | omega) _ | refine Up.drewN ?_ _ | refine Up.drew ?_))
    have z0 := HU.out.ownGe (Nat.le_refl w.heap.size) 0
    have z1 := HU.out.ownGe (Nat.le_refl w.heap.size) 1
    clear hu1
    go_wp2_with fail
    refine bodyPost_ret (v := .tuple #[.agg #[.int .i64 0, .int .i64 1], .bool true]) (by simp [results, Try.results24, go_sem, r0, r1]) rfl ⟨?_, ?_⟩
    · rfl
    · ((repeat (first | (with_reducible exact Up.refl _) | (with_reducible exact HU.out) | (with_reducible refine Up.alloc ?_ _ _) | (with_reducible refine Up.setCell ?_ ?_ _) | (with_reducible refine Up.drewN ?_ _) | (with_reducible refine Up.drew ?_))); all_goals (first | (simp; done) | (simp; omega) | omega))
  have hl := hS.1
  have hne : ¬ L = [] := fun h => h0 (by rw [← hl, h]; rfl)
  unfold sprN sprD sprB
  rw [if_neg hne, if_neg hne, if_neg hne]
  have HS := Lib.hid hS
  have hdn := dvZ_nonneg L
  have hdl := dvZ_le hI (by omega)
  have hq0 := sqZ_nonneg L
  have e := smZ_eq L
  have hp := posZ_le hI
  have hq := negZ_le hI
  have h2 : In2 ((smZ L).natAbs : Int) := ⟨by omega, by omega⟩
  have K1 := Lib.hid (fun W (h : Up w W) => total_up n k A L hn hI W (hS.up h))
  have KQ := Lib.hid (fun W (h : Up w W) => squares_up n k A L hn hI W (hS.up h))
  have KS := Lib.hid (fun W => wordsOf_v ((smZ L).natAbs : Int) h2 W)
  have hwn : In2 (n : Int) := ⟨by omega, by omega⟩
  have KO := Lib.hid (fun W => of_up (n : Int) W)
  have KW := Lib.hid (fun W => wordsOf_v (n : Int) hwn W)
  rw [show hiZ (n : Int) = 0 by unfold hiZ; omega, show loZ (n : Int) = n by unfold loZ; omega] at KW
  have KX := Lib.hid (fun W => times3_v (n : Int) (sqZ L) W)
  have KY := Lib.hid (fun W => times3_v ((smZ L).natAbs : Int) ((smZ L).natAbs : Int) W)
  rw [sq_abs] at KY
  have KM := Lib.hid (fun W => minus_v ((n : Int) * sqZ L) (smZ L * smZ L) W)
  have ed : (n : Int) * sqZ L - smZ L * smZ L = dvZ L := by unfold dvZ; rw [hl]
  rw [ed] at KM
  have KD := Lib.hid (fun W => equot_v (dvZ L) (n : Int) hdn hdl (by omega) (by omega) W)
  rw [hl]
  unfold gotR at KD
  unfold gotR
  generalize quoN (dvZ L) (n : Int) = x at *
  generalize quoD (dvZ L) (n : Int) = y at *
  generalize quoB (dvZ L) (n : Int) = z at *
  unfold w3 at KQ KS KW KX KY KM KD
  unfold got2 at K1
  generalize ((smZ L).natAbs : Int) = s at *
  generalize decide (smZ L < 0) = sb at *
  generalize smZ L * smZ L = ss at *
  generalize dvZ L = dv at *
  generalize (n : Int) * sqZ L = nq at *
  generalize sqZ L = qq at *
  have t0 : ((n : Int) == 0) = false := by simp; omega
  have wn : IntKind.u64.wrap (n : Int) = n := by rw [IntKind.wrap_u64]; omega
  clear hS hI hne hdn hdl hq0 e hp hq h2 hwn ed hl h0
  go_enter Try.func24, Try.ntmps24
  go_wp2_with fail
  refine (K1.out _ (by repeat (first | exact Up.refl _ | refine Up.alloc ?_ _ _ | refine Up.setCell ?_ (by first | (simp; done) | (simp; omega) | omega) _ | refine Up.drewN ?_ _ | refine Up.drew ?_))).mono ?_
  rintro e w1 ⟨rfl, hu1⟩
  have r0 := hu1.keep w.heap.size 0 (.int .i64 0) (by simp [go_sem])
  have r1 := hu1.keep w.heap.size 1 (.int .i64 0) (by simp [go_sem])
  have HU1 : Hid (Up w w1) := Lib.hid (by repeat (first | exact Up.refl _ | (refine Up.trans ?_ (hu1); skip) | refine Up.alloc ?_ _ _ | refine Up.setCell ?_ (by first | (simp; done) | (simp; omega) | omega) _ | refine Up.drewN ?_ _ | refine Up.drew ?_))
  clear hu1
  go_wp2_with fail
  refine (KS.out _).mono ?_
  rintro e w2 ⟨rfl, hu2⟩
  have r0 := hu2.keep w.heap.size 0 _ (((Up.refl w1).alloc _ _).keep _ _ _ r0)
  have r1 := hu2.keep w.heap.size 1 _ (((Up.refl w1).alloc _ _).keep _ _ _ r1)
  have HU2 : Hid (Up w w2) := Lib.hid ((HU1.out.alloc _ _).trans hu2)
  clear hu2
  go_upto_region 6 with fail
  have r0_ := ((Up.refl w2).alloc #[.int .u64 (dg3 s 0), .int .u64 (dg3 s 1), .int .u64 (dg3 s 2)] 80).keep _ _ _ r0
  have r1_ := ((Up.refl w2).alloc #[.int .u64 (dg3 s 0), .int .u64 (dg3 s 1), .int .u64 (dg3 s 2)] 80).keep _ _ _ r1
  have HP : Hid (Spc w (w2.alloc (.cells #[.int .u64 (dg3 s 0), .int .u64 (dg3 s 1), .int .u64 (dg3 s 2)] 80)) w2.heap.size s) := Lib.hid ⟨HU2.out.alloc _ _, by simp [go_sem], by simp [go_sem], by simp [go_sem]⟩
  have la : w.heap.size < w2.heap.size := World.block_lt_of_cell? _ _ r0
  have z0_ := HP.out.up.ownGe (Nat.le_refl w.heap.size) 0
  have z1_ := HP.out.up.ownGe (Nat.le_refl w.heap.size) 1
  clear r0 r1 HU2 HU1
  generalize w2.alloc (.cells #[.int .u64 (dg3 s 0), .int .u64 (dg3 s 1), .int .u64 (dg3 s 2)] 80) = wi at *
  generalize w2.heap.size = a at *
  have c0 := HP.out.s0
  have c1 := HP.out.s1
  have c2 := HP.out.s2
  refine wp_region_held_drew (S := fun w' => Spc w w' a s ∧ w'.cell? ⟨a, 0, none⟩ = some (.int .u64 (dg3 s 0)) ∧ w'.cell? ⟨a, 1, none⟩ = some (.int .u64 (dg3 s 1)) ∧ w'.cell? ⟨a, 2, none⟩ = some (.int .u64 (dg3 s 2))) (by kernel_rfl) ?hB1 (fun hHeld => ?_)
  case hB1 => (first | (with_reducible assumption) | (exact skeep (Lib.hid (Up.refl _).drew) ⟨HP.out, c0, c1, c2⟩) | (exact sset (sset hHeld (Nat.le_refl _) (by omega)) (Nat.le_refl _) (by omega)))
  refine wpAnyH_take (i := 0) (oi := ⟨_, _, _, _, _, _⟩) (v := ?v2) rfl (by kernel_rfl) (by kernel_rfl) (by kernel_rfl) (fun _ _ _ h => h) (Or.inl ⟨by rfl, ?hy2⟩) (by assumption) ?_
  case hy2 => (intro w hSw; (try dsimp only at hSw); go_simp; (try (with_reducible rfl)))
  (try simp only [Act.put, List.setIfInBounds_toArray, List.set_cons_zero, List.set_cons_succ])
  refine wpAnyH_take (i := 3) (oi := ⟨_, _, _, _, _, _⟩) (v := ?v3) rfl (by kernel_rfl) (by kernel_rfl) (by kernel_rfl) (fun _ _ _ h => h) (Or.inl ⟨by rfl, ?hy3⟩) (by assumption) ?_
  case hy3 => (intro w hSw; (try dsimp only at hSw); go_simp; (try (with_reducible rfl)))
  (try simp only [Act.put, List.setIfInBounds_toArray, List.set_cons_zero, List.set_cons_succ])
  refine wpAnyH_take (i := 6) (oi := ⟨_, _, _, _, _, _⟩) (v := ?v4) rfl (by kernel_rfl) (by kernel_rfl) (by kernel_rfl) (fun _ _ _ h => h) (Or.inl ⟨by rfl, ?hy4⟩) (by assumption) ?_
  case hy4 => (intro w hSw; (try dsimp only at hSw); go_simp; (try (with_reducible rfl)))
  (try simp only [Act.put, List.setIfInBounds_toArray, List.set_cons_zero, List.set_cons_succ])
  refine wpAnyH_take (i := 7) (oi := ⟨_, _, _, _, _, _⟩) (v := ?v5) rfl (by kernel_rfl) (by kernel_rfl) (by kernel_rfl) (fun _ _ _ h => h) (Or.inl ⟨by rfl, ?hy5⟩) (by assumption) ?_
  case hy5 => (intro w hSw; (try dsimp only at hSw); go_simp; (try (with_reducible rfl)))
  (try simp only [Act.put, List.setIfInBounds_toArray, List.set_cons_zero, List.set_cons_succ])
  refine wpAnyH_take (i := 10) (oi := ⟨_, _, _, _, _, _⟩) (v := ?v6) rfl (by kernel_rfl) (by kernel_rfl) (by kernel_rfl) (fun _ _ _ h => h) (Or.inl ⟨by rfl, ?hy6⟩) (by assumption) ?_
  case hy6 => (intro w hSw; (try dsimp only at hSw); go_simp; (try (with_reducible rfl)))
  (try simp only [Act.put, List.setIfInBounds_toArray, List.set_cons_zero, List.set_cons_succ])
  refine wpAnyH_ready (rs := [1]) (by kernel_rfl) (by simp) ?_
  refine AllReadyH.cons (o := ⟨_, _, _, _, _, _⟩) rfl (fun K hK => ?_) AllReadyH.nil
  go_simp
  (go_at_call 51; (with_reducible refine (KO.out _).mono ?_); rintro e w1 ⟨rfl, hu1⟩; have HU1 := Lib.hid hu1; have hS1 := skeep (Lib.hid hu1) hHeld; have r0_1 := hu1.keep _ _ _ r0_; have r1_1 := hu1.keep _ _ _ r1_; have z0_1 := (hu1.cells.2 _).trans z0_; have z1_1 := (hu1.cells.2 _).trans z1_; clear hu1; (try unfold gotR))
  (try go_wp2_with fail)
  refine hK.out _ _ ?hB7 (fun hHeld => ?_)
  case hB7 => (first | (with_reducible assumption) | (exact skeep (Lib.hid (Up.refl _).drew) ⟨HP.out, c0, c1, c2⟩) | (exact sset (sset hHeld (Nat.le_refl _) (by omega)) (Nat.le_refl _) (by omega)))
  clear hK K
  (try simp only [Act.put, List.setIfInBounds_toArray, List.set_cons_zero, List.set_cons_succ])
  refine wpAnyH_ready (rs := [2]) (by kernel_rfl) (by simp) ?_
  refine AllReadyH.cons (o := ⟨_, _, _, _, _, _⟩) rfl (fun K hK => ?_) AllReadyH.nil
  go_simp
  (go_at_call 47; (with_reducible refine (KW.out _).mono ?_); rintro e w2 ⟨rfl, hu2⟩; have HU2 := Lib.hid hu2; have hS2 := skeep (Lib.hid hu2) hHeld; have r0_2 := hu2.keep _ _ _ r0_1; have r1_2 := hu2.keep _ _ _ r1_1; have z0_2 := (hu2.cells.2 _).trans z0_1; have z1_2 := (hu2.cells.2 _).trans z1_1; clear hu2; (try unfold gotR))
  (try go_wp2_with fail)
  refine hK.out _ _ ?hB8 (fun hHeld => ?_)
  case hB8 => (first | (with_reducible assumption) | (exact skeep (Lib.hid (Up.refl _).drew) ⟨HP.out, c0, c1, c2⟩) | (exact sset (sset hHeld (Nat.le_refl _) (by omega)) (Nat.le_refl _) (by omega)))
  clear hK K
  (try simp only [Act.put, List.setIfInBounds_toArray, List.set_cons_zero, List.set_cons_succ])
  refine wpAnyH_ready (rs := [4]) (by kernel_rfl) (by simp) ?_
  refine AllReadyH.cons (o := ⟨_, _, _, _, _, _⟩) rfl (fun K hK => ?_) AllReadyH.nil
  go_simp
  (go_at_call 52; (with_reducible refine (KQ.out _ hHeld.1.up).mono ?_); rintro e w3 ⟨rfl, hu3⟩; have HU3 := Lib.hid hu3; have hS3 := skeep (Lib.hid hu3) hHeld; have r0_3 := hu3.keep _ _ _ r0_2; have r1_3 := hu3.keep _ _ _ r1_2; have z0_3 := (hu3.cells.2 _).trans z0_2; have z1_3 := (hu3.cells.2 _).trans z1_2; clear hu3; (try unfold gotR))
  (try go_wp2_with fail)
  refine hK.out _ _ ?hB9 (fun hHeld => ?_)
  case hB9 => (first | (with_reducible assumption) | (exact skeep (Lib.hid (Up.refl _).drew) ⟨HP.out, c0, c1, c2⟩) | (exact sset (sset hHeld (Nat.le_refl _) (by omega)) (Nat.le_refl _) (by omega)))
  clear hK K
  (try simp only [Act.put, List.setIfInBounds_toArray, List.set_cons_zero, List.set_cons_succ])
  refine wpAnyH_ready (rs := [5]) (by kernel_rfl) (by simp) ?_
  refine AllReadyH.cons (o := ⟨_, _, _, _, _, _⟩) rfl (fun K hK => ?_) AllReadyH.nil
  go_simp
  (go_at_call 50; (with_reducible refine (KX.out _).mono ?_); rintro e w4 ⟨rfl, hu4⟩; have HU4 := Lib.hid hu4; have hS4 := skeep (Lib.hid hu4) hHeld; have r0_4 := hu4.keep _ _ _ r0_3; have r1_4 := hu4.keep _ _ _ r1_3; have z0_4 := (hu4.cells.2 _).trans z0_3; have z1_4 := (hu4.cells.2 _).trans z1_3; clear hu4; (try unfold gotR))
  (try go_wp2_with fail)
  refine hK.out _ _ ?hB10 (fun hHeld => ?_)
  case hB10 => (first | (with_reducible assumption) | (exact skeep (Lib.hid (Up.refl _).drew) ⟨HP.out, c0, c1, c2⟩) | (exact sset (sset hHeld (Nat.le_refl _) (by omega)) (Nat.le_refl _) (by omega)))
  clear hK K
  (try simp only [Act.put, List.setIfInBounds_toArray, List.set_cons_zero, List.set_cons_succ])
  refine wpAnyH_ready (rs := [8]) (by kernel_rfl) (by simp) ?_
  refine AllReadyH.cons (o := ⟨_, _, _, _, _, _⟩) rfl (fun K hK => ?_) AllReadyH.nil
  go_simp
  (go_at_call 50; (with_reducible refine (KY.out _).mono ?_); rintro e w5 ⟨rfl, hu5⟩; have HU5 := Lib.hid hu5; have hS5 := skeep (Lib.hid hu5) hHeld; have r0_5 := hu5.keep _ _ _ r0_4; have r1_5 := hu5.keep _ _ _ r1_4; have z0_5 := (hu5.cells.2 _).trans z0_4; have z1_5 := (hu5.cells.2 _).trans z1_4; clear hu5; (try unfold gotR))
  (try go_wp2_with fail)
  refine hK.out _ _ ?hB11 (fun hHeld => ?_)
  case hB11 => (first | (with_reducible assumption) | (exact skeep (Lib.hid (Up.refl _).drew) ⟨HP.out, c0, c1, c2⟩) | (exact sset (sset hHeld (Nat.le_refl _) (by omega)) (Nat.le_refl _) (by omega)))
  clear hK K
  (try simp only [Act.put, List.setIfInBounds_toArray, List.set_cons_zero, List.set_cons_succ])
  refine wpAnyH_ready (rs := [9]) (by kernel_rfl) (by simp) ?_
  refine AllReadyH.cons (o := ⟨_, _, _, _, _, _⟩) rfl (fun K hK => ?_) AllReadyH.nil
  go_simp
  (go_at_call 49; (with_reducible refine (KM.out _).mono ?_); rintro e w6 ⟨rfl, hu6⟩; have HU6 := Lib.hid hu6; have hS6 := skeep (Lib.hid hu6) hHeld; have r0_6 := hu6.keep _ _ _ r0_5; have r1_6 := hu6.keep _ _ _ r1_5; have z0_6 := (hu6.cells.2 _).trans z0_5; have z1_6 := (hu6.cells.2 _).trans z1_5; clear hu6; (try unfold gotR))
  (try go_wp2_with fail)
  refine hK.out _ _ ?hB12 (fun hHeld => ?_)
  case hB12 => (first | (with_reducible assumption) | (exact skeep (Lib.hid (Up.refl _).drew) ⟨HP.out, c0, c1, c2⟩) | (exact sset (sset hHeld (Nat.le_refl _) (by omega)) (Nat.le_refl _) (by omega)))
  clear hK K
  (try simp only [Act.put, List.setIfInBounds_toArray, List.set_cons_zero, List.set_cons_succ])
  refine wpAnyH_ready (rs := [11]) (by kernel_rfl) (by simp) ?_
  refine AllReadyH.cons (o := ⟨_, _, _, _, _, _⟩) rfl (fun K hK => ?_) AllReadyH.nil
  go_simp
  (go_at_call 48; (with_reducible refine (KD.out _).mono ?_); rintro e w7 ⟨rfl, hu7⟩; have HU7 := Lib.hid hu7; have hS7 := skeep (Lib.hid hu7) hHeld; have r0_7 := hu7.keep _ _ _ r0_6; have r1_7 := hu7.keep _ _ _ r1_6; have z0_7 := (hu7.cells.2 _).trans z0_6; have z1_7 := (hu7.cells.2 _).trans z1_6; clear hu7; (try unfold gotR))
  (try go_wp2_with fail)
  refine hK.out _ _ ?hB13 (fun hHeld => ?_)
  case hB13 => (first | (with_reducible assumption) | (exact skeep (Lib.hid (Up.refl _).drew) ⟨HP.out, c0, c1, c2⟩) | (exact sset (sset hHeld (Nat.le_refl _) (by omega)) (Nat.le_refl _) (by omega)))
  clear hK K
  (try simp only [Act.put, List.setIfInBounds_toArray, List.set_cons_zero, List.set_cons_succ])
  refine wpAnyH_take (i := 12) (oi := ⟨_, _, _, _, _, _⟩) (v := ?v14) rfl (by kernel_rfl) (by kernel_rfl) (by kernel_rfl) (fun _ _ _ h => h) (Or.inl ⟨by rfl, ?hy14⟩) (by assumption) ?_
  case hy14 => (intro w hSw; (try dsimp only at hSw); go_simp; (try (with_reducible rfl)))
  (try simp only [Act.put, List.setIfInBounds_toArray, List.set_cons_zero, List.set_cons_succ])
  refine wpAnyH_take (i := 13) (oi := ⟨_, _, _, _, _, _⟩) (v := ?v15) rfl (by kernel_rfl) (by kernel_rfl) (by kernel_rfl) (fun _ _ _ h => h) (Or.inl ⟨by rfl, ?hy15⟩) (by assumption) ?_
  case hy15 => (intro w hSw; (try dsimp only at hSw); go_simp; (try (with_reducible rfl)))
  (try simp only [Act.put, List.setIfInBounds_toArray, List.set_cons_zero, List.set_cons_succ])
  refine wpAnyH_ready (rs := [14]) (by kernel_rfl) (by simp) ?_
  refine AllReadyH.cons (o := ⟨_, _, _, _, _, _⟩) rfl (fun K hK => ?_) AllReadyH.nil
  go_simp
  refine hK.out _ _ ?hB16 (fun hHeld => ?_)
  case hB16 => (first | (with_reducible assumption) | (exact skeep (Lib.hid (Up.refl _).drew) ⟨HP.out, c0, c1, c2⟩) | (exact sset (sset hHeld (Nat.le_refl _) (by omega)) (Nat.le_refl _) (by omega)))
  clear hK K
  (try simp only [Act.put, List.setIfInBounds_toArray, List.set_cons_zero, List.set_cons_succ])
  refine wpAnyH_take (i := 15) (oi := ⟨_, _, _, _, _, _⟩) (v := ?v17) rfl (by kernel_rfl) (by kernel_rfl) (by kernel_rfl) (fun _ _ _ h => h) (Or.inl ⟨by rfl, ?hy17⟩) (by assumption) ?_
  case hy17 => (intro w hSw; (try dsimp only at hSw); go_simp; (try (with_reducible rfl)))
  (try simp only [Act.put, List.setIfInBounds_toArray, List.set_cons_zero, List.set_cons_succ])
  refine wpAnyH_done (by kernel_rfl) ?_ _
  go_wp2_with fail
  refine bodyPost_ret (v := .tuple #[.agg #[.int .i64 x, .int .i64 y], .bool z]) (by simp [results, Try.results24, go_sem, r0_7, r1_7]) rfl ⟨?_, ?_⟩
  · rfl
  · ((repeat (first | (with_reducible exact Up.refl _) | (with_reducible exact hS7.1.up) | (with_reducible refine Up.alloc ?_ _ _) | (with_reducible refine Up.setCell ?_ ?_ _) | (with_reducible refine Up.drewN ?_ _) | (with_reducible refine Up.drew ?_))); all_goals (first | (simp; done) | (simp; omega) | omega))
end Go.Proofs.Ytflahclphdlolaa
