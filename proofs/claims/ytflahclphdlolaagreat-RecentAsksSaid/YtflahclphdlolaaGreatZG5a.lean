/- What Rank, Below, Least, Greatest, Extreme and Few return. -/
import Derived.Test.YtflahclphdlolaaGreatZESq
import Derived.Test.YtflahclphdlolaaGreatZG0a
import Derived.Test.YtflahclphdlolaaGreatZG2a
namespace Go.Proofs.YtflahclphdlolaaGreat
open Go.RowKit

/-- How many values are at most v, and how many are less. -/
def rkN (v : Int) (L : List It) : Nat := L.countP (fun x => decide (x.2 ≤ v))
def blN (v : Int) (L : List It) : Nat := L.countP (fun x => decide (x.2 < v))
theorem rkN_le (v : Int) (L : List It) : rkN v L ≤ L.length := List.countP_le_length
theorem blN_le (v : Int) (L : List It) : blN v L ≤ L.length := List.countP_le_length
theorem rkN_take {L : List It} {i : Nat} (hi : i < L.length) (v : Int) : rkN v (L.take (i + 1)) = rkN v (L.take i) + (if (L.getD i (0, 0)).2 ≤ v then 1 else 0) := by
  unfold rkN
  rw [take_next hi, List.countP_append]
  by_cases h : (L.getD i (0, 0)).2 ≤ v <;> simp only [List.countP_cons, List.countP_nil, h, decide_true, decide_false, if_true, if_false, Bool.false_eq_true]
theorem blN_take {L : List It} {i : Nat} (hi : i < L.length) (v : Int) : blN v (L.take (i + 1)) = blN v (L.take i) + (if (L.getD i (0, 0)).2 < v then 1 else 0) := by
  unfold blN
  rw [take_next hi, List.countP_append]
  by_cases h : (L.getD i (0, 0)).2 < v <;> simp only [List.countP_cons, List.countP_nil, h, decide_true, decide_false, if_true, if_false, Bool.false_eq_true]

set_option maxHeartbeats 4000000 in
theorem rank_up (n k : Nat) (A : Option Addr) (L : List It) (v : Int) (hn : n ≤ 1000000) (w : World) (hS : Sl w A n L) :
    Calls Tryz.prog 20 #[.slice A n k, .int .i64 v] w fun e w' => e = .returned (.int .i64 (rkN v L : Nat)) ∧ Up w w' := by
  have HL := Lib.hid hS.1
  have HS := Lib.hid hS
  clear hS
  generalize hr : rkN v L = r
  have HR := Lib.hid hr
  clear hr
  go_enter Tryz.func20, Tryz.ntmps20
  go_wp2_with fail
  go_loopw [5, 10] (fun s t wr => ∃ i c : Nat, s = .int .i64 c ∧ t = .int .i64 i ∧ i ≤ n ∧ c ≤ i ∧ Hid (c = rkN v (L.take i)) ∧ Up w wr) (fun _ t _ => n - (intOf t).toNat)
  case atStart => exact ⟨0, 0, rfl, rfl, Nat.zero_le _, Nat.le_refl _, Lib.hid (by simp [rkN]), Up.refl _⟩
  case round =>
    obtain ⟨i, c, rfl, rfl, hin, hci, HN, hU⟩ := hrel
    have HU := Lib.hid hU
    clear hU
    by_cases hi : i < n
    · obtain ⟨b, o, rfl, d0, d1⟩ := (HS.out.up HU.out).at_ hi
      have HN1 := Lib.hid (rkN_take (L := L) (i := i) (by rw [HL.out]; exact hi) v)
      generalize (L.getD i (0, 0)).1 = p0 at *
      generalize (L.getD i (0, 0)).2 = p1 at *
      have f2 : (i : Int) < n := by omega
      have f3 : (0 : Int) ≤ i := by omega
      by_cases hx : p1 ≤ v
      · rw [if_pos hx] at HN1
        go_wp2_with fail
        go_roundw
        case rel => exact ⟨i + 1, c + 1, by go_num, by go_num, by omega, by omega, Lib.hid (by have h1 := HN1.out; have h2 := HN.out; omega), HU.out.alloc _ _⟩
        case measure => simp [intOf]; omega
      · rw [if_neg hx] at HN1
        go_wp2_with fail
        go_roundw
        case rel => exact ⟨i + 1, c, by go_num, by go_num, by omega, by omega, Lib.hid (by have h1 := HN1.out; have h2 := HN.out; omega), HU.out.alloc _ _⟩
        case measure => simp [intOf]; omega
    · obtain rfl : i = n := by omega
      obtain rfl : r = c := by rw [← HR.out, HN.out, List.take_of_length_le (by rw [HL.out]; exact Nat.le_refl _)]
      clear HR
      go_wp2_with fail
      go_ret
      exact ⟨rfl, HU.out⟩
set_option maxHeartbeats 4000000 in
theorem rrank_up (n k : Nat) (A : Option Addr) (L : List It) (v : Int) (hn : n ≤ 1000000) (w : World) (hS : Sl w A n L) :
    Calls Tryz.prog 29 #[.slice A n k, .int .i64 v] w fun e w' => e = .returned (.int .i64 (rkN v L : Nat)) ∧ Up w w' := by
  have HL := Lib.hid hS.1
  have HS := Lib.hid hS
  clear hS
  generalize hr : rkN v L = r
  have HR := Lib.hid hr
  clear hr
  go_enter Tryz.func29, Tryz.ntmps29
  go_wp2_with fail
  go_loopw [5, 10] (fun s t wr => ∃ i c : Nat, s = .int .i64 c ∧ t = .int .i64 i ∧ i ≤ n ∧ c ≤ i ∧ Hid (c = rkN v (L.take i)) ∧ Up w wr) (fun _ t _ => n - (intOf t).toNat)
  case atStart => exact ⟨0, 0, rfl, rfl, Nat.zero_le _, Nat.le_refl _, Lib.hid (by simp [rkN]), Up.refl _⟩
  case round =>
    obtain ⟨i, c, rfl, rfl, hin, hci, HN, hU⟩ := hrel
    have HU := Lib.hid hU
    clear hU
    by_cases hi : i < n
    · obtain ⟨b, o, rfl, d0, d1⟩ := (HS.out.up HU.out).at_ hi
      have HN1 := Lib.hid (rkN_take (L := L) (i := i) (by rw [HL.out]; exact hi) v)
      generalize (L.getD i (0, 0)).1 = p0 at *
      generalize (L.getD i (0, 0)).2 = p1 at *
      have f2 : (i : Int) < n := by omega
      have f3 : (0 : Int) ≤ i := by omega
      by_cases hx : p1 ≤ v
      · rw [if_pos hx] at HN1
        go_wp2_with fail
        go_roundw
        case rel => exact ⟨i + 1, c + 1, by go_num, by go_num, by omega, by omega, Lib.hid (by have h1 := HN1.out; have h2 := HN.out; omega), HU.out.alloc _ _⟩
        case measure => simp [intOf]; omega
      · rw [if_neg hx] at HN1
        go_wp2_with fail
        go_roundw
        case rel => exact ⟨i + 1, c, by go_num, by go_num, by omega, by omega, Lib.hid (by have h1 := HN1.out; have h2 := HN.out; omega), HU.out.alloc _ _⟩
        case measure => simp [intOf]; omega
    · obtain rfl : i = n := by omega
      obtain rfl : r = c := by rw [← HR.out, HN.out, List.take_of_length_le (by rw [HL.out]; exact Nat.le_refl _)]
      clear HR
      go_wp2_with fail
      go_ret
      exact ⟨rfl, HU.out⟩
set_option maxHeartbeats 4000000 in
theorem rbelow_up (n k : Nat) (A : Option Addr) (L : List It) (v : Int) (hn : n ≤ 1000000) (w : World) (hS : Sl w A n L) :
    Calls Tryz.prog 64 #[.slice A n k, .int .i64 v] w fun e w' => e = .returned (.int .i64 (blN v L : Nat)) ∧ Up w w' := by
  have HL := Lib.hid hS.1
  have HS := Lib.hid hS
  clear hS
  generalize hr : blN v L = r
  have HR := Lib.hid hr
  clear hr
  go_enter Tryz.func64, Tryz.ntmps64
  go_wp2_with fail
  go_loopw [5, 10] (fun s t wr => ∃ i c : Nat, s = .int .i64 c ∧ t = .int .i64 i ∧ i ≤ n ∧ c ≤ i ∧ Hid (c = blN v (L.take i)) ∧ Up w wr) (fun _ t _ => n - (intOf t).toNat)
  case atStart => exact ⟨0, 0, rfl, rfl, Nat.zero_le _, Nat.le_refl _, Lib.hid (by simp [blN]), Up.refl _⟩
  case round =>
    obtain ⟨i, c, rfl, rfl, hin, hci, HN, hU⟩ := hrel
    have HU := Lib.hid hU
    clear hU
    by_cases hi : i < n
    · obtain ⟨b, o, rfl, d0, d1⟩ := (HS.out.up HU.out).at_ hi
      have HN1 := Lib.hid (blN_take (L := L) (i := i) (by rw [HL.out]; exact hi) v)
      generalize (L.getD i (0, 0)).1 = p0 at *
      generalize (L.getD i (0, 0)).2 = p1 at *
      have f2 : (i : Int) < n := by omega
      have f3 : (0 : Int) ≤ i := by omega
      by_cases hx : p1 < v
      · rw [if_pos hx] at HN1
        go_wp2_with fail
        go_roundw
        case rel => exact ⟨i + 1, c + 1, by go_num, by go_num, by omega, by omega, Lib.hid (by have h1 := HN1.out; have h2 := HN.out; omega), HU.out.alloc _ _⟩
        case measure => simp [intOf]; omega
      · rw [if_neg hx] at HN1
        go_wp2_with fail
        go_roundw
        case rel => exact ⟨i + 1, c, by go_num, by go_num, by omega, by omega, Lib.hid (by have h1 := HN1.out; have h2 := HN.out; omega), HU.out.alloc _ _⟩
        case measure => simp [intOf]; omega
    · obtain rfl : i = n := by omega
      obtain rfl : r = c := by rw [← HR.out, HN.out, List.take_of_length_le (by rw [HL.out]; exact Nat.le_refl _)]
      clear HR
      go_wp2_with fail
      go_ret
      exact ⟨rfl, HU.out⟩

/-- The least and the greatest value so far, from x on. -/
def leZ (x : Int) (L : List It) : Int := L.foldl (fun a y => min a y.2) x
def grZ (x : Int) (L : List It) : Int := L.foldl (fun a y => max a y.2) x
theorem leZ_take {L : List It} {i : Nat} (hi : i < L.length) (x : Int) : leZ x (L.take (i + 1)) = min (leZ x (L.take i)) (L.getD i (0, 0)).2 := by
  unfold leZ; rw [take_next hi, List.foldl_append]; rfl
theorem grZ_take {L : List It} {i : Nat} (hi : i < L.length) (x : Int) : grZ x (L.take (i + 1)) = max (grZ x (L.take i)) (L.getD i (0, 0)).2 := by
  unfold grZ; rw [take_next hi, List.foldl_append]; rfl
/-- What Least and Greatest return. -/
def leE (L : List It) : Ending := if L = [] then got 0 false else got (leZ (L.getD 0 (0, 0)).2 L) true
def grE (L : List It) : Ending := if L = [] then got 0 false else got (grZ (L.getD 0 (0, 0)).2 L) true

set_option maxHeartbeats 4000000 in
theorem least_up (n k : Nat) (A : Option Addr) (L : List It) (hn : n ≤ 1000000) (w : World) (hS : Sl w A n L) :
    Calls Tryz.prog 42 #[.slice A n k] w fun e w' => e = leE L ∧ Up w w' := by
  by_cases h0 : n = 0
  · subst h0
    have : L = [] := List.length_eq_zero_iff.1 hS.1
    unfold leE
    rw [if_pos this]
    clear hS this
    go_enter Tryz.func42, Tryz.ntmps42
    go_wp2_with fail
    go_ret2
    exact ⟨rfl, Up.refl _⟩
  have e : leE L = got (leZ (L.getD 0 (0, 0)).2 L) true := by unfold leE; rw [if_neg (fun h => h0 (by rw [← hS.1, h]; rfl))]
  rw [e]
  clear e
  obtain ⟨b, o, rfl, d0, d1⟩ := hS.at_ (show 0 < n by omega)
  have HL := Lib.hid hS.1
  have HS := Lib.hid hS
  have t0 : ((n : Int) == 0) = false := by simp; omega
  have t1 : (0 : Int) < n := by omega
  generalize (L.getD 0 (0, 0)).2 = x at *
  generalize (L.getD 0 (0, 0)).1 = x' at *
  simp only [Nat.zero_mul, Nat.add_zero] at d0 d1
  clear hS
  generalize hr : leZ x L = r
  have HR := Lib.hid hr
  clear hr h0
  go_enter Tryz.func42, Tryz.ntmps42
  go_wp2_with fail
  go_loopw [4, 16] (fun s t wr => ∃ (i : Nat) (c : Int), s = .int .i64 c ∧ t = .int .i64 i ∧ i ≤ n ∧ Hid (c = leZ x (L.take i)) ∧ Up w wr) (fun _ t _ => n - (intOf t).toNat)
  case atStart => exact ⟨0, x, rfl, rfl, Nat.zero_le _, Lib.hid (by simp [leZ]), Up.refl _⟩
  case round =>
    obtain ⟨i, c, rfl, rfl, hin, HN, hU⟩ := hrel
    have HU := Lib.hid hU
    clear hU
    by_cases hi : i < n
    · obtain ⟨b2, o2, hbo, d2, d3⟩ := (HS.out.up HU.out).at_ hi
      cases hbo
      have HN1 := Lib.hid (leZ_take (L := L) (i := i) (by rw [HL.out]; exact hi) x)
      generalize (L.getD i (0, 0)).1 = p0 at *
      generalize (L.getD i (0, 0)).2 = p1 at *
      have f2 : (i : Int) < n := by omega
      have f3 : (0 : Int) ≤ i := by omega
      clear d0 d1
      obtain ⟨m, hm⟩ : ∃ m, m = min c p1 := ⟨_, rfl⟩
      have HM : Hid (m = leZ x (L.take (i + 1))) := Lib.hid (by rw [HN1.out, hm, HN.out])
      have HMM := Lib.hid hm
      clear HN1 HN hm
      go_wp2_with fail
      all_goals
        go_roundw
        case rel => exact ⟨i + 1, m, by rw [HMM.out]; first | rfl | (congr 1; omega), by go_num, by omega, HM, HU.out.alloc _ _⟩
        case measure => simp [intOf]; omega
    · obtain rfl : i = n := by omega
      obtain rfl : r = c := by rw [← HR.out, HN.out, List.take_of_length_le (by rw [HL.out]; exact Nat.le_refl _)]
      clear HR
      go_wp2_with fail
      go_ret2
      exact ⟨rfl, HU.out⟩
set_option maxHeartbeats 4000000 in
theorem greatest_up (n k : Nat) (A : Option Addr) (L : List It) (hn : n ≤ 1000000) (w : World) (hS : Sl w A n L) :
    Calls Tryz.prog 43 #[.slice A n k] w fun e w' => e = grE L ∧ Up w w' := by
  by_cases h0 : n = 0
  · subst h0
    have : L = [] := List.length_eq_zero_iff.1 hS.1
    unfold grE
    rw [if_pos this]
    clear hS this
    go_enter Tryz.func43, Tryz.ntmps43
    go_wp2_with fail
    go_ret2
    exact ⟨rfl, Up.refl _⟩
  have e : grE L = got (grZ (L.getD 0 (0, 0)).2 L) true := by unfold grE; rw [if_neg (fun h => h0 (by rw [← hS.1, h]; rfl))]
  rw [e]
  clear e
  obtain ⟨b, o, rfl, d0, d1⟩ := hS.at_ (show 0 < n by omega)
  have HL := Lib.hid hS.1
  have HS := Lib.hid hS
  have t0 : ((n : Int) == 0) = false := by simp; omega
  have t1 : (0 : Int) < n := by omega
  generalize (L.getD 0 (0, 0)).2 = x at *
  generalize (L.getD 0 (0, 0)).1 = x' at *
  simp only [Nat.zero_mul, Nat.add_zero] at d0 d1
  clear hS
  generalize hr : grZ x L = r
  have HR := Lib.hid hr
  clear hr h0
  go_enter Tryz.func43, Tryz.ntmps43
  go_wp2_with fail
  go_loopw [4, 16] (fun s t wr => ∃ (i : Nat) (c : Int), s = .int .i64 c ∧ t = .int .i64 i ∧ i ≤ n ∧ Hid (c = grZ x (L.take i)) ∧ Up w wr) (fun _ t _ => n - (intOf t).toNat)
  case atStart => exact ⟨0, x, rfl, rfl, Nat.zero_le _, Lib.hid (by simp [grZ]), Up.refl _⟩
  case round =>
    obtain ⟨i, c, rfl, rfl, hin, HN, hU⟩ := hrel
    have HU := Lib.hid hU
    clear hU
    by_cases hi : i < n
    · obtain ⟨b2, o2, hbo, d2, d3⟩ := (HS.out.up HU.out).at_ hi
      cases hbo
      have HN1 := Lib.hid (grZ_take (L := L) (i := i) (by rw [HL.out]; exact hi) x)
      generalize (L.getD i (0, 0)).1 = p0 at *
      generalize (L.getD i (0, 0)).2 = p1 at *
      have f2 : (i : Int) < n := by omega
      have f3 : (0 : Int) ≤ i := by omega
      clear d0 d1
      obtain ⟨m, hm⟩ : ∃ m, m = max c p1 := ⟨_, rfl⟩
      have HM : Hid (m = grZ x (L.take (i + 1))) := Lib.hid (by rw [HN1.out, hm, HN.out])
      have HMM := Lib.hid hm
      clear HN1 HN hm
      go_wp2_with fail
      all_goals
        go_roundw
        case rel => exact ⟨i + 1, m, by rw [HMM.out]; first | rfl | (congr 1; omega), by go_num, by omega, HM, HU.out.alloc _ _⟩
        case measure => simp [intOf]; omega
    · obtain rfl : i = n := by omega
      obtain rfl : r = c := by rw [← HR.out, HN.out, List.take_of_length_le (by rw [HL.out]; exact Nat.le_refl _)]
      clear HR
      go_wp2_with fail
      go_ret2
      exact ⟨rfl, HU.out⟩

set_option maxHeartbeats 4000000 in
theorem rleast_up (n k : Nat) (A : Option Addr) (L : List It) (hn : n ≤ 1000000) (w : World) (hS : Sl w A n L) :
    Calls Tryz.prog 23 #[.slice A n k, .bool false] w fun e w' => e = leE L ∧ Up w w' := by
  by_cases h0 : n = 0
  · subst h0
    have : L = [] := List.length_eq_zero_iff.1 hS.1
    unfold leE
    rw [if_pos this]
    clear hS this
    go_enter Tryz.func23, Tryz.ntmps23
    go_wp2_with fail
    go_ret2
    exact ⟨rfl, Up.refl _⟩
  have e : leE L = got (leZ (L.getD 0 (0, 0)).2 L) true := by unfold leE; rw [if_neg (fun h => h0 (by rw [← hS.1, h]; rfl))]
  rw [e]
  clear e
  obtain ⟨b, o, rfl, d0, d1⟩ := hS.at_ (show 0 < n by omega)
  have HL := Lib.hid hS.1
  have HS := Lib.hid hS
  have t0 : ((n : Int) == 0) = false := by simp; omega
  have t1 : (0 : Int) < n := by omega
  generalize (L.getD 0 (0, 0)).2 = x at *
  generalize (L.getD 0 (0, 0)).1 = x' at *
  simp only [Nat.zero_mul, Nat.add_zero] at d0 d1
  clear hS
  generalize hr : leZ x L = r
  have HR := Lib.hid hr
  clear hr h0
  go_enter Tryz.func23, Tryz.ntmps23
  go_wp2_with fail
  go_loopw [6, 18] (fun s t wr => ∃ (i : Nat) (c : Int), s = .int .i64 c ∧ t = .int .i64 i ∧ i ≤ n ∧ Hid (c = leZ x (L.take i)) ∧ Up w wr) (fun _ t _ => n - (intOf t).toNat)
  case atStart => exact ⟨0, x, rfl, rfl, Nat.zero_le _, Lib.hid (by simp [leZ]), Up.refl _⟩
  case round =>
    obtain ⟨i, c, rfl, rfl, hin, HN, hU⟩ := hrel
    have HU := Lib.hid hU
    clear hU
    by_cases hi : i < n
    · obtain ⟨b2, o2, hbo, d2, d3⟩ := (HS.out.up HU.out).at_ hi
      cases hbo
      have HN1 := Lib.hid (leZ_take (L := L) (i := i) (by rw [HL.out]; exact hi) x)
      generalize (L.getD i (0, 0)).1 = p0 at *
      generalize (L.getD i (0, 0)).2 = p1 at *
      have f2 : (i : Int) < n := by omega
      have f3 : (0 : Int) ≤ i := by omega
      clear d0 d1
      by_cases hx : p1 < c
      · have HM : Hid (p1 = leZ x (L.take (i + 1))) := Lib.hid (by rw [HN1.out, ← HN.out]; omega)
        clear HN1 HN
        go_wp2_with fail
        go_roundw
        case rel => exact ⟨i + 1, p1, rfl, by go_num, by omega, HM, HU.out.alloc _ _⟩
        case measure => simp [intOf]; omega
      · have HM : Hid (c = leZ x (L.take (i + 1))) := Lib.hid (by rw [HN1.out, ← HN.out]; omega)
        clear HN1 HN
        go_wp2_with fail
        go_roundw
        case rel => exact ⟨i + 1, c, rfl, by go_num, by omega, HM, HU.out.alloc _ _⟩
        case measure => simp [intOf]; omega
    · obtain rfl : i = n := by omega
      obtain rfl : r = c := by rw [← HR.out, HN.out, List.take_of_length_le (by rw [HL.out]; exact Nat.le_refl _)]
      clear HR
      go_wp2_with fail
      go_ret2
      exact ⟨rfl, HU.out⟩
set_option maxHeartbeats 4000000 in
theorem rgreatest_up (n k : Nat) (A : Option Addr) (L : List It) (hn : n ≤ 1000000) (w : World) (hS : Sl w A n L) :
    Calls Tryz.prog 23 #[.slice A n k, .bool true] w fun e w' => e = grE L ∧ Up w w' := by
  by_cases h0 : n = 0
  · subst h0
    have : L = [] := List.length_eq_zero_iff.1 hS.1
    unfold grE
    rw [if_pos this]
    clear hS this
    go_enter Tryz.func23, Tryz.ntmps23
    go_wp2_with fail
    go_ret2
    exact ⟨rfl, Up.refl _⟩
  have e : grE L = got (grZ (L.getD 0 (0, 0)).2 L) true := by unfold grE; rw [if_neg (fun h => h0 (by rw [← hS.1, h]; rfl))]
  rw [e]
  clear e
  obtain ⟨b, o, rfl, d0, d1⟩ := hS.at_ (show 0 < n by omega)
  have HL := Lib.hid hS.1
  have HS := Lib.hid hS
  have t0 : ((n : Int) == 0) = false := by simp; omega
  have t1 : (0 : Int) < n := by omega
  generalize (L.getD 0 (0, 0)).2 = x at *
  generalize (L.getD 0 (0, 0)).1 = x' at *
  simp only [Nat.zero_mul, Nat.add_zero] at d0 d1
  clear hS
  generalize hr : grZ x L = r
  have HR := Lib.hid hr
  clear hr h0
  go_enter Tryz.func23, Tryz.ntmps23
  go_wp2_with fail
  go_loopw [6, 18] (fun s t wr => ∃ (i : Nat) (c : Int), s = .int .i64 c ∧ t = .int .i64 i ∧ i ≤ n ∧ Hid (c = grZ x (L.take i)) ∧ Up w wr) (fun _ t _ => n - (intOf t).toNat)
  case atStart => exact ⟨0, x, rfl, rfl, Nat.zero_le _, Lib.hid (by simp [grZ]), Up.refl _⟩
  case round =>
    obtain ⟨i, c, rfl, rfl, hin, HN, hU⟩ := hrel
    have HU := Lib.hid hU
    clear hU
    by_cases hi : i < n
    · obtain ⟨b2, o2, hbo, d2, d3⟩ := (HS.out.up HU.out).at_ hi
      cases hbo
      have HN1 := Lib.hid (grZ_take (L := L) (i := i) (by rw [HL.out]; exact hi) x)
      generalize (L.getD i (0, 0)).1 = p0 at *
      generalize (L.getD i (0, 0)).2 = p1 at *
      have f2 : (i : Int) < n := by omega
      have f3 : (0 : Int) ≤ i := by omega
      clear d0 d1
      by_cases hx : c < p1
      · have HM : Hid (p1 = grZ x (L.take (i + 1))) := Lib.hid (by rw [HN1.out, ← HN.out]; omega)
        clear HN1 HN
        go_wp2_with fail
        go_roundw
        case rel => exact ⟨i + 1, p1, rfl, by go_num, by omega, HM, HU.out.alloc _ _⟩
        case measure => simp [intOf]; omega
      · have HM : Hid (c = grZ x (L.take (i + 1))) := Lib.hid (by rw [HN1.out, ← HN.out]; omega)
        clear HN1 HN
        go_wp2_with fail
        go_roundw
        case rel => exact ⟨i + 1, c, rfl, by go_num, by omega, HM, HU.out.alloc _ _⟩
        case measure => simp [intOf]; omega
    · obtain rfl : i = n := by omega
      obtain rfl : r = c := by rw [← HR.out, HN.out, List.take_of_length_le (by rw [HL.out]; exact Nat.le_refl _)]
      clear HR
      go_wp2_with fail
      go_ret2
      exact ⟨rfl, HU.out⟩
end Go.Proofs.YtflahclphdlolaaGreat
