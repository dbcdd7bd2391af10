/- Texts of this claim, one after the other. -/
import Derived.Test.YtnhekeohbnmodaaZCFrame
import Derived.Test.YtnhekeohbnmodaaZERow
import Derived.Test.YtnhekeohbnmodaaZGBase
import Derived.Test.YtnhekeohbnmodaaZGLaw
import Derived.Test.YtnhekeohbnmodaaZHMath
import Derived.Test.YtnhekeohbnmodaaZHRVal
import Derived.Test.YtnhekeohbnmodaaZHRow
import Derived.Test.YtnhekeohbnmodaaZHTally
import Derived.Test.YtnhekeohbnmodaaZHVal
import Derived.Test.YtnhekeohbnmodaaZJHSmall
import Derived.Test.YtnhekeohbnmodaaZMath
import Derived.Test.YtnhekeohbnmodaaZWFormat
import Derived.Test.YtnhekeohbnmodaaZWide
/- Same of the reference of layer 10; rows of numbers, SameInts. -/
namespace Go.Proofs.Ytnhekeohbnmodaa
open Go.RowKit

theorem eqBucket (a0 a1 b0 b1 : Int) (w : World) : (Op.equalIn 10000 39 (.agg #[.int .i64 a0, .int .i64 a1]) (.agg #[.int .i64 b0, .int .i64 b1])).run Try.prog w =
    .ok (a0 == b0 && a1 == b1) w := by
  have qu := Try.underlying2
  have qa := Try.isAgg2
  have qz := Try.sizeOf2
  have qu2 := Try.underlying3
  have qa2 := Try.isAgg3
  have qz2 := Try.sizeOf3
  rw [show (10000 : Nat) = 9999 + 1 from rfl, Op.equalIn]
  simp only [Sem.run_bind, run_underlying Try.underlying39, Result.andThen_ok]
  go_simp
  by_cases h0 : a0 = b0 <;> by_cases h1 : a1 = b1 <;> simp [h0, h1]
set_option maxHeartbeats 2000000 in
set_option maxRecDepth 100000 in
theorem sameB_t (n k q : Nat) (A B : Option Addr) (L : List It) (hn : n ≤ 1000000) (w : World) (hA : Sl w A n L) (hB : Sl w B n L) :
    Calls Try.prog 18 #[.slice A n k, .slice B n q] w fun e w' => e = .returned (.bool true) ∧ Up w w' := by
  have HA := Lib.hid hA
  have HB := Lib.hid hB
  clear hA hB
  have t1 : ((n : Int) != (n : Int)) = false := by simp
  go_enter Try.func18, Try.ntmps18
  go_wp2
  go_loopw [13] (fun t wr => ∃ i : Nat, t = .int .i64 i ∧ i ≤ n ∧ Hid (Up w wr)) (fun t _ => n - (intOf t).toNat)
  case atStart => exact ⟨0, rfl, Nat.zero_le _, Lib.hid (Up.refl _)⟩
  case round =>
    obtain ⟨i, rfl, i2, HU⟩ := hrel
    by_cases hlt : i < n
    · obtain ⟨b, o, rfl, d0, d1⟩ := (HA.out.up HU.out).at_ hlt
      obtain ⟨b', o', rfl, d2, d3⟩ := (HB.out.up HU.out).at_ hlt
      generalize (L.getD i (0, 0)).1 = p0 at *
      generalize (L.getD i (0, 0)).2 = p1 at *
      have f2 : (i : Int) < n := by omega
      have f3 : (0 : Int) ≤ i := by omega
      have qe : ∀ w, (Op.equalIn 10000 39 (.agg #[.int .i64 p0, .int .i64 p1]) (.agg #[.int .i64 p0, .int .i64 p1])).run Try.prog w = .ok true w := fun w => by rw [eqBucket]; simp
      go_wp2
      go_quiet (fail)
      go_wp2
      go_roundw
      case rel => exact ⟨i + 1, by go_num, by omega, Lib.hid (HU.out.drewN _)⟩
      case measure => simp [intOf]; omega
    · go_wp2
      go_ret
      exact ⟨rfl, HU.out⟩

/-- Rows of numbers. -/
def il (L : List Int) : List Value := L.map (.int .i64)
theorem il_len (L : List Int) : (il L).length = L.length := by simp [il]
theorem il_app (L M : List Int) : il (L ++ M) = il L ++ il M := by simp [il]
theorem il_at {L : List Int} {j : Nat} (h : j < L.length) : (il L)[j]? = some (.int .i64 (L.getD j 0)) := by simp [il, List.getD, h]
theorem il_one (L : List Int) : ∀ u ∈ il L, u.oneCell' = true := by
  intro u hu
  simp only [il, List.mem_map] at hu
  obtain ⟨_, _, rfl⟩ := hu
  rfl
def OwI (w0 w : World) (v : Value) (n : Nat) (L : List Int) : Prop := Rw w0 w 3 1 v n (il L)
theorem OwI.nil (w0 w : World) : OwI w0 w (.slice none 0 0) 0 [] := Rw.nil _ _ _ _
theorem OwI.of_up {w0 w w' : World} {v : Value} {n : Nat} {L : List Int} (h : OwI w0 w v n L) (hu : Up w w') : OwI w0 w' v n L := Rw.of_up h hu
theorem OwI.sl {w0 w : World} {v : Value} {n : Nat} {L : List Int} (h : OwI w0 w v n L) : ∃ A c, v = .slice A n c ∧ n ≤ c ∧ Sn w A n L := by
  have hn : L.length = n := by have := h.1; rw [il_len] at this; omega
  rcases h.2 with ⟨rfl, rfl⟩ | ⟨g, cap, cur, rfl, _, hh, hc, _, hs, ht⟩
  · exact ⟨none, 0, rfl, Nat.le_refl _, hn, fun hx => absurd hx (by omega)⟩
  · refine ⟨some ⟨g, 0, none⟩, cap, rfl, hc, hn, fun _ => ⟨g, 0, rfl, fun j hj => ?_⟩⟩
    rw [Nat.zero_add, cell_of_row w g j cur _ (0, 0) hh]
    have e := il_at (L := L) (j := j) (by omega)
    rw [← ht, List.getElem?_take] at e
    split at e
    · simpa using e
    · cases e
theorem append1J (ty : TypeId) (w0 w : World) (A : Option Addr) (n k : Nat) (L : List Int) (x : Int) (hO : OwI w0 w (.slice A n k) n L) (hu : Up w0 w) (hlen : n + 1 ≤ 1000000) :
    ∃ A' k' w', (Builtin.append_ #[36, 36] ty #[.slice A n k, .slice (some ⟨w.heap.size, 0, none⟩) 1 1]).run Try.prog (w.alloc (.cells #[.int .i64 x] 3)) = .ok (.slice A' (n + 1) k') w' ∧ OwI w0 w' (.slice A' (n + 1) k') (n + 1) (L ++ [x]) ∧ Up w0 w' := by
  obtain ⟨g', k', w', hr, h1, h2, _, _⟩ := appendR 36 3 ty _ 1 8 Try.underlying36 int_info rfl (by omega) w0 (w.alloc (.cells #[.int .i64 x] 3)) (.slice A n k) n (il L) (hO.of_up ((Up.refl _).alloc _ _)) (hu.alloc _ _) w.heap.size 0 1 1 (il [x]) rfl (by omega) (fun j u hj => by rw [Nat.zero_add, Blk.cell (Blk.new w _ _)]; simpa [il] using hj) (il_one _) hlen
  rw [← il_app] at h1
  exact ⟨_, k', w', hr, h1, h2⟩
set_option maxHeartbeats 2000000 in
set_option maxRecDepth 100000 in
theorem sameI_t (n k q : Nat) (A B : Option Addr) (L : List Int) (hn : n ≤ 1000000) (w : World) (hA : Sn w A n L) (hB : Sn w B n L) :
    Calls Try.prog 26 #[.slice A n k, .slice B n q] w fun e w' => e = .returned (.bool true) ∧ Up w w' := by
  have HA := Lib.hid hA
  have HB := Lib.hid hB
  clear hA hB
  have t1 : ((n : Int) != (n : Int)) = false := by simp
  go_enter Try.func26, Try.ntmps26
  go_wp2
  go_loopw [13] (fun t wr => ∃ i : Nat, t = .int .i64 i ∧ i ≤ n ∧ Hid (Up w wr)) (fun t _ => n - (intOf t).toNat)
  case atStart => exact ⟨0, rfl, Nat.zero_le _, Lib.hid (Up.refl _)⟩
  case round =>
    obtain ⟨i, rfl, i2, HU⟩ := hrel
    by_cases hlt : i < n
    · obtain ⟨b, o, rfl, d0⟩ := (HA.out.up HU.out).2 (by omega)
      obtain ⟨b', o', rfl, d1⟩ := (HB.out.up HU.out).2 (by omega)
      have d0 := d0 i hlt
      have d1 := d1 i hlt
      generalize L.getD i 0 = p0 at *
      have f2 : (i : Int) < n := by omega
      have f3 : (0 : Int) ≤ i := by omega
      have t2 : (p0 != p0) = false := by simp
      go_wp2
      go_quiet (fail)
      go_wp2
      go_roundw
      case rel => exact ⟨i + 1, by go_num, by omega, Lib.hid (HU.out.drewN _)⟩
      case measure => simp [intOf]; omega
    · go_wp2
      go_ret
      exact ⟨rfl, HU.out⟩
end Go.Proofs.Ytnhekeohbnmodaa

/- Counts of package buckets and of its reference. -/
namespace Go.Proofs.Ytnhekeohbnmodaa
open Go.RowKit

theorem szB_in {l : Int} (h : 0 ≤ l ∧ l ≤ 30) : 1 ≤ szB l ∧ szB l = 2 ^ l.toNat := by
  unfold szB; rw [if_pos h]; exact ⟨pwB1 _, rfl⟩
theorem tot_first {L : List It} (h : L ≠ []) : szB (L.getD 0 (0, 0)).2 ≤ totB L := by
  cases L with
  | nil => exact absurd rfl h
  | cons x L => have := totB_low L; simp only [totB, List.getD_cons_zero]; omega
/-- The numbers of buckets, or nothing if a level is out of range. -/
def cuL (L : List It) : List Int := if lvB L = true then ctL L else []
theorem cuL_no {L : List It} (h : lvB L = false) : cuL L = [] := by unfold cuL; rw [h]; rfl
theorem cuL_yes {L : List It} (h : lvB L = true) : cuL L = ctL L := by unfold cuL; rw [if_pos h]
theorem lv_all {L : List It} (h : lvB L = true) {j : Nat} (hj : j < L.length) : 0 ≤ (L.getD j (0, 0)).2 ∧ (L.getD j (0, 0)).2 ≤ 30 := levB_true (of_decide_eq_true h j hj)

/-- A list of numbers is returned. -/
inductive Ri (e : Ending) (w w' : World) (Z : List Int) : Prop
  | mk (A' : Option Addr) (c' k' : Nat) (he : e = .returned (.slice A' c' k')) (hc : c' ≤ 31) (hs : Sn w' A' c' Z) (hu : Up w w') : Ri e w w' Z
set_option maxHeartbeats 4000000 in
set_option maxRecDepth 100000 in
theorem counts10_up (n k : Nat) (A : Option Addr) (L : List It) (hn : n ≤ 50000) (w : World) (hS : Sl w A n L) :
    Calls Try.prog 27 #[.slice A n k] w fun e w' => Ri e w w' (cuL L) := by
  have KT := Lib.hid (tallyOf_up n k A L (by omega) w hS)
  have et : taV L = .tuple #[.agg (tyL (tyF L)).toArray, .bool (lvB L)] := rfl
  rw [et] at KT
  cases hl : lvB L with
  | false =>
    rw [cuL_no hl]
    rw [hl] at KT
    generalize tyF L = F at *
    clear hS et hl
    go_enter Try.func27, Try.ntmps27
    go_wp2_with (first | (go_at_call 40; (with_reducible refine KT.out.mono ?_); rintro e w1 ⟨rfl, hu1⟩; have HU1 := Lib.hid hu1; clear hu1) | (refine wpList_store_ty rfl (.tmp 3) (.tmp 8) rfl w1.heap.size (fun _ => 0) F rfl rfl (Ty.zero w1) ?_; intro w3 hc3 ht3; have HU3 := Lib.hid (hc3.up _ (HU1.out.alloc _ _) HU1.out.size); clear hc3 ht3))
    go_ret
    exact .mk _ _ _ rfl (by omega) Sn.none_ (HU3.out)
  | true =>
  rw [hl] at KT
  cases n with
  | zero =>
    have e : L = [] := List.eq_nil_of_length_eq_zero hS.1
    rw [cuL_yes hl, e, show ctL [] = [] from rfl]
    generalize tyF L = F at *
    clear hS et hl
    go_enter Try.func27, Try.ntmps27
    go_wp2_with (first | (go_at_call 40; (with_reducible refine KT.out.mono ?_); rintro e w1 ⟨rfl, hu1⟩; have HU1 := Lib.hid hu1; clear hu1) | (refine wpList_store_ty rfl (.tmp 3) (.tmp 8) rfl w1.heap.size (fun _ => 0) F rfl rfl (Ty.zero w1) ?_; intro w3 hc3 ht3; have HU3 := Lib.hid (hc3.up _ (HU1.out.alloc _ _) HU1.out.size); clear hc3 ht3))
    go_ret
    exact .mk _ _ _ rfl (by omega) Sn.none_ (HU3.out)
  | succ n =>
  obtain ⟨b, o, rfl, _, d1⟩ := hS.at_ (show 0 < n + 1 by omega)
  simp only [Nat.zero_mul, Nat.add_zero] at d1
  have hX : L ≠ [] := fun e => by have := hS.1; rw [e] at this; simp at this
  have h0 := lv_all hl (show 0 < L.length by rw [hS.1]; omega)
  obtain ⟨m, hm⟩ : ∃ m : Nat, (L.getD 0 (0, 0)).2 = (m : Int) := ⟨(L.getD 0 (0, 0)).2.toNat, by omega⟩
  have htp : tpB L = m := by unfold tpB; rw [hm]; rfl
  rw [hm] at d1
  have hm30 : m ≤ 30 := by omega
  have hF : ∀ j : Nat, tyF L j = (cn (j : Int) L : Int) := fun j => by unfold tyF; rw [if_pos hl]
  have hlen := ctL_len L hX
  rw [htp] at hlen
  have hget : ∀ j, j < m + 1 → (ctL L).getD j 0 = tyF L j := fun j hj => by
    unfold ctL
    rw [if_neg hX, htp, hF]
    simp [List.getD, hj]
  have HG := Lib.hid hget
  have HLn := Lib.hid hlen
  rw [cuL_yes hl]
  generalize ctL L = Z at *
  generalize tyF L = F at *
  have hsl : ∀ g W, (Instr.sliceAt 57 (.pointer (some ⟨g, 0, none⟩)) none (some (.int .i64 ((m : Int) + 1))) none).run Try.prog W = .ok (.slice (some ⟨g, 0, none⟩) (m + 1) 31) W := fun g W => sliceTy_run g (m + 1) (by omega) W
  clear hS et hl hX h0 hm htp hF hlen hget
  have t1 : (((n : Int) + 1) == 0) = false := by simp; omega
  have t2 : (0 : Int) < (n : Int) + 1 := by omega
  go_enter Try.func27, Try.ntmps27
  go_wp2_with (first | (go_at_call 40; (with_reducible refine KT.out.mono ?_); rintro e w1 ⟨rfl, hu1⟩; have HU1 := Lib.hid hu1; clear hu1) | (refine wpList_store_ty rfl (.tmp 3) (.tmp 8) rfl w1.heap.size (fun _ => 0) F rfl rfl (Ty.zero w1) ?_; intro w3 hc3 ht3; have HU3 := Lib.hid (hc3.up _ (HU1.out.alloc _ _) HU1.out.size); have HT3 := Lib.hid ht3; have e1 := HU3.out.keep _ _ _ d1; clear hc3 ht3))
  go_ret
  refine .mk _ _ _ rfl (by omega) ⟨HLn.out, fun _ => ⟨_, 0, rfl, fun j hj => ?_⟩⟩ HU3.out
  rw [Nat.zero_add, HG.out j hj]
  exact HT3.out.at_ (by omega)

theorem take_snc {Z : List Int} {i : Nat} (h : i < Z.length) : Z.take (i + 1) = Z.take i ++ [Z.getD i 0] := by
  rw [List.take_add_one]
  simp [List.getD, h]
set_option maxHeartbeats 4000000 in
set_option maxRecDepth 100000 in
theorem rcounts10_up (n k : Nat) (A : Option Addr) (L : List It) (hn : n ≤ 50000) (w : World) (hS : Sl w A n L) :
    Calls Try.prog 28 #[.slice A n k] w fun e w' => Ri e w w' (cuL L) := by
  by_cases hz : n = 0
  · subst hz
    have e : L = [] := List.eq_nil_of_length_eq_zero hS.1
    rw [e, show cuL [] = [] by unfold cuL; split <;> rfl]
    clear hS e
    go_enter Try.func28, Try.ntmps28
    go_wp2_with fail
    go_ret
    exact .mk _ _ _ rfl (by omega) Sn.none_ (Up.refl _)
  have hpos : 0 < n := by omega
  obtain ⟨b, o, rfl, _, d1⟩ := hS.at_ hpos
  simp only [Nat.zero_mul, Nat.add_zero] at d1
  have HL := Lib.hid hS.1
  have HS := Lib.hid hS
  have HB := Lib.hid (fun j (hj : j < n) => lvB_bad (L := L) (j := j) (by rw [HL.out]; exact hj))
  have HG := Lib.hid (show (∀ j, j < n → levB (L.getD j (0, 0)).2 = true) → lvB L = true from fun h => decide_eq_true (fun j hj => h j (by rw [← HL.out]; exact hj)))
  have HN := Lib.hid (fun h => cuL_no (L := L) h)
  have HY := Lib.hid (fun h => cuL_yes (L := L) h)
  have hX : L ≠ [] := fun e => by have := hS.1; rw [e] at this; simp at this; omega
  have H0 := Lib.hid (fun h => lv_all (L := L) h (j := 0) (by rw [HL.out]; omega))
  have HLn := Lib.hid (ctL_len L hX)
  have HGt : Hid (∀ j, j < tpB L + 1 → (ctL L).getD j 0 = (cn (j : Int) L : Int)) := Lib.hid (fun j hj => by
    unfold ctL
    rw [if_neg hX]
    simp [List.getD, hj])
  have HT : Hid (0 ≤ (L.getD 0 (0, 0)).2 → (L.getD 0 (0, 0)).2 = (tpB L : Int)) := Lib.hid (fun h => by unfold tpB; omega)
  have HD := Lib.hid d1
  generalize cuL L = Z at *
  clear hS hX d1
  have t1 : ((n : Int) == 0) = false := by simp; omega
  go_enter Try.func28, Try.ntmps28
  go_wp2_with fail
  go_loopw [15] (fun t wr => ∃ i : Nat, t = .int .i64 i ∧ i ≤ n ∧ Hid (∀ j, j < i → levB (L.getD j (0, 0)).2 = true) ∧ Hid (Up w wr)) (fun t _ => n - (intOf t).toNat)
  case atStart => exact ⟨0, rfl, by omega, Lib.hid (fun j hj => absurd hj (by omega)), Lib.hid (Up.refl _)⟩
  case round =>
    obtain ⟨i, rfl, hin, HA, HU⟩ := hrel
    by_cases hi : i < n
    · obtain ⟨b', o', hbo, d0, d1⟩ := (HS.out.up HU.out).at_ hi
      cases hbo
      have HR := Lib.hid (HB.out i hi)
      have HA1 : Hid (levB (L.getD i (0, 0)).2 = true → ∀ j, j < i + 1 → levB (L.getD j (0, 0)).2 = true) := Lib.hid (fun h j hj => by
        rcases Nat.lt_or_ge j i with g | g
        · exact HA.out j g
        · obtain rfl : j = i := by omega
          exact h)
      generalize (L.getD i (0, 0)).1 = p0 at *
      generalize hp1 : (L.getD i (0, 0)).2 = p1 at d1 HR HA1
      have f2 : (i : Int) < (n : Int) := by omega
      have f3 : (0 : Int) ≤ i := by omega
      by_cases h1 : p1 < 0
      · obtain rfl : Z = [] := HN.out (HR.out (decide_eq_false (by omega)))
        clear HR HA1 HN HY HB HG hp1
        go_wp2_with fail
        go_ret
        exact .mk _ _ _ rfl (by omega) Sn.none_ (HU.out.alloc _ _)
      by_cases h2 : 30 < p1
      · obtain rfl : Z = [] := HN.out (HR.out (decide_eq_false (by omega)))
        clear HR HA1 HN HY HB HG hp1
        go_wp2_with fail
        go_ret
        exact .mk _ _ _ rfl (by omega) Sn.none_ (HU.out.alloc _ _)
      have HA2 := Lib.hid (HA1.out (decide_eq_true (by omega)))
      clear HR HA1 HA hp1
      go_wp2_with fail
      go_roundw
      case rel => exact ⟨i + 1, by go_num, by omega, HA2, Lib.hid (HU.out.alloc _ _)⟩
      case measure => simp [intOf]; omega
    · obtain rfl : n = i := by omega
      have hlv := HG.out HA.out
      obtain rfl : Z = ctL L := HY.out hlv
      have h0 := H0.out hlv
      have hT := HT.out h0.1
      have HD1 := HD
      rw [hT] at HD1 h0
      have hm30 : tpB L ≤ 30 := by omega
      generalize tpB L = m at *
      clear hlv HG HB HN HY H0 HT HA hT h0 HD
      go_wp2_with fail
      go_loopw [3, 6] (fun s3 s6 wo => ∃ (l k' : Nat) (A' : Option Addr), s3 = .slice A' l k' ∧ s6 = .int .i64 l ∧ l ≤ m + 1 ∧ Hid (OwI w wo (.slice A' l k') l ((ctL L).take l)) ∧ Hid (Up w wo)) (fun _ s6 _ => 32 - (intOf s6).toNat)
      case atStart => exact ⟨0, 0, none, rfl, rfl, by omega, Lib.hid (OwI.nil _ _), HU⟩
      case round =>
        obtain ⟨l, k', A', rfl, rfl, hl, HO, HV⟩ := hrel
        have d2 := HV.out.keep _ _ _ HD1.out
        have f1 : (l : Int) ≤ 31 := by omega
        have t3 : (0 : Int) < (n : Int) := by omega
        by_cases hlm : l ≤ m
        · have f2 : (l : Int) ≤ m := by omega
          have HZ := Lib.hid (take_snc (Z := ctL L) (i := l) (by rw [HLn.out]; omega))
          have HW := Lib.hid (HGt.out l (by omega))
          go_wp2_with fail
          have HV2 := HV
          go_loopw [7, 38] (fun s7 s38 wi => ∃ i c : Nat, s7 = .int .i64 c ∧ s38 = .int .i64 i ∧ i ≤ n ∧ c ≤ i ∧ Hid (c = cn (l : Int) (L.take i)) ∧ Hid (Up wr wi)) (fun _ s38 _ => n - (intOf s38).toNat)
          case atStart => exact ⟨0, 0, rfl, rfl, by omega, by omega, Lib.hid rfl, Lib.hid (Up.refl _)⟩
          case round =>
            obtain ⟨i, c, rfl, rfl, hi1, hci, HC, HUi⟩ := hrel
            by_cases hin : i < n
            · obtain ⟨b', o', hbo, d0, d1⟩ := (HS.out.up (HV2.out.trans HUi.out)).at_ hin
              cases hbo
              have HN := Lib.hid (cn_take (L := L) (i := i) (by rw [HL.out]; exact hin) (l : Int))
              generalize (L.getD i (0, 0)).1 = p0 at *
              generalize (L.getD i (0, 0)).2 = p1 at *
              have f4 : (i : Int) < (n : Int) := by omega
              have f3 : (0 : Int) ≤ i := by omega
              by_cases hp : p1 = l
              · have e1 : cn (l : Int) (L.take (i + 1)) = c + 1 := by rw [HN.out, if_pos hp, ← HC.out]
                have t1 : (p1 == (l : Int)) = true := by simp [hp]
                have E1 := Lib.hid e1
                clear hp e1 HN
                go_wp2_with fail
                go_roundw
                case rel => exact ⟨i + 1, c + 1, by go_num, by go_num, by omega, by omega, Lib.hid E1.out.symm, Lib.hid (HUi.out.alloc _ _)⟩
                case measure => simp [intOf]; omega
              · have e1 : cn (l : Int) (L.take (i + 1)) = c := by rw [HN.out, if_neg hp, ← HC.out]; rfl
                have t1 : (p1 == (l : Int)) = false := by simp [hp]
                have E1 := Lib.hid e1
                clear hp e1 HN
                go_wp2_with fail
                go_roundw
                case rel => exact ⟨i + 1, c, by go_num, by go_num, by omega, by omega, Lib.hid E1.out.symm, Lib.hid (HUi.out.alloc _ _)⟩
                case measure => simp [intOf]; omega
            · obtain rfl : n = i := by omega
              have hc : (c : Int) = (ctL L).getD l 0 := by rw [HW.out, HC.out, take_all HL.out]
              obtain ⟨A2, k2, w2, hr, o2, u2⟩ := append1J 36 w wr A' l k' ((ctL L).take l) (c : Int) (HO.out.of_up HUi.out) (HV2.out.trans HUi.out) (by omega)
              rw [hc, ← HZ.out] at o2
              have HR := Lib.hid hr
              have HO2 := Lib.hid o2
              have HU2 := Lib.hid u2
              clear hr o2 u2 hc HC HZ HW
              go_wp2_with (refine wpList_append_run (o := ⟨some 52, _, _, _, _, _⟩) rfl (.tmp 49) (.tmp 51) _ rfl _ _ rfl rfl _ _ HR.out ?_)
              go_roundw
              case rel => exact ⟨l + 1, k2, A2, rfl, by go_num, by omega, HO2, HU2⟩
              case measure => simp [intOf]; omega
        · obtain rfl : l = m + 1 := by omega
          have f2 : ¬ ((m : Int) + 1 ≤ m) := by omega
          have hta : (ctL L).take (m + 1) = ctL L := List.take_of_length_le (by rw [HLn.out]; exact Nat.le_refl _)
          rw [hta] at HO
          clear hta
          go_wp2_with fail
          go_ret
          obtain ⟨A9, k9, e9, _, hs9⟩ := HO.out.sl
          cases e9
          exact .mk _ _ _ rfl (by omega) hs9 HV.out
end Go.Proofs.Ytnhekeohbnmodaa
