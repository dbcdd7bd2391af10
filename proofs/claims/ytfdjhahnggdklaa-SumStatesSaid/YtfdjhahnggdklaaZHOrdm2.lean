/- Texts of these claims, one after the other. -/
import Derived.Test.YtfdjhahnggdklaaZCClock
import Derived.Test.YtfdjhahnggdklaaZGBasem8
import Derived.Test.YtfdjhahnggdklaaZGLawm3
import Derived.Test.YtfdjhahnggdklaaZHSmallm7
import Derived.Test.YtfdjhahnggdklaaZWCmpm5
import Derived.Test.YtfdjhahnggdklaaZWMathm9
namespace Go.Proofs.Ytfdjhahnggdklaa
open Go.RowKit

/-- What is asked of the bucket at place j. -/
def okO (L : List It) (j : Nat) : Prop := tickB (L.getD j (0, 0)).1 = true ∧ levB (L.getD j (0, 0)).2 = true ∧ (0 < j → (L.getD (j - 1) (0, 0)).1 ≤ (L.getD j (0, 0)).1 ∧ (L.getD j (0, 0)).2 ≤ (L.getD (j - 1) (0, 0)).2)
instance (L : List It) (j : Nat) : Decidable (okO L j) := by unfold okO; infer_instance
def orB (L : List It) : Bool := decide (∀ j, j < L.length → okO L j)
theorem orB_bad {L : List It} {j : Nat} (hj : j < L.length) (h : ¬ okO L j) : orB L = false := decide_eq_false (fun hp => h (hp j hj))
theorem gD_mem {L : List It} {j : Nat} (h : j < L.length) : L.getD j (0, 0) ∈ L := by simp [List.getD, h]
theorem gD_at {L : List It} {j : Nat} (h : j < L.length) : L.getD j (0, 0) = L[j] := by simp [List.getD, h]
theorem adj_all {f : It → Int} {L : List It} (h : ∀ j, j < L.length → 0 < j → f (L.getD (j - 1) (0, 0)) ≤ f (L.getD j (0, 0))) : ∀ d i, i + d < L.length → f (L.getD i (0, 0)) ≤ f (L.getD (i + d) (0, 0)) := by
  intro d
  induction d with
  | zero => intro i _; exact Int.le_refl _
  | succ d ih =>
    intro i hi
    have h1 := ih i (by omega)
    have h2 := h (i + (d + 1)) hi (by omega)
    rw [show i + (d + 1) - 1 = i + d by omega] at h2
    omega
theorem orB_iff {L : List It} : orB L = true ↔ Rg L ∧ Ds L ∧ As L := by
  unfold orB
  rw [decide_eq_true_eq]
  constructor
  · intro h
    refine ⟨fun x hx => ?_, ?_, ?_⟩
    · obtain ⟨j, hj, rfl⟩ := List.mem_iff_getElem.1 hx
      obtain ⟨g1, g2, _⟩ := h j hj
      rw [gD_at hj] at g1 g2
      have := tickB_true g1; have := levB_true g2
      omega
    · unfold Ds
      rw [List.pairwise_iff_getElem]
      intro i j hi hj hij
      have g := adj_all (f := fun x => -x.2) (L := L) (fun j hj h0 => by have := ((h j hj).2.2 h0).2; omega) (j - i) i (by omega)
      rw [show i + (j - i) = j by omega, gD_at hi, gD_at hj] at g
      omega
    · unfold As
      rw [List.pairwise_iff_getElem]
      intro i j hi hj hij
      have g := adj_all (f := fun x => x.1) (L := L) (fun j hj h0 => ((h j hj).2.2 h0).1) (j - i) i (by omega)
      rw [show i + (j - i) = j by omega, gD_at hi, gD_at hj] at g
      exact g
  · rintro ⟨h1, h2, h3⟩ j hj
    have r := h1 _ (gD_mem hj)
    refine ⟨tickB_yes r.1.1 r.1.2, decide_eq_true r.2, fun h0 => ?_⟩
    rw [gD_at hj, gD_at (show j - 1 < L.length by omega)]
    exact ⟨List.pairwise_iff_getElem.1 h3 (j - 1) j (by omega) hj (by omega), List.pairwise_iff_getElem.1 h2 (j - 1) j (by omega) hj (by omega)⟩
/-- The bucket before a place. -/
def prv (L : List It) (i : Nat) : It := if i = 0 then (0, 30) else L.getD (i - 1) (0, 0)
theorem okO_prv {L : List It} {i : Nat} : okO L i ↔ tickB (L.getD i (0, 0)).1 = true ∧ levB (L.getD i (0, 0)).2 = true ∧ (prv L i).1 ≤ (L.getD i (0, 0)).1 ∧ (L.getD i (0, 0)).2 ≤ (prv L i).2 := by
  unfold okO prv
  by_cases h : i = 0
  · subst h
    rw [if_pos rfl]
    constructor
    · rintro ⟨a, b, _⟩
      have := tickB_true a; have := levB_true b
      exact ⟨a, b, by simp only; omega, by simp only; omega⟩
    · rintro ⟨a, b, _⟩
      exact ⟨a, b, fun h => absurd h (by omega)⟩
  · rw [if_neg h]
    constructor
    · rintro ⟨a, b, c⟩; exact ⟨a, b, c (by omega)⟩
    · rintro ⟨a, b, c⟩; exact ⟨a, b, fun _ => c⟩

set_option maxHeartbeats 8000000 in
set_option maxRecDepth 100000 in
theorem inOrder_up (n k : Nat) (A : Option Addr) (L : List It) (hn : n ≤ 100000) (w : World) (hS : Sl w A n L) :
    Calls Try.prog 87 #[.slice A n k] w fun e w' => e = .returned (.bool (orB L)) ∧ Up w w' := by
  have HL := Lib.hid hS.1
  have HS := Lib.hid hS
  have KT := Lib.hid isTick10_any
  have KL := Lib.hid isLevel_any
  clear hS
  have HB := Lib.hid (fun j (hj : j < n) => orB_bad (L := L) (j := j) (by rw [HL.out]; exact hj))
  have HG := Lib.hid (show (∀ j, j < n → okO L j) → orB L = true from fun h => decide_eq_true (fun j hj => h j (by rw [← HL.out]; exact hj)))
  generalize orB L = r at *
  go_enter Try.func87, Try.ntmps87
  go_wp2_with fail
  go_loopw [9] (fun t wr => ∃ i : Nat, t = .int .i64 i ∧ i ≤ n ∧ Hid (∀ j, j < i → okO L j) ∧ wr.cell? ⟨w.heap.size, 0, none⟩ = some (.int .i64 (prv L i).1) ∧ wr.cell? ⟨w.heap.size, 1, none⟩ = some (.int .i64 (prv L i).2) ∧ Up w wr) (fun t _ => n - (intOf t).toNat)
  case atStart => exact ⟨0, rfl, Nat.zero_le _, Lib.hid (fun j hj => absurd hj (by omega)), by simp [go_sem, prv], by simp [go_sem, prv], (Up.refl _).alloc _ _⟩
  case round =>
    obtain ⟨i, rfl, hin, HA, c0, c1, hU⟩ := hrel
    have HU := Lib.hid hU
    have fz := hU.own 0 0
    have fz1 := hU.own 0 1
    simp only [Nat.add_zero] at fz fz1
    clear hU
    by_cases hi : i < n
    · obtain ⟨b, o, rfl, d0, d1⟩ := (HS.out.up HU.out).at_ hi
      have HO := Lib.hid (okO_prv (L := L) (i := i))
      have HP : Hid (prv L (i + 1) = L.getD i (0, 0)) := Lib.hid (by unfold prv; rw [if_neg (by omega), Nat.add_sub_cancel])
      have HP1 := Lib.hid (congrArg Prod.fst HP.out)
      have HP2 := Lib.hid (congrArg Prod.snd HP.out)
      have HR := Lib.hid (HB.out i hi)
      clear HP
      generalize (L.getD i (0, 0)).1 = p0 at *
      generalize (L.getD i (0, 0)).2 = p1 at *
      generalize (prv L i).1 = q0 at *
      generalize (prv L i).2 = q1 at *
      have f2 : (i : Int) < n := by omega
      have f3 : (0 : Int) ≤ i := by omega
      have K1 := Lib.hid (KT.out p0)
      have K2 := Lib.hid (KL.out p1)
      have lt := World.block_lt_of_cell? _ _ c0
      simp only at lt
      have ne : ¬ wr.heap.size = w.heap.size := by omega
      cases hx : tickB p0 with
      | false =>
        obtain rfl : r = false := HR.out (fun h => by have := HO.out.1 h; rw [hx] at this; cases this.1)
        rw [hx] at K1
        clear hx HO HR HB HG
        go_wp2_with (go_at_call 100; (with_reducible refine (K1.out _).mono ?_); rintro e w' ⟨rfl, rfl⟩)
        go_ret
        exact ⟨rfl, HU.out.alloc _ _⟩
      | true =>
      rw [hx] at K1
      cases hy : levB p1 with
      | false =>
        obtain rfl : r = false := HR.out (fun h => by have := HO.out.1 h; rw [hy] at this; cases this.2.1)
        rw [hy] at K2
        clear hx hy HO HR HB HG
        go_wp2_with (first | (go_at_call 100; (with_reducible refine (K1.out _).mono ?_); rintro e w' ⟨rfl, rfl⟩) | (go_at_call 99; (with_reducible refine (K2.out _).mono ?_); rintro e w' ⟨rfl, rfl⟩))
        go_ret
        exact ⟨rfl, HU.out.alloc _ _⟩
      | true =>
      rw [hy] at K2
      by_cases h1 : p0 < q0
      · obtain rfl : r = false := HR.out (fun h => by have := HO.out.1 h; omega)
        clear hx hy HO HR HB HG
        go_wp2_with (first | (go_at_call 100; (with_reducible refine (K1.out _).mono ?_); rintro e w' ⟨rfl, rfl⟩) | (go_at_call 99; (with_reducible refine (K2.out _).mono ?_); rintro e w' ⟨rfl, rfl⟩))
        go_ret
        exact ⟨rfl, HU.out.alloc _ _⟩
      by_cases h2 : q1 < p1
      · obtain rfl : r = false := HR.out (fun h => by have := HO.out.1 h; omega)
        clear hx hy HO HR HB HG
        go_wp2_with (first | (go_at_call 100; (with_reducible refine (K1.out _).mono ?_); rintro e w' ⟨rfl, rfl⟩) | (go_at_call 99; (with_reducible refine (K2.out _).mono ?_); rintro e w' ⟨rfl, rfl⟩))
        go_ret
        exact ⟨rfl, HU.out.alloc _ _⟩
      have HA1 : Hid (∀ j, j < i + 1 → okO L j) := Lib.hid (fun j hj => by
        rcases Nat.lt_or_ge j i with g | g
        · exact HA.out j g
        · obtain rfl : j = i := by omega
          exact HO.out.2 ⟨hx, hy, by omega, by omega⟩)
      clear hx hy HO HR HA
      go_wp2_with (first | (go_at_call 100; (with_reducible refine (K1.out _).mono ?_); rintro e w' ⟨rfl, rfl⟩) | (go_at_call 99; (with_reducible refine (K2.out _).mono ?_); rintro e w' ⟨rfl, rfl⟩))
      go_roundw
      case rel =>
        refine ⟨i + 1, by go_num, by omega, HA1, ?_, ?_, ?_⟩
        · rw [HP1.out]; simp [go_sem, *]
        · rw [HP2.out]; simp [go_sem, *]
        · have := HU.out
          refine Up.alloc (Up.setCell (Up.setCell this ?_ _) ?_ _) _ _
          · exact Nat.le_refl _
          · exact Nat.le_refl _
      case measure => simp [intOf]; omega
    · obtain rfl : i = n := by omega
      obtain rfl : r = true := HG.out HA.out
      clear HG HB HA
      go_wp2_with fail
      go_ret
      exact ⟨rfl, HU.out⟩
end Go.Proofs.Ytfdjhahnggdklaa

namespace Go.Proofs.Ytfdjhahnggdklaa
open Go.RowKit

/-- The cells of the array. -/
def tyL (f : Nat → Int) : List Value := (List.range 31).map (fun j => .int .i64 (f j))
theorem tyL_len (f : Nat → Int) : (tyL f).length = 31 := by simp [tyL]
theorem tyL_at (f : Nat → Int) {j : Nat} (h : j < 31) : (tyL f)[j]? = some (.int .i64 (f j)) := by simp [tyL, h]
theorem tyL_set (f : Nat → Int) (m : Nat) (x : Int) : (tyL f).set m (.int .i64 x) = tyL (fun j => if j = m then x else f j) := by
  apply List.ext_getElem?
  intro j
  rw [List.getElem?_set]
  by_cases hj : j < 31
  · rw [tyL_at _ hj, tyL_at _ hj]
    by_cases e : m = j
    · subst e; simp [tyL_len, hj]
    · rw [if_neg e, if_neg (fun h => e h.symm)]
  · rw [List.getElem?_eq_none (by rw [tyL_len]; omega), List.getElem?_eq_none (by rw [tyL_len]; omega)]
    by_cases e : m = j
    · rw [if_pos e, if_neg (by rw [tyL_len]; omega)]
    · rw [if_neg e]
theorem tyL_congr {f g : Nat → Int} (h : ∀ j, j < 31 → f j = g j) : tyL f = tyL g := by
  unfold tyL
  refine List.map_congr_left (fun j hj => ?_)
  rw [h j (List.mem_range.1 hj)]
/-- A block that is an array of numbers of buckets. -/
def Ty (w : World) (g : Nat) (f : Nat → Int) : Prop := Blk w g 101 (tyL f).toArray
theorem Ty.at_ {w : World} {g : Nat} {f : Nat → Int} (h : Ty w g f) {j : Nat} (hj : j < 31) : w.cell? ⟨g, j, none⟩ = some (.int .i64 (f j)) := by
  rw [Blk.cell h]; simp [tyL_at f hj]
theorem Ty.set_ {w : World} {g : Nat} {f : Nat → Int} (h : Ty w g f) (m : Nat) (x : Int) : Ty (w.setCell ⟨g, m, none⟩ (.int .i64 x)) g (fun j => if j = m then x else f j) := by
  have h1 := Blk.set_ h m (.int .i64 x)
  unfold Ty
  rw [← tyL_set]
  simpa using h1
theorem Ty.congr {w : World} {g : Nat} {f f' : Nat → Int} (h : Ty w g f) (e : ∀ j, j < 31 → f j = f' j) : Ty w g f' := by unfold Ty; rw [← tyL_congr e]; exact h

theorem cn_take {L : List It} {i : Nat} (h : i < L.length) (l : Int) : cn l (L.take (i + 1)) = cn l (L.take i) + (if (L.getD i (0, 0)).2 = l then 1 else 0) := by
  rw [take_nx h, cn_app, cn_cons, cn_nil, Nat.zero_add]
def lvB (L : List It) : Bool := decide (∀ j, j < L.length → levB (L.getD j (0, 0)).2 = true)
theorem lvB_bad {L : List It} {j : Nat} (hj : j < L.length) (h : levB (L.getD j (0, 0)).2 = false) : lvB L = false := decide_eq_false (fun hp => by have := hp j hj; rw [h] at this; cases this)
/-- What tallyOf returns. -/
def tyF (L : List It) (j : Nat) : Int := if lvB L = true then (cn (j : Int) L : Int) else 0
def taV (L : List It) : Value := .tuple #[.agg (tyL (tyF L)).toArray, .bool (lvB L)]

theorem tally_size : (Try.prog.info? 101).map (·.size) = some 31 := by kernel_rfl
theorem tyL_size (f : Nat → Int) : (Try.prog.info? 101).map (·.size) = some (tyL f).toArray.size := by rw [List.size_toArray, tyL_len]; exact tally_size
theorem tyL_one (f : Nat → Int) : (tyL f).toArray.all (·.oneCell') = true := by
  rw [Array.all_eq_true_iff_forall_mem]
  intro v hv
  simp only [tyL, List.mem_toArray, List.mem_map] at hv
  obtain ⟨j, _, rfl⟩ := hv
  rfl
theorem tyL_same (f g : Nat → Int) : (tyL f).toArray.size = (tyL g).toArray.size := by simp [tyL_len]
theorem Ty.load {w : World} {g : Nat} {f : Nat → Int} (h : Ty w g f) : (loadVar 101 ⟨g, 0, none⟩).run Try.prog w = .ok (.agg (tyL f).toArray) w :=
  run_loadVar_row w g _ _ (tyL f).toArray (0, 0) _ h Try.underlying101 rfl (tyL_size f)
/-- What a store of a whole array leaves. -/
theorem Ty.setRow {w : World} {g : Nat} {f f' : Nat → Int} (h : Ty w g f) : Cp w (w.setRow g (tyL f').toArray) g ∧ Ty (w.setRow g (tyL f').toArray) g f' := Cp.set w g _ _ _ h
theorem Ty.up {w w' : World} {g : Nat} {f : Nat → Int} (h : Ty w g f) (hu : Up w w') : Ty w' g f := Blk.up h hu
theorem Ty.zero (w : World) : Ty (w.alloc (.cells #[.int .i64 0, .int .i64 0, .int .i64 0, .int .i64 0, .int .i64 0, .int .i64 0, .int .i64 0, .int .i64 0, .int .i64 0, .int .i64 0, .int .i64 0, .int .i64 0, .int .i64 0, .int .i64 0, .int .i64 0, .int .i64 0, .int .i64 0, .int .i64 0, .int .i64 0, .int .i64 0, .int .i64 0, .int .i64 0, .int .i64 0, .int .i64 0, .int .i64 0, .int .i64 0, .int .i64 0, .int .i64 0, .int .i64 0, .int .i64 0, .int .i64 0] 101)) w.heap.size (fun _ => 0) := Blk.new w _ _

set_option maxHeartbeats 8000000 in
set_option maxRecDepth 100000 in
theorem tallyOf_up (n k : Nat) (A : Option Addr) (L : List It) (hn : n ≤ 100000) (w : World) (hS : Sl w A n L) :
    Calls Try.prog 76 #[.slice A n k] w fun e w' => e = .returned (taV L) ∧ Up w w' := by
  have HL := Lib.hid hS.1
  have HS := Lib.hid hS
  have KL := Lib.hid isLevel_any
  clear hS
  have HB := Lib.hid (fun j (hj : j < n) => lvB_bad (L := L) (j := j) (by rw [HL.out]; exact hj))
  have HG := Lib.hid (show (∀ j, j < n → levB (L.getD j (0, 0)).2 = true) → lvB L = true from fun h => decide_eq_true (fun j hj => h j (by rw [← HL.out]; exact hj)))
  have HV1 : Hid (lvB L = true → taV L = .tuple #[.agg (tyL (fun j => (cn (j : Int) L : Int))).toArray, .bool true]) := Lib.hid (fun hx => by unfold taV tyF; rw [hx]; rfl)
  have HV0 : Hid (lvB L = false → taV L = .tuple #[.agg (tyL (fun _ => 0)).toArray, .bool false]) := Lib.hid (fun hx => by unfold taV tyF; rw [hx]; rfl)
  generalize taV L = v at *
  go_enter Try.func76, Try.ntmps76
  go_wp2_with fail
  go_loopw [9] (fun t wr => ∃ i : Nat, t = .int .i64 i ∧ i ≤ n ∧ Hid (∀ j, j < i → levB (L.getD j (0, 0)).2 = true) ∧ Ty wr (w.heap.size + 1) (fun j => (cn (j : Int) (L.take i) : Int)) ∧ Ty wr w.heap.size (fun _ => 0) ∧ Up w wr) (fun t _ => n - (intOf t).toNat)
  case atStart =>
    refine ⟨0, rfl, Nat.zero_le _, Lib.hid (fun j hj => absurd hj (by omega)), ?_, ?_, ((Up.refl _).alloc _ _).alloc _ _⟩
    · have := Ty.zero (w.alloc (.cells #[.int .i64 0, .int .i64 0, .int .i64 0, .int .i64 0, .int .i64 0, .int .i64 0, .int .i64 0, .int .i64 0, .int .i64 0, .int .i64 0, .int .i64 0, .int .i64 0, .int .i64 0, .int .i64 0, .int .i64 0, .int .i64 0, .int .i64 0, .int .i64 0, .int .i64 0, .int .i64 0, .int .i64 0, .int .i64 0, .int .i64 0, .int .i64 0, .int .i64 0, .int .i64 0, .int .i64 0, .int .i64 0, .int .i64 0, .int .i64 0, .int .i64 0] 101))
      rw [size_alloc] at this
      exact this
    · exact (Ty.zero w).up ((Up.refl _).alloc _ _)
  case round =>
    obtain ⟨i, rfl, hin, HA, hT, hT0, hU⟩ := hrel
    have HU := Lib.hid hU
    have HT := Lib.hid hT
    have HT0 := Lib.hid hT0
    have lt := hT.lt
    have lt0 := hT0.lt
    by_cases hi : i < n
    · obtain ⟨b, o, rfl, d0, d1⟩ := (HS.out.up HU.out).at_ hi
      have HC := Lib.hid (fun l => cn_take (L := L) (i := i) (by rw [HL.out]; exact hi) l)
      have HR := Lib.hid (HB.out i hi)
      have HA1 : Hid (levB (L.getD i (0, 0)).2 = true → ∀ j, j < i + 1 → levB (L.getD j (0, 0)).2 = true) := Lib.hid (fun h j hj => by
        rcases Nat.lt_or_ge j i with g | g
        · exact HA.out j g
        · obtain rfl : j = i := by omega
          exact h)
      have HK := Lib.hid (fun j => Int.ofNat_le.2 (cn_le j (L.take i)))
      have HK2 : Hid ((L.take i).length ≤ i) := Lib.hid (by rw [List.length_take]; omega)
      generalize (L.getD i (0, 0)).1 = p0 at *
      generalize (L.getD i (0, 0)).2 = p1 at *
      have f2 : (i : Int) < n := by omega
      have f3 : (0 : Int) ≤ i := by omega
      have K1 := Lib.hid (KL.out p1)
      cases hx : levB p1 with
      | false =>
        have hv := HV0.out (HR.out hx)
        rw [hx] at K1
        clear HR HB HG HV1 HV0 HA1 HC HA hT hT0 hU
        have HT0' := Lib.hid (HT0.out.up ((Up.refl wr).alloc #[.int .i64 p0, .int .i64 p1] 95))
        have HU' := Lib.hid (HU.out.alloc #[.int .i64 p0, .int .i64 p1] 95)
        subst hv
        go_wp2_with (first | (go_at_call 99; (with_reducible refine (K1.out _).mono ?_); rintro e w' ⟨rfl, rfl⟩) | (refine wpList_store_row rfl _ (.tmp 2) (.tmp 17) rfl w.heap.size (tyL (fun _ => 0)).toArray rfl rfl _ _ HT0'.out (tyL_size _) (tyL_same _ _) (tyL_one _) ?_))
        obtain ⟨hc, ht⟩ := HT0'.out.setRow (f' := fun _ => 0)
        exact bodyPost_ret (v := .tuple #[.agg (tyL (fun _ => 0)).toArray, .bool false]) (by simp [results, Try.results76, asAddr, ht.load]) rfl ⟨rfl, hc.up _ HU'.out (Nat.le_refl _)⟩
      | true =>
        obtain ⟨h1, h2⟩ := levB_true hx
        have HA2 := Lib.hid (HA1.out hx)
        rw [hx] at K1
        have c0 := hT.at_ (j := p1.toNat) (by omega)
        have fz := hU.own 1 p1.toNat
        have h3 : p1 < 31 := by omega
        have hb := HK.out ((p1.toNat : Nat) : Int)
        have hb2 := HK2.out
        have ne : ¬ wr.heap.size = w.heap.size + 1 := by omega
        generalize hz : ((cn ((p1.toNat : Nat) : Int) (L.take i) : Nat) : Int) = z at c0 hb
        clear HR HB HG HV1 HV0 HA1 HA hT hT0 hU
        go_wp2_with (go_at_call 99; (with_reducible refine (K1.out _).mono ?_); rintro e w' ⟨rfl, rfl⟩)
        go_roundw
        case rel =>
          refine ⟨i + 1, by go_num, by omega, HA2, ?_, ?_, ?_⟩
          · refine ((HT.out.set_ p1.toNat (z + 1)).up ((Up.refl _).alloc _ _)).congr (fun j _ => ?_)
            rw [HC.out]
            by_cases e : j = p1.toNat
            · rw [if_pos e, if_pos (by omega), ← hz, e]; rfl
            · rw [if_neg e, if_neg (by omega)]; rfl
          · exact (Blk.far HT0.out (by simp) _).up ((Up.refl _).alloc _ _)
          · exact (HU.out.setCell (by simp) _).alloc _ _
        case measure => simp [intOf]; omega
    · obtain rfl : i = n := by omega
      rw [take_all HL.out] at HT
      have hb := HV1.out (HG.out HA.out)
      clear HG HB HA HV1 HV0 hT hT0 hU
      subst hb
      obtain ⟨hc, ht⟩ := HT0.out.setRow (f' := fun j => (cn (j : Int) L : Int))
      go_wp2_with (first | (refine wpList_load_row rfl _ (.tmp 4) rfl (w.heap.size + 1) rfl _ _ (0, 0) _ HT.out Try.underlying101 rfl (tyL_size _) ?_) | (refine wpList_store_row rfl _ (.tmp 2) (.tmp 25) rfl w.heap.size _ rfl rfl _ _ HT0.out (tyL_size _) (tyL_same _ _) (tyL_one _) ?_))
      exact bodyPost_ret (v := .tuple #[.agg (tyL (fun j => (cn (j : Int) L : Int))).toArray, .bool true]) (by simp [results, Try.results76, asAddr, ht.load]) rfl ⟨rfl, hc.up _ HU.out (Nat.le_refl _)⟩

/-- A store of a whole array, as a step. -/
theorem wpList_store_ty {w : World} {ops : Array Oper} {rest : List Oper} {o : Oper} {a : Act} {Q : Exit → Act → World → Prop} (hgd : o.guard = none) (x y : Operand) (ho : o.op = .store 101 x y)
    (g : Nat) (f f' : Nat → Int) (hx : a.eval x = .pointer (some ⟨g, 0, none⟩)) (hy : a.eval y = .agg (tyL f').toArray) (hT : Ty w g f)
    (h : ∀ w', Cp w w' g → Ty w' g f' → wpList Try.prog ops Q rest (a.put o.dst undef) w') : wpList Try.prog ops Q (o :: rest) a w :=
  wpList_store_row hgd _ x y ho g (tyL f').toArray hx hy _ (tyL f).toArray hT (tyL_size _) (tyL_same _ _) (tyL_one _) (h _ hT.setRow.1 hT.setRow.2)
end Go.Proofs.Ytfdjhahnggdklaa
