/- inOrder of package buckets: what it asks of each bucket. -/
import Derived.Test.YtnhekeohbnmodaaHTot
namespace Go.Proofs.Ytnhekeohbnmodaa
open Go.RowKit

/-- What is asked of the bucket at place j. -/
def okO (L : List It) (j : Nat) : Prop := tickB (L.getD j (0, 0)).1 = true ∧ levB (L.getD j (0, 0)).2 = true ∧ (0 < j → (L.getD (j - 1) (0, 0)).1 ≤ (L.getD j (0, 0)).1 ∧ (L.getD j (0, 0)).2 ≤ (L.getD (j - 1) (0, 0)).2)
instance (L : List It) (j : Nat) : Decidable (okO L j) := by unfold okO; infer_instance
def orB (L : List It) : Bool := decide (∀ j, j < L.length → okO L j)
theorem orB_bad {L : List It} {j : Nat} (hj : j < L.length) (h : ¬ okO L j) : orB L = false := decide_eq_false (fun hp => h (hp j hj))
theorem gD_mem {L : List It} {j : Nat} (h : j < L.length) : L.getD j (0, 0) ∈ L := by simp [List.getD, h]
theorem gD_at {L : List It} {j : Nat} (h : j < L.length) : L.getD j (0, 0) = L[j] := by simp [List.getD, h]
theorem adj_all {f : It → Int} {L : List It} (h : ∀ j, j < L.length → 0 < j → f (L.getD (j - 1) (0, 0)) ≤ f (L.getD j (0, 0))) : ∀ d i, i + d < L.length → f (L.getD i (0, 0)) ≤ f (L.getD (i + d) (0, 0)) := by
  intro d
  induction d with
  | zero => intro i _; exact Int.le_refl _
  | succ d ih =>
    intro i hi
    have h1 := ih i (by omega)
    have h2 := h (i + (d + 1)) hi (by omega)
    rw [show i + (d + 1) - 1 = i + d by omega] at h2
    omega
theorem orB_iff {L : List It} : orB L = true ↔ Rg L ∧ Ds L ∧ As L := by
  unfold orB
  rw [decide_eq_true_eq]
  constructor
  · intro h
    refine ⟨fun x hx => ?_, ?_, ?_⟩
    · obtain ⟨j, hj, rfl⟩ := List.mem_iff_getElem.1 hx
      obtain ⟨g1, g2, _⟩ := h j hj
      rw [gD_at hj] at g1 g2
      have := tickB_true g1; have := levB_true g2
      omega
    · unfold Ds
      rw [List.pairwise_iff_getElem]
      intro i j hi hj hij
      have g := adj_all (f := fun x => -x.2) (L := L) (fun j hj h0 => by have := ((h j hj).2.2 h0).2; omega) (j - i) i (by omega)
      rw [show i + (j - i) = j by omega, gD_at hi, gD_at hj] at g
      omega
    · unfold As
      rw [List.pairwise_iff_getElem]
      intro i j hi hj hij
      have g := adj_all (f := fun x => x.1) (L := L) (fun j hj h0 => ((h j hj).2.2 h0).1) (j - i) i (by omega)
      rw [show i + (j - i) = j by omega, gD_at hi, gD_at hj] at g
      exact g
  · rintro ⟨h1, h2, h3⟩ j hj
    have r := h1 _ (gD_mem hj)
    refine ⟨tickB_yes r.1.1 r.1.2, decide_eq_true r.2, fun h0 => ?_⟩
    rw [gD_at hj, gD_at (show j - 1 < L.length by omega)]
    exact ⟨List.pairwise_iff_getElem.1 h3 (j - 1) j (by omega) hj (by omega), List.pairwise_iff_getElem.1 h2 (j - 1) j (by omega) hj (by omega)⟩
/-- The bucket before a place. -/
def prv (L : List It) (i : Nat) : It := if i = 0 then (0, 30) else L.getD (i - 1) (0, 0)
theorem okO_prv {L : List It} {i : Nat} : okO L i ↔ tickB (L.getD i (0, 0)).1 = true ∧ levB (L.getD i (0, 0)).2 = true ∧ (prv L i).1 ≤ (L.getD i (0, 0)).1 ∧ (L.getD i (0, 0)).2 ≤ (prv L i).2 := by
  unfold okO prv
  by_cases h : i = 0
  · subst h
    rw [if_pos rfl]
    constructor
    · rintro ⟨a, b, _⟩
      have := tickB_true a; have := levB_true b
      exact ⟨a, b, by simp only; omega, by simp only; omega⟩
    · rintro ⟨a, b, _⟩
      exact ⟨a, b, fun h => absurd h (by omega)⟩
  · rw [if_neg h]
    constructor
    · rintro ⟨a, b, c⟩; exact ⟨a, b, c (by omega)⟩
    · rintro ⟨a, b, c⟩; exact ⟨a, b, fun _ => c⟩

set_option maxHeartbeats 8000000 in
set_option maxRecDepth 100000 in
theorem inOrder_up (n k : Nat) (A : Option Addr) (L : List It) (hn : n ≤ 100000) (w : World) (hS : Sl w A n L) :
    Calls Try.prog 39 #[.slice A n k] w fun e w' => e = .returned (.bool (orB L)) ∧ Up w w' := by
  have HL := Lib.hid hS.1
  have HS := Lib.hid hS
  have KT := Lib.hid isTick10_any
  have KL := Lib.hid isLevel_any
  clear hS
  have HB := Lib.hid (fun j (hj : j < n) => orB_bad (L := L) (j := j) (by rw [HL.out]; exact hj))
  have HG := Lib.hid (show (∀ j, j < n → okO L j) → orB L = true from fun h => decide_eq_true (fun j hj => h j (by rw [← HL.out]; exact hj)))
  generalize orB L = r at *
  go_enter Try.func39, Try.ntmps39
  go_wp2_with fail
  go_loopw [9] (fun t wr => ∃ i : Nat, t = .int .i64 i ∧ i ≤ n ∧ Hid (∀ j, j < i → okO L j) ∧ wr.cell? ⟨w.heap.size, 0, none⟩ = some (.int .i64 (prv L i).1) ∧ wr.cell? ⟨w.heap.size, 1, none⟩ = some (.int .i64 (prv L i).2) ∧ Up w wr) (fun t _ => n - (intOf t).toNat)
  case atStart => exact ⟨0, rfl, Nat.zero_le _, Lib.hid (fun j hj => absurd hj (by omega)), by simp [go_sem, prv], by simp [go_sem, prv], (Up.refl _).alloc _ _⟩
  case round =>
    obtain ⟨i, rfl, hin, HA, c0, c1, hU⟩ := hrel
    have HU := Lib.hid hU
    have fz := hU.own 0 0
    have fz1 := hU.own 0 1
    simp only [Nat.add_zero] at fz fz1
    clear hU
    by_cases hi : i < n
    · obtain ⟨b, o, rfl, d0, d1⟩ := (HS.out.up HU.out).at_ hi
      have HO := Lib.hid (okO_prv (L := L) (i := i))
      have HP : Hid (prv L (i + 1) = L.getD i (0, 0)) := Lib.hid (by unfold prv; rw [if_neg (by omega), Nat.add_sub_cancel])
      have HP1 := Lib.hid (congrArg Prod.fst HP.out)
      have HP2 := Lib.hid (congrArg Prod.snd HP.out)
      have HR := Lib.hid (HB.out i hi)
      clear HP
      generalize (L.getD i (0, 0)).1 = p0 at *
      generalize (L.getD i (0, 0)).2 = p1 at *
      generalize (prv L i).1 = q0 at *
      generalize (prv L i).2 = q1 at *
      have f2 : (i : Int) < n := by omega
      have f3 : (0 : Int) ≤ i := by omega
      have K1 := Lib.hid (KT.out p0)
      have K2 := Lib.hid (KL.out p1)
      have lt := World.block_lt_of_cell? _ _ c0
      simp only at lt
      have ne : ¬ wr.heap.size = w.heap.size := by omega
      cases hx : tickB p0 with
      | false =>
        obtain rfl : r = false := HR.out (fun h => by have := HO.out.1 h; rw [hx] at this; cases this.1)
        rw [hx] at K1
        clear hx HO HR HB HG
        go_wp2_with (go_at_call 64; (with_reducible refine (K1.out _).mono ?_); rintro e w' ⟨rfl, rfl⟩)
        go_ret
        exact ⟨rfl, HU.out.alloc _ _⟩
      | true =>
      rw [hx] at K1
      cases hy : levB p1 with
      | false =>
        obtain rfl : r = false := HR.out (fun h => by have := HO.out.1 h; rw [hy] at this; cases this.2.1)
        rw [hy] at K2
        clear hx hy HO HR HB HG
        go_wp2_with (first | (go_at_call 64; (with_reducible refine (K1.out _).mono ?_); rintro e w' ⟨rfl, rfl⟩) | (go_at_call 65; (with_reducible refine (K2.out _).mono ?_); rintro e w' ⟨rfl, rfl⟩))
        go_ret
        exact ⟨rfl, HU.out.alloc _ _⟩
      | true =>
      rw [hy] at K2
      by_cases h1 : p0 < q0
      · obtain rfl : r = false := HR.out (fun h => by have := HO.out.1 h; omega)
        clear hx hy HO HR HB HG
        go_wp2_with (first | (go_at_call 64; (with_reducible refine (K1.out _).mono ?_); rintro e w' ⟨rfl, rfl⟩) | (go_at_call 65; (with_reducible refine (K2.out _).mono ?_); rintro e w' ⟨rfl, rfl⟩))
        go_ret
        exact ⟨rfl, HU.out.alloc _ _⟩
      by_cases h2 : q1 < p1
      · obtain rfl : r = false := HR.out (fun h => by have := HO.out.1 h; omega)
        clear hx hy HO HR HB HG
        go_wp2_with (first | (go_at_call 64; (with_reducible refine (K1.out _).mono ?_); rintro e w' ⟨rfl, rfl⟩) | (go_at_call 65; (with_reducible refine (K2.out _).mono ?_); rintro e w' ⟨rfl, rfl⟩))
        go_ret
        exact ⟨rfl, HU.out.alloc _ _⟩
      have HA1 : Hid (∀ j, j < i + 1 → okO L j) := Lib.hid (fun j hj => by
        rcases Nat.lt_or_ge j i with g | g
        · exact HA.out j g
        · obtain rfl : j = i := by omega
          exact HO.out.2 ⟨hx, hy, by omega, by omega⟩)
      clear hx hy HO HR HA
      go_wp2_with (first | (go_at_call 64; (with_reducible refine (K1.out _).mono ?_); rintro e w' ⟨rfl, rfl⟩) | (go_at_call 65; (with_reducible refine (K2.out _).mono ?_); rintro e w' ⟨rfl, rfl⟩))
      go_roundw
      case rel =>
        refine ⟨i + 1, by go_num, by omega, HA1, ?_, ?_, ?_⟩
        · rw [HP1.out]; simp [go_sem, *]
        · rw [HP2.out]; simp [go_sem, *]
        · have := HU.out
          refine Up.alloc (Up.setCell (Up.setCell this ?_ _) ?_ _) _ _
          · exact Nat.le_refl _
          · exact Nat.le_refl _
      case measure => simp [intOf]; omega
    · obtain rfl : i = n := by omega
      obtain rfl : r = true := HG.out HA.out
      clear HG HB HA
      go_wp2_with fail
      go_ret
      exact ⟨rfl, HU.out⟩
end Go.Proofs.Ytnhekeohbnmodaa
