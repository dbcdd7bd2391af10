/- Valid of package buckets: which lists are in order. -/
import Derived.Test.YtfdjhahnggdklaaZGBasem8
import Derived.Test.YtfdjhahnggdklaaZGLawm3
import Derived.Test.YtfdjhahnggdklaaZHOrdm2
import Derived.Test.YtfdjhahnggdklaaZHSmallm7
import Derived.Test.YtfdjhahnggdklaaZWCmpm5
import Derived.Test.YtfdjhahnggdklaaZWMathm9
namespace Go.Proofs.Ytfdjhahnggdklaa
open Go.RowKit

def ctO (L : List It) (k : Int) (j : Nat) : Prop := ((j : Int) < (L.getD 0 (0, 0)).2 → k ≤ (cn (j : Int) L : Int)) ∧ (cn (j : Int) L : Int) ≤ k + 1
instance (L : List It) (k : Int) (j : Nat) : Decidable (ctO L k j) := by unfold ctO; infer_instance
def ctB (L : List It) (k : Int) : Bool := decide (∀ j ∈ List.range 31, ctO L k j)
def vaB (L : List It) (k : Int) : Bool := kB k && (orB L && ctB L k)
theorem vaB_iff {L : List It} {k : Int} : vaB L k = true ↔ Va L k := by
  unfold vaB
  rw [Bool.and_eq_true, Bool.and_eq_true, orB_iff]
  unfold ctB
  rw [decide_eq_true_eq]
  simp only [List.mem_range]
  constructor
  · rintro ⟨h1, ⟨h2, h3, h4⟩, h5⟩
    have hk := kB_true h1
    have up : ∀ j, (cn j L : Int) ≤ k + 1 := fun j => by
      by_cases hj : 0 ≤ j ∧ j < 31
      · have := (h5 j.toNat (by omega)).2
        rwa [show ((j.toNat : Nat) : Int) = j by omega] at this
      · have : cn j L = 0 := cn_zero (fun x hx => by have := (h2 x hx).2; omega)
        rw [this]; omega
    refine ⟨hk.1, hk.2, h2, h3, h4, up, fun x hx j hj hjx => ?_⟩
    have h0 := h3.top x hx
    have := (h2 x hx).2
    have := (h5 j.toNat (by omega)).1
    rw [show ((j.toNat : Nat) : Int) = j by omega] at this
    exact this (by omega)
  · intro h
    refine ⟨decide_eq_true ⟨h.k1, h.k2⟩, ⟨h.rg, h.ds, h.as_⟩, fun j hj => ⟨fun hlt => ?_, h.up _⟩⟩
    by_cases hX : L = []
    · subst hX; simp at hlt; omega
    · exact h.fl _ (getD0_mem hX) _ (by omega) hlt
theorem vaB_k {L : List It} {k : Int} (h : kB k = false) : vaB L k = false := by unfold vaB; rw [h]; rfl
theorem vaB_or {L : List It} {k : Int} (h : orB L = false) : vaB L k = false := by unfold vaB; rw [h]; simp
theorem vaB_ct {L : List It} {k : Int} {j : Nat} (hj : j < 31) (h : ¬ ctO L k j) : vaB L k = false := by
  unfold vaB ctB; rw [decide_eq_false (fun hp => h (hp j (List.mem_range.2 hj)))]; simp
theorem vaB_yes {L : List It} {k : Int} (h1 : kB k = true) (h2 : orB L = true) (h3 : ∀ j, j < 31 → ctO L k j) : vaB L k = true := by
  unfold vaB ctB; rw [h1, h2, decide_eq_true (fun j hj => h3 j (List.mem_range.1 hj))]; rfl
/-- Levels above that of the first bucket have none. -/
theorem ctO_top {L : List It} {k : Int} (hk : kB k = true) (h : orB L = true) {m : Nat} (hm : (L.getD 0 (0, 0)).2 = (m : Int)) (h1 : ∀ j, j < m → k ≤ (cn (j : Int) L : Int) ∧ (cn (j : Int) L : Int) ≤ k + 1) (h2 : (cn (m : Int) L : Int) ≤ k + 1) : ∀ j, j < 31 → ctO L k j := by
  intro j _
  have := kB_true hk
  rcases Nat.lt_trichotomy j m with g | g | g
  · exact ⟨fun _ => (h1 j g).1, (h1 j g).2⟩
  · subst g; exact ⟨fun h => by omega, h2⟩
  · have : cn (j : Int) L = 0 := cn_zero (fun x hx => by have := (orB_iff.1 h).2.1.top x hx; omega)
    exact ⟨fun h => by omega, by rw [this]; omega⟩
theorem lvB_of {L : List It} (h : orB L = true) : lvB L = true := decide_eq_true (fun _ hj => decide_eq_true ((orB_iff.1 h).1 _ (gD_mem hj)).2)

theorem sliceTy_run (g m : Nat) (hm : m ≤ 31) (w : World) : (Instr.sliceAt 101 (.pointer (some ⟨g, 0, none⟩)) none (some (.int .i64 m)) none).run Try.prog w = .ok (.slice (some ⟨g, 0, none⟩) m 31) w := by
  have qs := Try.sizeOf3
  have ht := Try.underlying101
  have h1 : (m : Int) ≤ 31 := by omega
  simp [Instr.sliceAt, Instr.sureAddr, run_underlying ht, Instr.sliceBounds, run_sliceBound, qs, h1, Int.natCast_nonneg, Addr.add]
set_option maxHeartbeats 8000000 in
set_option maxRecDepth 100000 in
theorem valid10_up (n k : Nat) (A : Option Addr) (L : List It) (q : Int) (hn : n ≤ 100000) (w : World) (hS : Sl w A n L) :
    Calls Try.prog 51 #[.slice A n k, .int .i64 q] w fun e w' => e = .returned (.bool (vaB L q)) ∧ Up w w' := by
  have KK := Lib.hid (isK_any q)
  cases hk : kB q with
  | false =>
    rw [hk] at KK
    rw [vaB_k hk]
    clear hk hS
    go_enter Try.func51, Try.ntmps51
    go_wp2_with (go_at_call 86; (with_reducible refine (KK.out _).mono ?_); rintro e w' ⟨rfl, rfl⟩)
    go_ret
    exact ⟨rfl, Up.refl _⟩
  | true =>
  rw [hk] at KK
  have KO := Lib.hid (inOrder_up n k A L hn w hS)
  cases ho : orB L with
  | false =>
    rw [ho] at KO
    rw [vaB_or ho]
    clear hk ho hS
    go_enter Try.func51, Try.ntmps51
    go_wp2_with (first | (go_at_call 86; (with_reducible refine (KK.out _).mono ?_); rintro e w' ⟨rfl, rfl⟩) | (go_at_call 87; (with_reducible refine KO.out.mono ?_); rintro e w1 ⟨rfl, hu1⟩))
    go_ret
    exact ⟨rfl, hu1⟩
  | true =>
  rw [ho] at KO
  cases n with
  | zero =>
    have e : L = [] := List.eq_nil_of_length_eq_zero hS.1
    subst e
    have hq := kB_true hk
    rw [vaB_iff.2 (Va.nil hq.1 hq.2)]
    clear hk ho hS
    go_enter Try.func51, Try.ntmps51
    go_wp2_with (first | (go_at_call 86; (with_reducible refine (KK.out _).mono ?_); rintro e w' ⟨rfl, rfl⟩) | (go_at_call 87; (with_reducible refine KO.out.mono ?_); rintro e w1 ⟨rfl, hu1⟩))
    go_ret
    exact ⟨rfl, hu1⟩
  | succ n =>
  obtain ⟨b, o, rfl, _, d1⟩ := hS.at_ (show 0 < n + 1 by omega)
  simp only [Nat.zero_mul, Nat.add_zero] at d1
  have hX : L ≠ [] := fun e => by have := hS.1; rw [e] at this; simp at this
  have hr := (orB_iff.1 ho).1 _ (getD0_mem hX)
  obtain ⟨m, hm⟩ : ∃ m : Nat, (L.getD 0 (0, 0)).2 = (m : Int) := ⟨(L.getD 0 (0, 0)).2.toNat, by omega⟩
  have HB := Lib.hid (fun j (hj : j < 31) => vaB_ct (L := L) (k := q) hj)
  have HG := Lib.hid (fun h1 h2 => vaB_yes hk ho (ctO_top hk ho hm h1 h2))
  have HM := Lib.hid hm
  rw [hm] at d1
  have hm30 : m ≤ 30 := by omega
  have KT := Lib.hid (fun W (h : Sl W (some ⟨b, o, none⟩) (n + 1) L) => tallyOf_up (n + 1) k (some ⟨b, o, none⟩) L hn W h)
  have et : taV L = .tuple #[.agg (tyL (fun j => (cn (j : Int) L : Int))).toArray, .bool true] := by
    unfold taV tyF; rw [lvB_of ho]; rfl
  rw [et] at KT
  have hq := kB_true hk
  have HC := Lib.hid (fun j : Nat => cn_le (j : Int) L)
  rw [hS.1] at HC
  have HS := Lib.hid hS
  generalize hF : (fun j : Nat => (cn (j : Int) L : Int)) = F at KT
  have HF : Hid (∀ j : Nat, (cn (j : Int) L : Int) = F j) := Lib.hid (fun j => by rw [← hF])
  have HCF : Hid (∀ j : Nat, 0 ≤ F j ∧ F j ≤ (n : Int) + 1) := Lib.hid (fun j => by have := HC.out j; rw [← HF.out]; omega)
  have HB2 : Hid (∀ j : Nat, j ≤ m → ¬ (F j ≤ q + 1) → vaB L q = false) := Lib.hid (fun j hj h => HB.out j (by omega) (fun hc => h (by rw [← HF.out]; exact hc.2)))
  have HB1 : Hid (∀ j : Nat, j < m → ¬ (q ≤ F j) → vaB L q = false) := Lib.hid (fun j hj h => HB.out j (by omega) (fun hc => h (by rw [← HF.out]; exact hc.1 (by rw [HM.out]; omega))))
  have HG1 : Hid ((∀ j : Nat, j < m → q ≤ F j ∧ F j ≤ q + 1) → F m ≤ q + 1 → vaB L q = true) := Lib.hid (fun h1 h2 => HG.out (fun j hj => by have := h1 j hj; rw [HF.out]; exact this) (by rw [HF.out]; exact h2))
  generalize vaB L q = r at *
  clear hk ho hS hX hr hm et HB HG HM HC hF HF
  have t1 : (((n : Int) + 1) == 0) = false := by simp; omega
  have t2 : (0 : Int) < (n : Int) + 1 := by omega
  have hsl := fun g => sliceTy_run g m (by omega)
  go_enter Try.func51, Try.ntmps51
  go_wp2_with (first | (go_at_call 86; (with_reducible refine (KK.out _).mono ?_); rintro e w' ⟨rfl, rfl⟩) | (go_at_call 87; (with_reducible refine KO.out.mono ?_); rintro e w1 ⟨rfl, hu1⟩; have HU1 := Lib.hid hu1; clear hu1) | (go_at_call 76; (with_reducible refine (KT.out _ (HS.out.up HU1.out)).mono ?_); rintro e w2 ⟨rfl, hu2⟩; have HU2 := Lib.hid (HU1.out.trans hu2); clear hu2) | (refine wpList_store_ty rfl (.tmp 5) (.tmp 24) rfl w2.heap.size (fun _ => 0) F rfl rfl (Ty.zero w2) ?_; intro w3 hc3 ht3; have HU3 := Lib.hid (hc3.up _ (HU2.out.alloc _ _) HU2.out.size); have HT3 := Lib.hid ht3; have e1 := HU3.out.keep _ _ _ d1; clear hc3 ht3))
  go_loopw [33] (fun t wr => ∃ i : Nat, t = .int .i64 i ∧ i ≤ m ∧ Hid (∀ j, j < i → q ≤ F j ∧ F j ≤ q + 1) ∧ Hid (Ty wr w2.heap.size F) ∧ Hid (Up w wr)) (fun t _ => m - (intOf t).toNat)
  case atStart => exact ⟨0, rfl, Nat.zero_le _, Lib.hid (fun j hj => absurd hj (by omega)), HT3, HU3⟩
  case round =>
    obtain ⟨i, rfl, hin, HA, HT, HU⟩ := hrel
    have c0 := HT.out.at_ (j := i) (by omega)
    have hb := HCF.out i
    have HN2 := Lib.hid (HB2.out i hin)
    by_cases hi : i < m
    · have HN1 := Lib.hid (HB1.out i hi)
      have HA1 : Hid (q ≤ F i → F i ≤ q + 1 → ∀ j, j < i + 1 → q ≤ F j ∧ F j ≤ q + 1) := Lib.hid (fun h1 h2 j hj => by
        rcases Nat.lt_or_ge j i with g | g
        · exact HA.out j g
        · obtain rfl : j = i := by omega
          exact ⟨h1, h2⟩)
      generalize F i = z at *
      have f2 : (i : Int) < m := by omega
      have f3 : (0 : Int) ≤ i := by omega
      by_cases h1 : z < q
      · obtain rfl : r = false := HN1.out (by omega)
        clear HN1 HN2 HA1 HB1 HB2 HG1 HA
        go_wp2_with fail
        go_ret
        exact ⟨rfl, HU.out⟩
      by_cases h2 : q + 1 < z
      · obtain rfl : r = false := HN2.out (by omega)
        clear HN1 HN2 HA1 HB1 HB2 HG1 HA
        go_wp2_with fail
        go_ret
        exact ⟨rfl, HU.out⟩
      have HA2 := Lib.hid (HA1.out (by omega) (by omega))
      clear HN1 HN2 HA1 HA
      go_wp2_with fail
      go_roundw
      case rel => exact ⟨i + 1, by go_num, by omega, HA2, HT, HU⟩
      case measure => simp [intOf]; omega
    · obtain rfl : i = m := by omega
      have HG2 := Lib.hid (HG1.out HA.out)
      generalize F i = z at *
      obtain rfl : r = decide (z ≤ q + 1) := by
        by_cases h : z ≤ q + 1
        · rw [decide_eq_true h]; exact HG2.out h
        · rw [decide_eq_false h]; exact HN2.out (by omega)
      have f3 : (0 : Int) ≤ i := by omega
      have f4 : (i : Int) < 31 := by omega
      clear HN2 HA HB1 HB2 HG1 HG2
      go_wp2_with fail
      go_ret
      exact ⟨rfl, HU.out⟩
end Go.Proofs.Ytfdjhahnggdklaa
