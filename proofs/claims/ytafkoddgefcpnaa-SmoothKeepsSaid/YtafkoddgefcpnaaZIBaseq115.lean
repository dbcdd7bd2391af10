/- Texts of these claims, one after the other. -/
import Derived.Test.YtafkoddgefcpnaaRows
import Derived.Test.YtafkoddgefcpnaaZESqq71
namespace Go.Proofs.Ytafkoddgefcpnaa
open Go.RowKit
set_option linter.unusedVariables false

/-- An address that was not there before. -/
def Nw (w : World) (A : Option Addr) : Prop := ∀ b o, A = some ⟨b, o, none⟩ → w.heap.size ≤ b
theorem Nw.up {w w1 : World} {A : Option Addr} (h : Nw w1 A) (hu : Up w w1) : Nw w A := fun b o e => Nat.le_trans hu.size (h b o e)
end Go.Proofs.Ytafkoddgefcpnaa

namespace Go.Proofs.Ytafkoddgefcpnaa
open Go.RowKit
set_option linter.unusedVariables false

theorem Sl.off {w : World} {A : Option Addr} {n p o : Nat} {M : List It} (h : Sl w A n M) (hn : ∀ b o, A = some ⟨b, o, none⟩ → b ≠ p) (x : Value) : Sl (w.setCell ⟨p, o, none⟩ x) A n M := by
  refine ⟨h.1, fun h0 => ?_⟩
  obtain ⟨b, o, e, hc⟩ := h.2 h0
  exact ⟨b, o, e, fun j u hj => (cell_far (fun hp => hn b o e hp.symm)).trans (hc j u hj)⟩
theorem Nw.off {w : World} {A : Option Addr} {p : Nat} (h : Nw w A) (hp : p < w.heap.size) : ∀ b o, A = some ⟨b, o, none⟩ → b ≠ p := fun b o e => by have := h b o e; omega
end Go.Proofs.Ytafkoddgefcpnaa

namespace Go.Proofs.Ytafkoddgefcpnaa
open Go.RowKit
set_option linter.unusedVariables false

/-- Blocks above p. -/
def Ab (p : Nat) (A : Option Addr) : Prop := ∀ b o, A = some ⟨b, o, none⟩ → p < b
theorem Ab.none_ (p : Nat) : Ab p none := fun _ _ e => by cases e
end Go.Proofs.Ytafkoddgefcpnaa

namespace Go.Proofs.Ytafkoddgefcpnaa
open Go.RowKit
set_option linter.unusedVariables false

section
variable {α : Type} {f : α → List Value} {s : Nat}
theorem flG_drop (hf : ∀ x, (f x).length = s) (L : List α) : ∀ k, (flG f L).drop (k * s) = flG f (L.drop k) := by
  induction L with
  | nil => intro k; simp [flG]
  | cons x L ih =>
    intro k
    cases k with
    | zero => simp
    | succ k =>
      rw [flG, List.drop_append, List.drop_eq_nil_of_le (by rw [hf, Nat.add_mul]; omega), hf, List.nil_append, show (k + 1) * s - s = k * s by rw [Nat.add_mul]; omega, ih]
      rfl
theorem flG_get (hf : ∀ x, (f x).length = s) {L : List α} {k i : Nat} (d : α) (h : k < L.length) (hi : i < s) : (flG f L)[k * s + i]? = (f (L.getD k d))[i]? := by
  have e := flG_drop hf L k
  rw [← List.getElem?_drop, e]
  have : L.drop k = L.getD k d :: L.drop (k + 1) := by
    rw [List.drop_eq_getElem_cons h]; simp [List.getD, h]
  rw [this, flG, List.getElem?_append_left (by rw [hf]; exact hi)]
variable {w w' : World} {A : Option Addr} {n : Nat} {L : List α}
theorem SG.none_ {A : Option Addr} : SG f w A 0 ([] : List α) := ⟨rfl, fun h => absurd h (by omega)⟩
theorem SG.at_ (h : SG f w A n L) (hf : ∀ x, (f x).length = s) (d : α) {k : Nat} (hk : k < n) :
    ∃ b o, A = some ⟨b, o, none⟩ ∧ ∀ i u, i < s → (f (L.getD k d))[i]? = some u → w.cell? ⟨b, o + k * s + i, none⟩ = some u := by
  obtain ⟨b, o, e, hc⟩ := h.2 (by omega)
  refine ⟨b, o, e, fun i u hi hu => ?_⟩
  rw [Nat.add_assoc]
  exact hc _ u (by rw [flG_get hf d (by rw [h.1]; exact hk) hi]; exact hu)
theorem SG.up (h : SG f w A n L) (hu : Up w w') : SG f w' A n L :=
  ⟨h.1, fun hn => by
    obtain ⟨b, o, e, hc⟩ := h.2 hn
    exact ⟨b, o, e, fun j u hj => hu.keep _ _ _ (hc j u hj)⟩⟩
end
end Go.Proofs.Ytafkoddgefcpnaa

namespace Go.Proofs.Ytafkoddgefcpnaa
open Go.RowKit
set_option linter.unusedVariables false

/-- The cells of a mark. -/
def cM (m : Mrk) : List Value := [.int .i64 m.sq, .int .i64 m.t, .int .i64 m.n, .int .i64 m.s, .int .i64 m.q, .int .i64 m.lo, .int .i64 m.hi]
theorem cM_len (m : Mrk) : (cM m).length = 7 := rfl
theorem mrk_at {w : World} {A : Option Addr} {n : Nat} {L : List Mrk} (h : SG cM w A n L) (d : Mrk) {k : Nat} (hk : k < n) :
    ∃ b o, A = some ⟨b, o, none⟩ ∧ w.cell? ⟨b, o + k * 7, none⟩ = some (.int .i64 (L.getD k d).sq) ∧ w.cell? ⟨b, o + k * 7 + 1, none⟩ = some (.int .i64 (L.getD k d).t) ∧ w.cell? ⟨b, o + k * 7 + 2, none⟩ = some (.int .i64 (L.getD k d).n) ∧ w.cell? ⟨b, o + k * 7 + 3, none⟩ = some (.int .i64 (L.getD k d).s) ∧ w.cell? ⟨b, o + k * 7 + 4, none⟩ = some (.int .i64 (L.getD k d).q) ∧ w.cell? ⟨b, o + k * 7 + 5, none⟩ = some (.int .i64 (L.getD k d).lo) ∧ w.cell? ⟨b, o + k * 7 + 6, none⟩ = some (.int .i64 (L.getD k d).hi) := by
  obtain ⟨b, o, e, hc⟩ := h.at_ cM_len d hk
  exact ⟨b, o, e, hc 0 _ (by omega) rfl, hc 1 _ (by omega) rfl, hc 2 _ (by omega) rfl, hc 3 _ (by omega) rfl, hc 4 _ (by omega) rfl, hc 5 _ (by omega) rfl, hc 6 _ (by omega) rfl⟩
end Go.Proofs.Ytafkoddgefcpnaa

namespace Go.Proofs.Ytafkoddgefcpnaa

/-- Parameters, marks, valid states, what Validate returns. -/
def agB (g : Int) : Bool := decide (1 ≤ g ∧ g ≤ 4)
def mayM (g w k c now : Int) : Bool := agB g && mayC w k c now
section
variable {g w k c now : Int} {P : List Nat} {I : List It}
end
end Go.Proofs.Ytafkoddgefcpnaa

namespace Go.Proofs.Ytafkoddgefcpnaa
open Go.RowKit
set_option linter.unusedVariables false

set_option maxHeartbeats 4000000 in
set_option maxRecDepth 100000 in
theorem validSizes13_any (g q c : Int) (w : World) :
    Calls Try.prog 61 #[.int .i64 g, .int .i64 q, .int .i64 c] w fun e w' => e = .returned (.bool ((agB g && (decide (1 ≤ q ∧ q ≤ 64) && decide (1 ≤ c ∧ c ≤ 65536))))) ∧ w = w' := by
  have HV : (agB g && (decide (1 ≤ q ∧ q ≤ 64) && decide (1 ≤ c ∧ c ≤ 65536))) = decide (1 ≤ g ∧ g ≤ 4 ∧ 1 ≤ q ∧ q ≤ 64 ∧ 1 ≤ c ∧ c ≤ 65536) := by unfold agB; simp [Bool.decide_and, Bool.and_assoc]
  rw [HV]
  clear HV
  have HB : Hid (∀ _ : ¬ (1 ≤ g ∧ g ≤ 4 ∧ 1 ≤ q ∧ q ≤ 64 ∧ 1 ≤ c ∧ c ≤ 65536), decide (1 ≤ g ∧ g ≤ 4 ∧ 1 ≤ q ∧ q ≤ 64 ∧ 1 ≤ c ∧ c ≤ 65536) = false) := Lib.hid (fun h => decide_eq_false h)
  have HT : Hid (1 ≤ g ∧ g ≤ 4 ∧ 1 ≤ q ∧ q ≤ 64 ∧ 1 ≤ c ∧ c ≤ 65536 → decide (1 ≤ g ∧ g ≤ 4 ∧ 1 ≤ q ∧ q ≤ 64 ∧ 1 ≤ c ∧ c ≤ 65536) = true) := Lib.hid (fun h => decide_eq_true h)
  generalize decide (1 ≤ g ∧ g ≤ 4 ∧ 1 ≤ q ∧ q ≤ 64 ∧ 1 ≤ c ∧ c ≤ 65536) = r at *
  by_cases h0 : ¬ (1 ≤ g)
  · obtain rfl : r = false := HB.out (fun h => h0 h.1)
    clear HB HT
    go_enter Try.func61, Try.ntmps61
    go_wp2
    go_ret
    exact ⟨rfl, rfl⟩
  have h0 := Classical.not_not.1 h0
  by_cases h1 : ¬ (g ≤ 4)
  · obtain rfl : r = false := HB.out (fun h => h1 h.2.1)
    clear HB HT
    go_enter Try.func61, Try.ntmps61
    go_wp2
    go_ret
    exact ⟨rfl, rfl⟩
  have h1 := Classical.not_not.1 h1
  by_cases h2 : ¬ (1 ≤ q)
  · obtain rfl : r = false := HB.out (fun h => h2 h.2.2.1)
    clear HB HT
    go_enter Try.func61, Try.ntmps61
    go_wp2
    go_ret
    exact ⟨rfl, rfl⟩
  have h2 := Classical.not_not.1 h2
  by_cases h3 : ¬ (q ≤ 64)
  · obtain rfl : r = false := HB.out (fun h => h3 h.2.2.2.1)
    clear HB HT
    go_enter Try.func61, Try.ntmps61
    go_wp2
    go_ret
    exact ⟨rfl, rfl⟩
  have h3 := Classical.not_not.1 h3
  by_cases h4 : ¬ (1 ≤ c)
  · obtain rfl : r = false := HB.out (fun h => h4 h.2.2.2.2.1)
    clear HB HT
    go_enter Try.func61, Try.ntmps61
    go_wp2
    go_ret
    exact ⟨rfl, rfl⟩
  have h4 := Classical.not_not.1 h4
  by_cases h5 : ¬ (c ≤ 65536)
  · obtain rfl : r = false := HB.out (fun h => h5 h.2.2.2.2.2)
    clear HB HT
    go_enter Try.func61, Try.ntmps61
    go_wp2
    go_ret
    exact ⟨rfl, rfl⟩
  have h5 := Classical.not_not.1 h5
  obtain rfl : r = true := HT.out ⟨h0, h1, h2, h3, h4, h5⟩
  clear HB HT
  go_enter Try.func61, Try.ntmps61
  go_wp2
  go_ret
  exact ⟨rfl, rfl⟩

end Go.Proofs.Ytafkoddgefcpnaa

namespace Go.Proofs.Ytafkoddgefcpnaa
open Go.RowKit
set_option linter.unusedVariables false

theorem adv_yes {now td : Int} (ht : tickB now = true) (h : now ≤ td) (k : td ≤ 16777216) : (if tickB now = true then (if td < now ∨ 16777216 < td then ((0 : Int), (3 : Int)) else (td, 0)) else (0, 1)) = (td, 0) := by rw [if_pos ht, if_neg (by omega)]
end Go.Proofs.Ytafkoddgefcpnaa

namespace Go.Proofs.Ytafkoddgefcpnaa
open Go.RowKit
set_option linter.unusedVariables false

theorem mayM_form (g v q c now : Int) : mayM g v q c now = ((agB g && (decide (1 ≤ q ∧ q ≤ 64) && decide (1 ≤ c ∧ c ≤ 65536))) && (tickB now && winB v)) := by
  unfold mayM mayC mayB
  cases agB g <;> cases tickB now <;> cases winB v <;> cases decide (1 ≤ q ∧ q ≤ 64) <;> cases decide (1 ≤ c ∧ c ≤ 65536) <;> rfl
set_option maxHeartbeats 4000000 in
set_option maxRecDepth 100000 in
theorem mnew_yes (g v q c now : Int) (h : mayM g v q c now = true) (w : World) :
    Calls Try.prog 54 #[.int .i64 g, .int .i64 v, .int .i64 q, .int .i64 c, .int .i64 now] w fun e w' => e = .returned (.tuple #[.agg #[.int .i64 g, .int .i64 v, .int .i64 q, .int .i64 c, .int .i64 now, .int .i64 0, .slice none 0 0], .int .i64 0]) ∧ Up w w' := by
  have KS := Lib.hid (validSizes13_any g q c)
  have KF := Lib.hid (first_any now v)
  rw [mayM_form, Bool.and_eq_true] at h
  rw [h.1] at KS
  have h0 := firZ_low h.2
  clear h
  generalize firZ now v = x at *
  have t0 : decide (x < 0) = false := decide_eq_false (by omega)
  clear h0
  go_enter Try.func54, Try.ntmps54
  go_wp2_with (first | (go_at_call 61; (with_reducible refine (KS.out _).mono ?_); rintro e w' ⟨rfl, rfl⟩) | (go_at_call 103; (with_reducible refine (KF.out _).mono ?_); rintro e w' ⟨rfl, rfl⟩))
  refine bodyPost_ret (v := .tuple #[.agg #[.int .i64 g, .int .i64 v, .int .i64 q, .int .i64 c, .int .i64 now, .int .i64 0, .slice none 0 0], .int .i64 0]) (by simp [results, Try.results54, go_sem]) rfl ⟨?_, ?_⟩
  · rfl
  · repeat (first | exact Up.refl _ | refine Up.alloc ?_ _ _ | refine Up.setCell ?_ (by first | (simp; done) | (simp; omega) | omega) _ | refine Up.drewN ?_ _ | refine Up.drew ?_)

end Go.Proofs.Ytafkoddgefcpnaa
