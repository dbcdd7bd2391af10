/- Texts of these claims, one after the other. -/
import Derived.Test.YtfcknhpllhkpeaaRows
import Derived.Test.YtfcknhpllhkpeaaZESqq25
import Derived.Test.YtfcknhpllhkpeaaZGSameq40
namespace Go.Proofs.Ytfcknhpllhkpeaa
open Go.RowKit

def valueB (v : Int) : Bool := decide (-4096 ≤ v ∧ v ≤ 4096)
def mayB (v c now : Int) : Bool := (tickB now && winB v) && decide (1 ≤ c ∧ c ≤ 65536)
theorem mayB_true {v c now : Int} (h : mayB v c now = true) : tickB now = true ∧ winB v = true ∧ 1 ≤ c ∧ c ≤ 65536 := by
  unfold mayB at h
  simp only [Bool.and_eq_true, decide_eq_true_eq] at h
  exact ⟨h.1.1, h.1.2, h.2⟩
end Go.Proofs.Ytfcknhpllhkpeaa

namespace Go.Proofs.Ytfcknhpllhkpeaa
open Go.RowKit
set_option linter.unusedVariables false

/-- Results: Max, W, Cap, Now, the items and an error. -/
abbrev QX := Bool × Int × Int × Int × List It × Int
def noX (e : Int) : QX := (false, 0, 0, 0, [], e)
/-- Two neighbours in order. -/
def prX (mx : Bool) (x y : It) : Bool := decide (x.1 < y.1 ∧ sgE mx y.2 < sgE mx x.2)
def okX (mx : Bool) (v now : Int) (K : List It) (i : Nat) : Bool := (liveB now v (K.getD i (0, 0)).1 && valueB (K.getD i (0, 0)).2) && (decide (i = 0) || prX mx (K.getD (i - 1) (0, 0)) (K.getD i (0, 0)))
def stX (mx : Bool) (v c now : Int) (K : List It) : Bool := (mayB v c now && decide ((K.length : Int) ≤ c)) && (List.range K.length).all (okX mx v now K)
def stXE (mx : Bool) (v c now : Int) (K : List It) : Int := if stX mx v c now K = true then 0 else 2
theorem stX_iff {mx : Bool} {v c now : Int} {K : List It} : stX mx v c now K = true ↔ mayB v c now = true ∧ (K.length : Int) ≤ c ∧ ∀ i, i < K.length → okX mx v now K i = true := by
  unfold stX
  rw [Bool.and_eq_true, Bool.and_eq_true, List.all_eq_true, decide_eq_true_iff]
  exact ⟨fun h => ⟨h.1.1, h.1.2, fun i hi => h.2 i (List.mem_range.2 hi)⟩, fun h => ⟨⟨h.1, h.2.1⟩, fun i hi => h.2.2 i (List.mem_range.1 hi)⟩⟩
theorem okX_iff {mx : Bool} {v now : Int} {K : List It} {i : Nat} : okX mx v now K i = true ↔ liveB now v (K.getD i (0, 0)).1 = true ∧ valueB (K.getD i (0, 0)).2 = true ∧ (0 < i → (K.getD (i - 1) (0, 0)).1 < (K.getD i (0, 0)).1 ∧ sgE mx (K.getD i (0, 0)).2 < sgE mx (K.getD (i - 1) (0, 0)).2) := by
  unfold okX prX
  rw [Bool.and_eq_true, Bool.and_eq_true, Bool.or_eq_true, decide_eq_true_iff, decide_eq_true_iff]
  constructor
  · rintro ⟨⟨h1, h2⟩, h3⟩
    exact ⟨h1, h2, fun h => h3.resolve_left (by omega)⟩
  · rintro ⟨h1, h2, h3⟩
    refine ⟨⟨h1, h2⟩, ?_⟩
    rcases Nat.eq_zero_or_pos i with h | h
    · exact Or.inl h
    · exact Or.inr (h3 h)
theorem chain_pw {R : It → It → Prop} (tr : ∀ x y z, R x y → R y z → R x z) {K : List It} (h : ∀ i, i + 1 < K.length → R (K.getD i (0, 0)) (K.getD (i + 1) (0, 0))) : K.Pairwise R := by
  rw [List.pairwise_iff_getElem]
  intro i j hi hj hij
  obtain ⟨d, rfl⟩ : ∃ d, j = i + 1 + d := ⟨j - (i + 1), by omega⟩
  have e : ∀ q (hq : q < K.length), K.getD q (0, 0) = K[q] := fun q hq => by simp [List.getD, hq]
  rw [← e, ← e]
  clear hij
  induction d with
  | zero => exact h i hj
  | succ d ih => exact tr _ _ _ (ih (by omega)) (h (i + 1 + d) (by omega))
theorem getD_memT {K : List It} {x : It} (h : x ∈ K) : ∃ e, e < K.length ∧ K.getD e (0, 0) = x := by
  obtain ⟨e, he, rfl⟩ := List.getElem_of_mem h
  exact ⟨e, he, by simp [List.getD, he]⟩
theorem mem_getDT {K : List It} {e : Nat} (h : e < K.length) : K.getD e (0, 0) ∈ K := by simp [List.getD, h]
/-- A valid state, in the terms of lists. -/
theorem stX_is {mx : Bool} {v c now : Int} {K : List It} (h : stX mx v c now K = true) : mayB v c now = true ∧ (K.length : Int) ≤ c ∧ (∀ x ∈ K, liveB now v x.1 = true ∧ valueB x.2 = true) ∧ K.Pairwise (fun x y => x.1 < y.1 ∧ sgE mx y.2 < sgE mx x.2) := by
  obtain ⟨h1, h2, h3⟩ := stX_iff.1 h
  refine ⟨h1, h2, fun x hx => ?_, chain_pw (fun x y z a b => ⟨by omega, by omega⟩) (fun i hi => ?_)⟩
  · obtain ⟨e, he, rfl⟩ := getD_memT hx
    have := okX_iff.1 (h3 e he)
    exact ⟨this.1, this.2.1⟩
  · have := (okX_iff.1 (h3 (i + 1) hi)).2.2 (Nat.succ_pos _)
    rwa [Nat.add_sub_cancel] at this
theorem liveB_iff {now v t : Int} (hn : tickB now = true) (hv : winB v = true) : liveB now v t = true ↔ 0 ≤ t ∧ now - v < t ∧ t ≤ now := by
  unfold liveB firZ
  rw [hn, hv]
  rw [if_pos (show (true && true) = true from rfl), Bool.and_eq_true, Bool.and_eq_true, decide_eq_true_iff, decide_eq_true_iff]
  have := of_decide_eq_true (show decide (1 ≤ v ∧ v ≤ 1048576) = true from hv)
  constructor
  · rintro ⟨⟨_, a⟩, b⟩; omega
  · rintro ⟨a, b, c⟩; exact ⟨⟨rfl, by omega⟩, c⟩
/-- What the functions return. -/
def nwX (mx : Bool) (v c now : Int) : QX := if mayB v c now = true then (mx, v, c, now, [], 0) else noX 1
def anX (mx : Bool) (v c now : Int) (K : List It) (x : Int) : QX := if stX mx v c now K = true then (if valueB x = true then (if ((adE mx now x K).length : Int) ≤ c then (mx, v, c, now, adE mx now x K, 0) else noX 5) else noX 4) else noX 2
def akX (mx : Bool) (v c now : Int) (K : List It) : Int × Int := if stX mx v c now K = true then (if K.length = 0 then (0, 7) else ((K.getD 0 (0, 0)).2, 0)) else (0, 2)
/-- The items of a list that no other one rules out, by ascending ticks. -/
def kpX (mx : Bool) (L : List It) : List It := keS mx L L.length
end Go.Proofs.Ytfcknhpllhkpeaa

namespace Go.Proofs.Ytfcknhpllhkpeaa
open Go.RowKit
set_option linter.unusedVariables false

theorem kpX_kd (mx : Bool) (L : List It) : KdE mx (kpX mx L) L := keS_kd mx L
theorem kpX_eq {mx : Bool} {K L : List It} (h : KdE mx K L) : kpX mx L = K := (kpX_kd mx L).uniq h
end Go.Proofs.Ytfcknhpllhkpeaa

namespace Go.Proofs.Ytfcknhpllhkpeaa
open Go.RowKit

theorem Sl.off {w : World} {A : Option Addr} {n p o : Nat} {M : List It} (h : Sl w A n M) (hn : ∀ b o, A = some ⟨b, o, none⟩ → b ≠ p) (x : Value) : Sl (w.setCell ⟨p, o, none⟩ x) A n M := by
  refine ⟨h.1, fun h0 => ?_⟩
  obtain ⟨b, o, e, hc⟩ := h.2 h0
  exact ⟨b, o, e, fun j u hj => (cell_far (fun hp => hn b o e hp.symm)).trans (hc j u hj)⟩
/-- An address that was not there before. -/
def Nw (w : World) (A : Option Addr) : Prop := ∀ b o, A = some ⟨b, o, none⟩ → w.heap.size ≤ b
theorem Own.nw {w0 w : World} {A : Option Addr} {n c : Nat} {L : List It} (h : Own w0 w (.slice A n c) n L) : Nw w0 A := by
  intro b o e
  rcases h.2 with ⟨h1, _⟩ | ⟨g, cap, cur, h1, h2, _⟩
  · injection h1 with h1; rw [h1] at e; cases e
  · injection h1 with h1
    rw [h1] at e
    injection e with e
    injection e with e1 e2
    omega
theorem Nw.up {w w1 : World} {A : Option Addr} (h : Nw w1 A) (hu : Up w w1) : Nw w A := fun b o e => Nat.le_trans hu.size (h b o e)
end Go.Proofs.Ytfcknhpllhkpeaa
