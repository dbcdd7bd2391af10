/- What a variable with a smooth histogram holds, while streams are played. -/
import Derived.Test.YtafkoddgefcpnaaRows
import Derived.Test.YtafkoddgefcpnaaZBBdq291
import Derived.Test.YtafkoddgefcpnaaZJPosq288
import Derived.Test.YtafkoddgefcpnaaZKAddq261
import Derived.Test.YtafkoddgefcpnaaZKAdvq253
namespace Go.Proofs.Ytafkoddgefcpnaa
open Go.RowKit
set_option linter.unusedVariables false

/-- The variable in block p holds a state with the marks X. -/
structure Vm (W : World) (p : Nat) (g v q c now seq : Int) (X : List Mrk) (A : Option Addr) (k : Nat) : Prop where
  c0 : W.cell? ⟨p, 0, none⟩ = some (.int .i64 g)
  c1 : W.cell? ⟨p, 1, none⟩ = some (.int .i64 v)
  c2 : W.cell? ⟨p, 2, none⟩ = some (.int .i64 q)
  c3 : W.cell? ⟨p, 3, none⟩ = some (.int .i64 c)
  c4 : W.cell? ⟨p, 4, none⟩ = some (.int .i64 now)
  c5 : W.cell? ⟨p, 5, none⟩ = some (.int .i64 seq)
  c6 : W.cell? ⟨p, 6, none⟩ = some (.slice A X.length k)
  sl : SG cM W A X.length X
  off : ∀ b o, A = some ⟨b, o, none⟩ → b ≠ p
  cap : X.length ≤ k
theorem Vm.up {W W2 : World} {p : Nat} {g v q c now seq : Int} {X : List Mrk} {A : Option Addr} {k : Nat} (h : Vm W p g v q c now seq X A k) (hu : Up W W2) : Vm W2 p g v q c now seq X A k :=
  ⟨hu.keep _ _ _ h.c0, hu.keep _ _ _ h.c1, hu.keep _ _ _ h.c2, hu.keep _ _ _ h.c3, hu.keep _ _ _ h.c4, hu.keep _ _ _ h.c5, hu.keep _ _ _ h.c6, h.sl.up hu, h.off, h.cap⟩
theorem Vm.lt {W : World} {p : Nat} {g v q c now seq : Int} {X : List Mrk} {A : Option Addr} {k : Nat} (h : Vm W p g v q c now seq X A k) : p < W.heap.size := World.block_lt_of_cell? _ _ h.c0
/-- A store of a new state into the variable. -/
theorem Vm.put {W : World} {p : Nat} {g v q c now seq : Int} {X : List Mrk} {A : Option Addr} {k : Nat} {x0 x1 x2 x3 x4 x5 x6 : Value} (e0 : W.cell? ⟨p, 0, none⟩ = some x0) (e1 : W.cell? ⟨p, 1, none⟩ = some x1) (e2 : W.cell? ⟨p, 2, none⟩ = some x2) (e3 : W.cell? ⟨p, 3, none⟩ = some x3) (e4 : W.cell? ⟨p, 4, none⟩ = some x4) (e5 : W.cell? ⟨p, 5, none⟩ = some x5) (e6 : W.cell? ⟨p, 6, none⟩ = some x6)
    (sl : SG cM W A X.length X) (off : ∀ b o, A = some ⟨b, o, none⟩ → b ≠ p) (cap : X.length ≤ k) :
    Vm (((((((W.setCell ⟨p, 0, none⟩ (.int .i64 g)).setCell ⟨p, 1, none⟩ (.int .i64 v)).setCell ⟨p, 2, none⟩ (.int .i64 q)).setCell ⟨p, 3, none⟩ (.int .i64 c)).setCell ⟨p, 4, none⟩ (.int .i64 now)).setCell ⟨p, 5, none⟩ (.int .i64 seq)).setCell ⟨p, 6, none⟩ (.slice A X.length k)) p g v q c now seq X A k := by
  obtain ⟨a0, a1, a2, a3, a4, a5, a6⟩ := cells7 (v0 := .int .i64 g) (v1 := .int .i64 v) (v2 := .int .i64 q) (v3 := .int .i64 c) (v4 := .int .i64 now) (v5 := .int .i64 seq) (v6 := .slice A X.length k) e0 e1 e2 e3 e4 e5 e6
  exact ⟨a0, a1, a2, a3, a4, a5, a6, sl.off7 off _ _ _ _ _ _ _, off, cap⟩
/-- A new variable. -/
theorem Vm.new {W : World} {g v q c now seq : Int} {X : List Mrk} {A : Option Addr} {k : Nat} (sl : SG cM W A X.length X) (cap : X.length ≤ k) (off : ∀ b o, A = some ⟨b, o, none⟩ → b ≠ W.heap.size) :
    Vm (W.alloc (.cells #[.int .i64 g, .int .i64 v, .int .i64 q, .int .i64 c, .int .i64 now, .int .i64 seq, .slice A X.length k] 26)) W.heap.size g v q c now seq X A k :=
  ⟨by simp [go_sem], by simp [go_sem], by simp [go_sem], by simp [go_sem], by simp [go_sem], by simp [go_sem], by simp [go_sem], sl.up ((Up.refl _).alloc _ _), off, cap⟩
/-- The marks X are those that the items M have left. -/
def Sm (g v q c now : Int) (X : List Mrk) (M : List It) : Prop := mayC v q c now = true ∧ M.length ≤ 1000 ∧ ∃ P, X = P.map (mrkA M) ∧ Sv g v q c now P M
theorem Sm.start {g v q c : Int} (hg : 1 ≤ g ∧ g ≤ 4) (hm : mayC v q c 0 = true) : Sm g v q c 0 [] [] :=
  ⟨hm, Nat.zero_le _, [], rfl, SnM.start hg (mayC_facts hm).2.1.1 (mayC_facts hm).2.2.1.1⟩
section
variable {g v q c now : Int} {X : List Mrk} {M : List It}
theorem Sm.st (h : Sm g v q c now X M) : stM g v q c now M.length X = true := by
  obtain ⟨hm, hl, P, rfl, hs⟩ := h
  exact hs.st hm (by omega)
theorem Sm.len (h : Sm g v q c now X M) : X.length ≤ M.length := by
  obtain ⟨hm, hl, P, rfl, hs⟩ := h
  rw [List.length_map]
  exact hs.len
theorem Sm.adv (h : Sm g v q c now X M) {td : Int} (h1 : now ≤ td) (h2 : td ≤ 16777216) : Sm g v q c td (drM td v X) M := by
  obtain ⟨hm, hl, P, rfl, hs⟩ := h
  obtain ⟨f1, f2, f3, f4⟩ := mayC_facts hm
  have hk := (mayC_true hm).2
  exact ⟨mayC_ok (by omega) h2 f2.1 f2.2 f3.1 f3.2 hk.1 hk.2, hl, _, hs.dr_map hm h1 h2, hs.adv h1⟩
theorem Sm.add (h : Sm g v q c now X M) {d : Int} (hd : valG g d) (hf : fuM c M.length X = false) (hl : M.length + 1 ≤ 1000) : Sm g v q c now (adM g q M.length now d X) (M ++ [(now, d)]) := by
  obtain ⟨hm, _, P, rfl, hs⟩ := h
  have hk := (mayC_true hm).2
  have h0 := (mayC_facts hm).1.1
  have hc : ∀ p, P.head? = some p → (M.length : Int) - p < c := by
    rcases hs.fu_no hf with e | e
    · exact e.1
    · omega
  exact ⟨hm, by rw [List.length_append]; simpa using hl, _, hs.ad_map hd, Sv.add hs hk.1 h0 hd hc (Nat.le_refl _)⟩
end
/-- Advance of what a variable holds. -/
theorem advVM {W0 W : World} {g v q c now td : Int} {X : List Mrk} {M : List It} {A : Option Addr} {k : Nat} (hs : Sm g v q c now X M) (sl : SG cM W0 A X.length X) (cap : X.length ≤ k) (hu : Up W0 W) (h1 : now ≤ td) (h2 : td ≤ 16777216) :
    Calls Try.prog 24 #[.agg #[.int .i64 g, .int .i64 v, .int .i64 q, .int .i64 c, .int .i64 now, .int .i64 M.length, .slice A X.length k], .int .i64 td] W fun e W' => ∃ A' k', e = .returned (.tuple #[.agg #[.int .i64 g, .int .i64 v, .int .i64 q, .int .i64 c, .int .i64 td, .int .i64 M.length, .slice A' (drM td v X).length k'], .int .i64 0]) ∧ (drM td v X).length ≤ k' ∧ Nw W A' ∧ SG cM W' A' (drM td v X).length (drM td v X) ∧ Up W W' := by
  have hf : X.length ≤ 50000 := by have := hs.len; have := hs.2.1; omega
  refine (adv13_good g v q c now M.length td X.length k A X hf cap hs.st h1 h2 W (sl.up hu)).mono ?_
  rintro e W' ⟨A', n', k', rfl, _, hk, hn, hU, hS⟩
  obtain rfl : (drM td v X).length = n' := hS.1
  exact ⟨A', k', rfl, hk, hn, hS, hU⟩
/-- Add of a value for which there is room. -/
theorem addVM {W0 W : World} {g v q c now d : Int} {X : List Mrk} {M : List It} {A : Option Addr} {k : Nat} (hs : Sm g v q c now X M) (sl : SG cM W0 A X.length X) (cap : X.length ≤ k) (hu : Up W0 W) (hd : valG g d) (hf : fuM c M.length X = false) :
    Calls Try.prog 26 #[.agg #[.int .i64 g, .int .i64 v, .int .i64 q, .int .i64 c, .int .i64 now, .int .i64 M.length, .slice A X.length k], .int .i64 d] W fun e W' => ∃ A' k', e = .returned (.tuple #[.agg #[.int .i64 g, .int .i64 v, .int .i64 q, .int .i64 c, .int .i64 now, .int .i64 ((M.length : Int) + 1), .slice A' (adM g q M.length now d X).length k'], .int .i64 0]) ∧ (adM g q M.length now d X).length ≤ k' ∧ Nw W A' ∧ SG cM W' A' (adM g q M.length now d X).length (adM g q M.length now d X) ∧ Up W W' := by
  have hl : X.length ≤ 50000 := by have := hs.len; have := hs.2.1; omega
  refine (add13_good g v q c now M.length d X.length k A X hl cap hs.st hd hf W (sl.up hu)).mono ?_
  rintro e W' ⟨A', n', k', rfl, _, hk, hn, hU, hS⟩
  obtain rfl : (adM g q M.length now d X).length = n' := hS.1
  exact ⟨A', k', rfl, hk, hn, hS, hU⟩
/-- Add of a value for which there is none. -/
theorem addVM_full {W0 W : World} {g v q c now d : Int} {X : List Mrk} {M : List It} {A : Option Addr} {k : Nat} (hs : Sm g v q c now X M) (sl : SG cM W0 A X.length X) (cap : X.length ≤ k) (hu : Up W0 W) (hd : valG g d) (hf : fuM c M.length X = true) :
    Calls Try.prog 26 #[.agg #[.int .i64 g, .int .i64 v, .int .i64 q, .int .i64 c, .int .i64 now, .int .i64 M.length, .slice A X.length k], .int .i64 d] W fun e W' => e = .returned (.tuple #[.agg #[.int .i64 0, .int .i64 0, .int .i64 0, .int .i64 0, .int .i64 0, .int .i64 0, .slice none 0 0], .int .i64 5]) ∧ Up W W' := by
  have hl : X.length ≤ 50000 := by have := hs.len; have := hs.2.1; omega
  exact add13_full g v q c now M.length d X.length k A X hl cap hs.st hd hf W (sl.up hu)
/-- Blocks from s on. -/
def Ge (s : Nat) (A : Option Addr) : Prop := ∀ b o, A = some ⟨b, o, none⟩ → s ≤ b
theorem Ge.none_ (s : Nat) : Ge s none := fun _ _ e => by cases e
theorem Sl.out {W : World} {A : Option Addr} {n : Nat} {M : List It} (h : Sl W A n M) (hn : 0 < n) : ∃ b o, A = some ⟨b, o, none⟩ ∧ b < W.heap.size := by
  obtain ⟨b, o, e, d0, _⟩ := h.at_ hn
  exact ⟨b, o, e, World.block_lt_of_cell? _ _ d0⟩
theorem mayM_yes {g v q d now : Int} (hg : 1 ≤ g ∧ g ≤ 4) (hm : mayC v q d now = true) : mayM g v q d now = true := by
  unfold mayM agB; rw [decide_eq_true hg, hm]; rfl
end Go.Proofs.Ytafkoddgefcpnaa
