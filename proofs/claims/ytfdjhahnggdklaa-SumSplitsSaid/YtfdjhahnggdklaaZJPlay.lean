/- What a variable with a histogram of sums holds, while streams are played. -/
import Derived.Test.YtfdjhahnggdklaaZBAtMost
import Derived.Test.YtfdjhahnggdklaaZBProduct
import Derived.Test.YtfdjhahnggdklaaZCClock
import Derived.Test.YtfdjhahnggdklaaZFMade
import Derived.Test.YtfdjhahnggdklaaZGBasem8
import Derived.Test.YtfdjhahnggdklaaZGLawm3
import Derived.Test.YtfdjhahnggdklaaZHEqm5
import Derived.Test.YtfdjhahnggdklaaZHGrowm2
import Derived.Test.YtfdjhahnggdklaaZHOrdm2
import Derived.Test.YtfdjhahnggdklaaZHRVal
import Derived.Test.YtfdjhahnggdklaaZHRowm3
import Derived.Test.YtfdjhahnggdklaaZHSamem5
import Derived.Test.YtfdjhahnggdklaaZHSmallm7
import Derived.Test.YtfdjhahnggdklaaZIAdvm2
import Derived.Test.YtfdjhahnggdklaaZIBasem2
import Derived.Test.YtfdjhahnggdklaaZJAdd
import Derived.Test.YtfdjhahnggdklaaZJAdv
import Derived.Test.YtfdjhahnggdklaaZJAll
import Derived.Test.YtfdjhahnggdklaaZJAwk
import Derived.Test.YtfdjhahnggdklaaZJBase
import Derived.Test.YtfdjhahnggdklaaZJMath
import Derived.Test.YtfdjhahnggdklaaZJPos
import Derived.Test.YtfdjhahnggdklaaZJSt
import Derived.Test.YtfdjhahnggdklaaZREasym4
import Derived.Test.YtfdjhahnggdklaaZWCmpm5
import Derived.Test.YtfdjhahnggdklaaZWGcd
import Derived.Test.YtfdjhahnggdklaaZWMathm9
import Derived.Test.YtfdjhahnggdklaaZWRDiv2
namespace Go.Proofs.Ytfdjhahnggdklaa
open Go.RowKit
set_option linter.unusedVariables false

/-- The variable in block p holds a state with the buckets X. -/
structure Vs (W : World) (p : Nat) (v q c mx now : Int) (X : List It) (A : Option Addr) (k : Nat) : Prop where
  c0 : W.cell? ⟨p, 0, none⟩ = some (.int .i64 v)
  c1 : W.cell? ⟨p, 1, none⟩ = some (.int .i64 q)
  c2 : W.cell? ⟨p, 2, none⟩ = some (.int .i64 c)
  c3 : W.cell? ⟨p, 3, none⟩ = some (.int .i64 mx)
  c4 : W.cell? ⟨p, 4, none⟩ = some (.int .i64 now)
  c5 : W.cell? ⟨p, 5, none⟩ = some (.slice A X.length k)
  sl : Sl W A X.length X
  off : ∀ b o, A = some ⟨b, o, none⟩ → b ≠ p
  cap : X.length ≤ k
theorem Vs.up {W : World} {p : Nat} {v q c mx now : Int} {X : List It} {A : Option Addr} {k : Nat} {W2 : World} (h : Vs W p v q c mx now X A k) (hu : Up W W2) : Vs W2 p v q c mx now X A k :=
  ⟨hu.keep _ _ _ h.c0, hu.keep _ _ _ h.c1, hu.keep _ _ _ h.c2, hu.keep _ _ _ h.c3, hu.keep _ _ _ h.c4, hu.keep _ _ _ h.c5, h.sl.up hu, h.off, h.cap⟩
theorem Vs.lt {W : World} {p : Nat} {v q c mx now : Int} {X : List It} {A : Option Addr} {k : Nat} (h : Vs W p v q c mx now X A k) : p < W.heap.size := World.block_lt_of_cell? _ _ h.c0
/-- A store of a new state into the variable. -/
theorem Vs.put {W : World} {p : Nat} {v q c mx now : Int} {X : List It} {A : Option Addr} {k : Nat} {x0 x1 x2 x3 x4 x5 : Value} (e0 : W.cell? ⟨p, 0, none⟩ = some x0) (e1 : W.cell? ⟨p, 1, none⟩ = some x1) (e2 : W.cell? ⟨p, 2, none⟩ = some x2) (e3 : W.cell? ⟨p, 3, none⟩ = some x3) (e4 : W.cell? ⟨p, 4, none⟩ = some x4) (e5 : W.cell? ⟨p, 5, none⟩ = some x5)
    (sl : Sl W A X.length X) (off : ∀ b o, A = some ⟨b, o, none⟩ → b ≠ p) (cap : X.length ≤ k) :
    Vs ((((((W.setCell ⟨p, 0, none⟩ (.int .i64 v)).setCell ⟨p, 1, none⟩ (.int .i64 q)).setCell ⟨p, 2, none⟩ (.int .i64 c)).setCell ⟨p, 3, none⟩ (.int .i64 mx)).setCell ⟨p, 4, none⟩ (.int .i64 now)).setCell ⟨p, 5, none⟩ (.slice A X.length k)) p v q c mx now X A k := by
  obtain ⟨a0, a1, a2, a3, a4, a5⟩ := cellsS6 (v0 := .int .i64 v) (v1 := .int .i64 q) (v2 := .int .i64 c) (v3 := .int .i64 mx) (v4 := .int .i64 now) (v5 := .slice A X.length k) e0 e1 e2 e3 e4 e5
  exact ⟨a0, a1, a2, a3, a4, a5, sl.off6 off _ _ _ _ _ _, off, cap⟩
/-- Stores into another variable: of this type, and of five cells. -/
theorem Vs.out6 {W : World} {p : Nat} {v q c mx now : Int} {X : List It} {A : Option Addr} {k : Nat} {g : Nat} (h : Vs W p v q c mx now X A k) (hg : g ≠ p) (ho : ∀ b o, A = some ⟨b, o, none⟩ → b ≠ g) (y0 y1 y2 y3 y4 y5 : Value) :
    Vs ((((((W.setCell ⟨g, 0, none⟩ (y0)).setCell ⟨g, 1, none⟩ (y1)).setCell ⟨g, 2, none⟩ (y2)).setCell ⟨g, 3, none⟩ (y3)).setCell ⟨g, 4, none⟩ (y4)).setCell ⟨g, 5, none⟩ (y5)) p v q c mx now X A k :=
  ⟨far6 h.c0 hg, far6 h.c1 hg, far6 h.c2 hg, far6 h.c3 hg, far6 h.c4 hg, far6 h.c5 hg, h.sl.off6 ho _ _ _ _ _ _, h.off, h.cap⟩
theorem Vs.out5 {W : World} {p : Nat} {v q c mx now : Int} {X : List It} {A : Option Addr} {k : Nat} {g : Nat} (h : Vs W p v q c mx now X A k) (hg : g ≠ p) (ho : ∀ b o, A = some ⟨b, o, none⟩ → b ≠ g) (y0 y1 y2 y3 y4 : Value) :
    Vs (((((W.setCell ⟨g, 0, none⟩ (y0)).setCell ⟨g, 1, none⟩ (y1)).setCell ⟨g, 2, none⟩ (y2)).setCell ⟨g, 3, none⟩ (y3)).setCell ⟨g, 4, none⟩ (y4)) p v q c mx now X A k :=
  ⟨far5 h.c0 hg, far5 h.c1 hg, far5 h.c2 hg, far5 h.c3 hg, far5 h.c4 hg, far5 h.c5 hg, h.sl.off5 ho _ _ _ _ _, h.off, h.cap⟩
/-- A new variable. -/
theorem Vs.new {W : World} {v q c mx now : Int} {X : List It} {A : Option Addr} {k : Nat} (sl : Sl W A X.length X) (cap : X.length ≤ k) (off : ∀ b o, A = some ⟨b, o, none⟩ → b ≠ W.heap.size) :
    Vs (W.alloc (.cells #[.int .i64 v, .int .i64 q, .int .i64 c, .int .i64 mx, .int .i64 now, .slice A X.length k] 24)) W.heap.size v q c mx now X A k :=
  ⟨by simp [go_sem], by simp [go_sem], by simp [go_sem], by simp [go_sem], by simp [go_sem], by simp [go_sem], sl.up ((Up.refl _).alloc _ _), off, cap⟩
/-- Advance of what a variable holds. -/
theorem advVS {W0 W : World} {v q c mx now td : Int} {X M : List It} {A : Option Addr} {k : Nat} (hs : Hs v q c now X M) (hm : 1 ≤ mx ∧ mx ≤ 1024) (sl : Sl W0 A X.length X) (cap : X.length ≤ k) (hu : Up W0 W) (h1 : now ≤ td) (h2 : td ≤ 16777216) :
    Calls Try.prog 13 #[.agg #[.int .i64 v, .int .i64 q, .int .i64 c, .int .i64 mx, .int .i64 now, .slice A X.length k], .int .i64 td] W fun e W' => ∃ A' k', e = .returned (.tuple #[.agg #[.int .i64 v, .int .i64 q, .int .i64 c, .int .i64 mx, .int .i64 td, .slice A' (exL X (firZ td v)).length k'], .int .i64 0]) ∧ (exL X (firZ td v)).length ≤ k' ∧ Nw W A' ∧ Sl W' A' (exL X (firZ td v)).length (exL X (firZ td v)) ∧ Up W W' := by
  have hf : X.length ≤ 50000 := by have := stC_few hs.st; omega
  refine (adv12_good v q c mx now td X.length k A X hf cap (stS_yes hs.st hm.1 hm.2) h1 h2 W (sl.up hu)).mono ?_
  rintro e W' ⟨A', n', k', rfl, _, hk, hn, hS, hU⟩
  obtain rfl : (exL X (firZ td v)).length = n' := hS.1
  exact ⟨A', k', rfl, hk, hn, hS, hU⟩
/-- Add of a value for which there is room. -/
theorem addVS {W0 W : World} {v q c mx now d : Int} {X M : List It} {A : Option Addr} {k : Nat} (hs : Hs v q c now X M) (hm : 1 ≤ mx ∧ mx ≤ 1024) (sl : Sl W0 A X.length X) (cap : X.length ≤ k) (hu : Up W0 W) (h0 : 0 ≤ d) (h1 : d ≤ mx) (hf : totB X + d ≤ c) :
    Calls Try.prog 15 #[.agg #[.int .i64 v, .int .i64 q, .int .i64 c, .int .i64 mx, .int .i64 now, .slice A X.length k], .int .i64 d] W fun e W' => ∃ A' k', e = .returned (.tuple #[.agg #[.int .i64 v, .int .i64 q, .int .i64 c, .int .i64 mx, .int .i64 now, .slice A' (itB q now d.toNat X).length k'], .int .i64 0]) ∧ (itB q now d.toNat X).length ≤ k' ∧ Nw W A' ∧ Sl W' A' (itB q now d.toNat X).length (itB q now d.toNat X) ∧ Up W W' := by
  have hl : X.length ≤ 50000 := by have := stC_few hs.st; omega
  refine (add12_good v q c mx now d X.length k A X hl cap (stS_yes hs.st hm.1 hm.2) h0 h1 hf W (sl.up hu)).mono ?_
  rintro e W' ⟨A', n', k', rfl, _, hk, hn, hS, hU⟩
  obtain rfl : (itB q now d.toNat X).length = n' := hS.1
  exact ⟨A', k', rfl, hk, hn, hS, hU⟩
/-- Add of a value for which there is none. -/
theorem addVS_full {W0 W : World} {v q c mx now d : Int} {X M : List It} {A : Option Addr} {k : Nat} (hs : Hs v q c now X M) (hm : 1 ≤ mx ∧ mx ≤ 1024) (sl : Sl W0 A X.length X) (cap : X.length ≤ k) (hu : Up W0 W) (h0 : 0 ≤ d) (h1 : d ≤ mx) (hf : c < totB X + d) :
    Calls Try.prog 15 #[.agg #[.int .i64 v, .int .i64 q, .int .i64 c, .int .i64 mx, .int .i64 now, .slice A X.length k], .int .i64 d] W fun e W' => e = .returned (.tuple #[.agg #[.int .i64 0, .int .i64 0, .int .i64 0, .int .i64 0, .int .i64 0, .slice none 0 0], .int .i64 5]) ∧ Up W W' := by
  have hl : X.length ≤ 50000 := by have := stC_few hs.st; omega
  exact add12_full v q c mx now d X.length k A X hl cap (stS_yes hs.st hm.1 hm.2) h0 h1 hf W (sl.up hu)
/-- The sum of the live values lies between the bounds. -/
theorem Hs.sums {v k c now : Int} {X M : List It} (h : Hs v k c now X (unL M)) (hM : ∀ x ∈ M, 0 ≤ x.2) : qlo0 X ≤ smL (mlL M now v) ∧ smL (mlL M now v) ≤ totB X ∧ k * (totB X - qlo0 X) ≤ qlo0 X ∧ 0 ≤ qlo0 X ∧ qlo0 X ≤ totB X := by
  rw [live_sum now v hM]
  exact h.holds
theorem smL_take {M : List It} {i : Nat} (h : i < M.length) : smL (M.take (i + 1)) = smL (M.take i) + (M.getD i (0, 0)).2 := by
  rw [take_next h, smL_app]
  simp [smL]
theorem smL_part {M : List It} (h : ∀ x ∈ M, 0 ≤ x.2) (i : Nat) : 0 ≤ smL (M.take i) ∧ smL (M.take i) ≤ smL M := by
  have h1 := smL_nonneg (M := M.take i) (fun x hx => h x (List.mem_of_mem_take hx))
  have h2 := smL_nonneg (M := M.drop i) (fun x hx => h x (List.mem_of_mem_drop hx))
  have h3 := smL_app (M.take i) (M.drop i)
  rw [List.take_append_drop] at h3
  omega
/-- Blocks from s on. -/
def Ge (s : Nat) (A : Option Addr) : Prop := ∀ b o, A = some ⟨b, o, none⟩ → s ≤ b
theorem Ge.none_ (s : Nat) : Ge s none := fun _ _ e => by cases e
theorem Own.put {w0 w : World} {v : Value} {n p : Nat} {L : List It} (h : Own w0 w v n L) (hp : ∀ b o k, v = .slice (some ⟨b, o, none⟩) n k → b ≠ p) (y0 y1 y2 y3 y4 y5 : Value) : Own w0 ((((((w.setCell ⟨p, 0, none⟩ (y0)).setCell ⟨p, 1, none⟩ (y1)).setCell ⟨p, 2, none⟩ (y2)).setCell ⟨p, 3, none⟩ (y3)).setCell ⟨p, 4, none⟩ (y4)).setCell ⟨p, 5, none⟩ (y5)) v n L := by
  refine ⟨h.1, ?_⟩
  rcases h.2 with h0 | ⟨g, cap, cur, h5, h6, h7, h8⟩
  · exact Or.inl h0
  · have hg : g ≠ p := hp g 0 cap h5
    refine Or.inr ⟨g, cap, cur, h5, h6, ?_, h8⟩
    exact (((((Blk.far (t := 47) h7 hg _).far hg _).far hg _).far hg _).far hg _).far hg _
theorem keepT8 {w w1 w2 : World} {b0 o0 b1 o1 b2 o2 b3 o3 b4 o4 b5 o5 b6 o6 b7 o7 : Nat} {x0 x1 x2 x3 x4 x5 x6 x7 : Value} (hu : Hid (Up w1 w2)) (h : Up w w1 ∧ w1.cell? ⟨b0, o0, none⟩ = some x0 ∧ w1.cell? ⟨b1, o1, none⟩ = some x1 ∧ w1.cell? ⟨b2, o2, none⟩ = some x2 ∧ w1.cell? ⟨b3, o3, none⟩ = some x3 ∧ w1.cell? ⟨b4, o4, none⟩ = some x4 ∧ w1.cell? ⟨b5, o5, none⟩ = some x5 ∧ w1.cell? ⟨b6, o6, none⟩ = some x6 ∧ w1.cell? ⟨b7, o7, none⟩ = some x7) : Up w w2 ∧ w2.cell? ⟨b0, o0, none⟩ = some x0 ∧ w2.cell? ⟨b1, o1, none⟩ = some x1 ∧ w2.cell? ⟨b2, o2, none⟩ = some x2 ∧ w2.cell? ⟨b3, o3, none⟩ = some x3 ∧ w2.cell? ⟨b4, o4, none⟩ = some x4 ∧ w2.cell? ⟨b5, o5, none⟩ = some x5 ∧ w2.cell? ⟨b6, o6, none⟩ = some x6 ∧ w2.cell? ⟨b7, o7, none⟩ = some x7 :=
  ⟨h.1.trans hu.out, hu.out.keep _ _ _ h.2.1, hu.out.keep _ _ _ h.2.2.1, hu.out.keep _ _ _ h.2.2.2.1, hu.out.keep _ _ _ h.2.2.2.2.1, hu.out.keep _ _ _ h.2.2.2.2.2.1, hu.out.keep _ _ _ h.2.2.2.2.2.2.1, hu.out.keep _ _ _ h.2.2.2.2.2.2.2.1, hu.out.keep _ _ _ h.2.2.2.2.2.2.2.2⟩
theorem setT8 {w w1 : World} {b0 o0 b1 o1 b2 o2 b3 o3 b4 o4 b5 o5 b6 o6 b7 o7 g o : Nat} {x0 x1 x2 x3 x4 x5 x6 x7 v : Value} (h : Up w w1 ∧ w1.cell? ⟨b0, o0, none⟩ = some x0 ∧ w1.cell? ⟨b1, o1, none⟩ = some x1 ∧ w1.cell? ⟨b2, o2, none⟩ = some x2 ∧ w1.cell? ⟨b3, o3, none⟩ = some x3 ∧ w1.cell? ⟨b4, o4, none⟩ = some x4 ∧ w1.cell? ⟨b5, o5, none⟩ = some x5 ∧ w1.cell? ⟨b6, o6, none⟩ = some x6 ∧ w1.cell? ⟨b7, o7, none⟩ = some x7) (hg : w.heap.size ≤ g) (n0 : g ≠ b0) (n1 : g ≠ b1) (n2 : g ≠ b2) (n3 : g ≠ b3) (n4 : g ≠ b4) (n5 : g ≠ b5) (n6 : g ≠ b6) (n7 : g ≠ b7) : Up w (w1.setCell ⟨g, o, none⟩ v) ∧ (w1.setCell ⟨g, o, none⟩ v).cell? ⟨b0, o0, none⟩ = some x0 ∧ (w1.setCell ⟨g, o, none⟩ v).cell? ⟨b1, o1, none⟩ = some x1 ∧ (w1.setCell ⟨g, o, none⟩ v).cell? ⟨b2, o2, none⟩ = some x2 ∧ (w1.setCell ⟨g, o, none⟩ v).cell? ⟨b3, o3, none⟩ = some x3 ∧ (w1.setCell ⟨g, o, none⟩ v).cell? ⟨b4, o4, none⟩ = some x4 ∧ (w1.setCell ⟨g, o, none⟩ v).cell? ⟨b5, o5, none⟩ = some x5 ∧ (w1.setCell ⟨g, o, none⟩ v).cell? ⟨b6, o6, none⟩ = some x6 ∧ (w1.setCell ⟨g, o, none⟩ v).cell? ⟨b7, o7, none⟩ = some x7 :=
  ⟨h.1.setCell hg _, (cell_far n0).trans h.2.1, (cell_far n1).trans h.2.2.1, (cell_far n2).trans h.2.2.2.1, (cell_far n3).trans h.2.2.2.2.1, (cell_far n4).trans h.2.2.2.2.2.1, (cell_far n5).trans h.2.2.2.2.2.2.1, (cell_far n6).trans h.2.2.2.2.2.2.2.1, (cell_far n7).trans h.2.2.2.2.2.2.2.2⟩
theorem Hs.tot {v k c now : Int} {X M : List It} (h : Hs v k c now X M) : totB X ≤ (M.length : Int) := by
  obtain ⟨P, S, e, hP, hC⟩ := h.cv
  have h1 := hC.len
  have h2 := congrArg List.length e
  rw [List.length_map, List.length_append] at h2
  omega
theorem unL_len {M : List It} (h : ∀ x ∈ M, 0 ≤ x.2) : ((unL M).length : Int) = smL M := by
  induction M with
  | nil => rfl
  | cons x M ih =>
    have h1 := h x List.mem_cons_self
    have h2 := ih (fun y hy => h y (List.mem_cons_of_mem _ hy))
    have e1 : unL (x :: M) = List.replicate x.2.toNat (x.1, 0) ++ unL M := rfl
    rw [e1, List.length_append, List.length_replicate]
    simp only [smL]
    omega
theorem Hs.tots {v k c now y : Int} {X M : List It} (h : Hs v k c now X (unL M)) (hM : ∀ x ∈ M, 0 ≤ x.2 ∧ x.2 ≤ y) : totB X ≤ (M.length : Int) * y := by
  have h1 := h.tot
  rw [unL_len (fun x hx => (hM x hx).1)] at h1
  have := smL_le (fun x hx => (hM x hx).2)
  omega
/-- Add of what a variable with a counting histogram holds. -/
theorem addVc {W0 W : World} {v q c now y : Int} {X M : List It} {A : Option Addr} {k : Nat} (hs : Hs v q c now X M) (sl : Sl W0 A X.length X) (cap : X.length ≤ k) (hu : Up W0 W) (hf : totB X ≠ c) :
    Calls Try.prog 33 #[.agg #[.int .i64 v, .int .i64 q, .int .i64 c, .int .i64 now, .slice A X.length k]] W fun e W' => ∃ A' k', e = .returned (.tuple #[.agg #[.int .i64 v, .int .i64 q, .int .i64 c, .int .i64 now, .slice A' (puB q now X).length k'], .int .i64 0]) ∧ (puB q now X).length ≤ k' ∧ Nw W A' ∧ Sl W' A' (puB q now X).length (puB q now X) ∧ Up W W' := by
  have hl : X.length ≤ 50000 := by have := stC_few hs.st; omega
  refine (add11_good v q c now X.length k A X hl cap hs.st hf W (sl.up hu)).mono ?_
  rintro e W' ⟨A', n', k', rfl, _, hk, hn, hS, hU⟩
  obtain rfl : (puB q now X).length = n' := hS.1
  exact ⟨A', k', rfl, hk, hn, hS, hU⟩
/-- A store into a variable with a histogram of sums, seen from one with a counting histogram. -/
theorem Vc.out6 {W : World} {p g : Nat} {v q c now : Int} {X M : List It} {A : Option Addr} {k : Nat} (h : Vc W p v q c now X M A k) (hg : g ≠ p) (ho : ∀ b o, A = some ⟨b, o, none⟩ → b ≠ g) (y0 y1 y2 y3 y4 y5 : Value) :
    Vc ((((((W.setCell ⟨g, 0, none⟩ (y0)).setCell ⟨g, 1, none⟩ (y1)).setCell ⟨g, 2, none⟩ (y2)).setCell ⟨g, 3, none⟩ (y3)).setCell ⟨g, 4, none⟩ (y4)).setCell ⟨g, 5, none⟩ (y5)) p v q c now X M A k :=
  ⟨far6 h.c0 hg, far6 h.c1 hg, far6 h.c2 hg, far6 h.c3 hg, far6 h.c4 hg, h.hs, h.sl.off6 ho _ _ _ _ _ _, h.off, h.cap⟩
/-- Where the loop of SumSplits is. -/
def RnP (w wr : World) (p : Nat) (v : Int) (Am : Option Addr) (nm : Nat) (M0 : List It) (z : Int) (i : Nat) : Prop :=
  ∃ (now : Int) (X M : List It) (A1 : Option Addr) (k1 : Nat), Vs wr p v 2 65536 400 now X A1 k1 ∧ Hs v 2 65536 now X (unL M) ∧ (∀ x ∈ M, 0 ≤ x.2 ∧ x.2 ≤ 400) ∧ M.length ≤ i ∧ (i < nm → now ≤ (M0.getD i (0, 0)).1) ∧ (0 ≤ now ∧ now ≤ z) ∧ Sl wr Am nm M0 ∧ Up w wr
/-- Where the loop of SumCounts is. -/
def RnB (w wr : World) (p p2 : Nat) (v q : Int) (Am : Option Addr) (nm : Nat) (M0 : List It) (z : Int) (i : Nat) : Prop :=
  ∃ (now : Int) (X M : List It) (A1 A2 : Option Addr) (k1 k2 : Nat), Vs wr p v q 1000 5 now X A1 k1 ∧ Vc wr p2 v q 1000 now X M A2 k2 ∧ (∀ b o, A1 = some ⟨b, o, none⟩ → b ≠ p2) ∧ (∀ b o, A2 = some ⟨b, o, none⟩ → b ≠ p) ∧ M.length ≤ i ∧ (i < nm → now ≤ (M0.getD i (0, 0)).1) ∧ (0 ≤ now ∧ now ≤ z) ∧ Sl wr Am nm M0 ∧ Up w wr
/-- Where the loop of SumTruth is, ahead of the item at place i. -/
def RnS (w wr : World) (p s : Nat) (v q c mx : Int) (Am : Option Addr) (nm : Nat) (M0 : List It) (z : Int) (i : Nat) (sv : Value) : Prop :=
  ∃ (now : Int) (X M : List It) (A1 B : Option Addr) (k1 kb : Nat), sv = .slice B M.length kb ∧ Own w wr (.slice B M.length kb) M.length M ∧ Ge s B ∧ Vs wr p v q c mx now X A1 k1 ∧ Hs v q c now X (unL M) ∧ (∀ x ∈ M, 0 ≤ x.2 ∧ x.2 ≤ mx) ∧ M.length ≤ i ∧ (i < nm → now ≤ (M0.getD i (0, 0)).1) ∧ (0 ≤ now ∧ now ≤ z) ∧ Sl wr Am nm M0 ∧ Up w wr ∧ s ≤ wr.heap.size
end Go.Proofs.Ytfdjhahnggdklaa
