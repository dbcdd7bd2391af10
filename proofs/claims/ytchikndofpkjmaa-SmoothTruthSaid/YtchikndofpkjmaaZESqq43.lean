/- Texts of these claims, one after the other. -/
import Derived.Test.YtchikndofpkjmaaRows
import Derived.Test.YtchikndofpkjmaaZGLawq41
import Derived.Test.YtchikndofpkjmaaZGModq190
import Derived.Test.YtchikndofpkjmaaZHSmallq50
import Derived.Test.YtchikndofpkjmaaZWCmpq13
namespace Go.Proofs.Ytchikndofpkjmaa
open Go.RowKit

theorem take_next {L : List It} {i : Nat} (hi : i < L.length) : L.take (i + 1) = L.take i ++ [L.getD i (0, 0)] := by rw [List.take_add_one]; simp [List.getD, hi]
end Go.Proofs.Ytchikndofpkjmaa

namespace Go.Proofs.Ytchikndofpkjmaa
open Go.RowKit

theorem tyL_len (f : Nat → Int) : (tyL f).length = 31 := by simp [tyL]
theorem tyL_set (f : Nat → Int) (m : Nat) (x : Int) : (tyL f).set m (.int .i64 x) = tyL (fun j => if j = m then x else f j) := by
  apply List.ext_getElem?
  intro j
  rw [List.getElem?_set]
  by_cases hj : j < 31
  · rw [tyL_at _ hj, tyL_at _ hj]
    by_cases e : m = j
    · subst e; simp [tyL_len, hj]
    · rw [if_neg e, if_neg (fun h => e h.symm)]
  · rw [List.getElem?_eq_none (by rw [tyL_len]; omega), List.getElem?_eq_none (by rw [tyL_len]; omega)]
    by_cases e : m = j
    · rw [if_pos e, if_neg (by rw [tyL_len]; omega)]
    · rw [if_neg e]
end Go.Proofs.Ytchikndofpkjmaa

namespace Go.Proofs.Ytchikndofpkjmaa
open Go.RowKit

/-- What a tick leaves. -/
def exL (L : List It) (f : Int) : List It := L.dropWhile (fun x => decide (x.1 < f))
theorem exL_suffix (L : List It) (f : Int) : ∃ P, P ++ exL L f = L := ⟨L.takeWhile (fun x => decide (x.1 < f)), List.takeWhile_append_dropWhile⟩

end Go.Proofs.Ytchikndofpkjmaa

namespace Go.Proofs.Ytchikndofpkjmaa
open Go.RowKit

theorem Mk.set_ {w : World} {g : Nat} {f : Nat → Int} (h : Mk w g f) (m : Nat) (x : Int) : Mk (w.setCell ⟨g, m, none⟩ (.int .i64 x)) g (fun j => if j = m then x else f j) := by
  have h1 := Blk.set_ h m (.int .i64 x)
  unfold Mk
  rw [← tyL_set]
  simpa using h1
end Go.Proofs.Ytchikndofpkjmaa

namespace Go.Proofs.Ytchikndofpkjmaa
open Go.RowKit

theorem il_len (L : List Int) : (il L).length = L.length := by simp [il]
theorem il_at {L : List Int} {j : Nat} (h : j < L.length) : (il L)[j]? = some (.int .i64 (L.getD j 0)) := by simp [il, List.getD, h]
theorem OwI.sl {w0 w : World} {v : Value} {n : Nat} {L : List Int} (h : OwI w0 w v n L) : ∃ A c, v = .slice A n c ∧ n ≤ c ∧ Sn w A n L := by
  have hn : L.length = n := by have := h.1; rw [il_len] at this; omega
  rcases h.2 with ⟨rfl, rfl⟩ | ⟨g, cap, cur, rfl, _, hh, hc, _, hs, ht⟩
  · exact ⟨none, 0, rfl, Nat.le_refl _, hn, fun hx => absurd hx (by omega)⟩
  · refine ⟨some ⟨g, 0, none⟩, cap, rfl, hc, hn, fun _ => ⟨g, 0, rfl, fun j hj => ?_⟩⟩
    rw [Nat.zero_add, cell_of_row w g j cur _ (0, 0) hh]
    have e := il_at (L := L) (j := j) (by omega)
    rw [← ht, List.getElem?_take] at e
    split at e
    · simpa using e
    · cases e
end Go.Proofs.Ytchikndofpkjmaa

namespace Go.Proofs.Ytchikndofpkjmaa
open Go.RowKit

theorem exL_tot (L : List It) (f : Int) : totB (exL L f) ≤ totB L := by
  obtain ⟨P, h⟩ := exL_suffix L f
  have := totB_low P
  have e := totB_app P (exL L f)
  rw [h] at e
  omega
theorem exL_va {L : List It} {k f t : Int} (h : Va L k) (hl : ∀ x ∈ L, x.1 ≤ t) : Va (exL L f) k ∧ ∀ x ∈ exL L f, x.1 ≤ t := by
  obtain ⟨P, e⟩ := exL_suffix L f
  refine ⟨Va.suffix (P := P) (by rw [e]; exact h), fun x hx => hl x ?_⟩
  rw [← e]
  exact List.mem_append_right _ hx
end Go.Proofs.Ytchikndofpkjmaa

namespace Go.Proofs.Ytchikndofpkjmaa
open Go.RowKit

/-- append of one item, in the world that stands behind its own row of one item. -/
theorem append1I_run (ty : TypeId) (w0 w : World) (A : Option Addr) (n k : Nat) (L : List It) (p0 p1 : Int) (hO : Own w0 w (.slice A n k) n L) (hu : Up w0 w) (hlen : n + 1 ≤ 1000000) :
    ∃ A' k' w', (Builtin.append_ #[45, 45] ty #[.slice A n k, .slice (some ⟨w.heap.size, 0, none⟩) 1 1]).run Try.prog (w.alloc (.cells #[.int .i64 p0, .int .i64 p1] 51)) = .ok (.slice A' (n + 1) k') w' ∧ Own w0 w' (.slice A' (n + 1) k') (n + 1) (L ++ [(p0, p1)]) ∧ Up w0 w' := by
  obtain ⟨v', w', hr, h1, h2⟩ := append_run ty w0 (w.alloc (.cells #[.int .i64 p0, .int .i64 p1] 51)) (.slice A n k) n L (hO.of_up ((Up.refl _).alloc _ _)) (hu.alloc _ _) (some ⟨w.heap.size, 0, none⟩) 1 1 [(p0, p1)] (one_new w p0 p1) hlen
  obtain ⟨A', k', rfl, _, _⟩ := h1.sl
  exact ⟨A', k', w', hr, h1, h2⟩

end Go.Proofs.Ytchikndofpkjmaa

namespace Go.Proofs.Ytchikndofpkjmaa
open Go.RowKit

theorem mayC_yes {v k c now : Int} (h : mayB v c now = true) (h1 : 1 ≤ k) (h2 : k ≤ 64) : mayC v k c now = true := by
  unfold mayC
  rw [h, decide_eq_true (p := 1 ≤ k ∧ k ≤ 64) ⟨h1, h2⟩]
  rfl
theorem mayC_ok {v k c now : Int} (h1 : 0 ≤ now) (h2 : now ≤ 16777216) (h3 : 1 ≤ v) (h4 : v ≤ 1048576) (h5 : 1 ≤ c) (h6 : c ≤ 65536) (h7 : 1 ≤ k) (h8 : k ≤ 64) : mayC v k c now = true := by
  refine mayC_yes ?_ h7 h8
  unfold mayB
  rw [tickB_yes h1 h2, winB_yes h3 h4, decide_eq_true ⟨h5, h6⟩]
  rfl
theorem exL_cons (p : It) (X : List It) (f : Int) : exL (p :: X) f = if p.1 < f then exL X f else p :: X := by
  unfold exL
  rw [List.dropWhile_cons]
  simp
theorem exL_low {f : Int} : ∀ {X : List It}, As X → ∀ x ∈ exL X f, f ≤ x.1 := by
  intro X
  induction X with
  | nil => intro _ x hx; cases hx
  | cons p X ih =>
    intro h x hx
    obtain ⟨h1, h2⟩ := As.cons.1 h
    rw [exL_cons] at hx
    split at hx
    · exact ih h2 x hx
    · rcases List.mem_cons.1 hx with rfl | hx
      · omega
      · have := h1 x hx; omega
theorem Cv.ex {f : Int} : ∀ {X : List It} {S : List Int}, Cv X S → S.Pairwise (fun x y => x ≤ y) → ∃ P R, S = P ++ R ∧ Cv (exL X f) R ∧ ∀ x ∈ P, x < f := by
  intro X
  induction X with
  | nil => intro S h _; exact ⟨[], S, rfl, h, fun x hx => (by cases hx)⟩
  | cons p X ih =>
    rintro S ⟨G, R, rfl, hg, h⟩ hs
    rw [exL_cons]
    split
    next hp =>
      obtain ⟨_, hs2, hs3⟩ := List.pairwise_append.1 hs
      obtain ⟨P, R2, rfl, hc, hP⟩ := ih h (List.pairwise_cons.1 hs2).2
      refine ⟨G ++ p.1 :: P, R2, by simp, hc, fun x hx => ?_⟩
      rcases List.mem_append.1 hx with g | g
      · have := hs3 x g p.1 List.mem_cons_self; omega
      · rcases List.mem_cons.1 g with rfl | g
        · exact hp
        · exact hP x g
    next hp => exact ⟨[], G ++ p.1 :: R, rfl, ⟨G, R, rfl, hg, h⟩, fun x hx => (by cases hx)⟩
theorem stC_adv {v k c now td : Int} {X : List It} (h : stC v k c now X = true) (h1 : now ≤ td) (h2 : td ≤ 16777216) : stC v k c td (exL X (firZ td v)) = true := by
  obtain ⟨a1, a2, a3, a4⟩ := stC_true h
  obtain ⟨g1, g2, g3, g4⟩ := mayC_facts a1
  have hk := (mayC_true a1).2
  have ht : (tickB td && winB v) = true := by rw [tickB_yes (by omega) h2, winB_yes g2.1 g2.2]; rfl
  have hl := lvX_iff.1 a3
  obtain ⟨b1, b2⟩ := exL_va (f := firZ td v) (t := now) a2 (fun x hx => ((live_iff g4 (a2.rg x hx).1.1).1 (hl x hx)).2)
  refine stC_yes (mayC_ok (by omega) h2 g2.1 g2.2 g3.1 g3.2 hk.1 hk.2) b1 (lvX_iff.2 (fun x hx => ?_)) (by have := exL_tot X (firZ td v); omega)
  have e1 := exL_low a2.as_ x hx
  rw [firZ_yes ht] at e1
  have e2 := b2 x hx
  exact (live_iff ht (by omega)).2 ⟨by omega, by omega⟩
theorem Hs.adv {v k c now td : Int} {X M : List It} (h : Hs v k c now X M) (h1 : now ≤ td) (h2 : td ≤ 16777216) : Hs v k c td (exL X (firZ td v)) M := by
  refine ⟨stC_adv h.st h1 h2, h.asc, fun x hx => ⟨(h.rg x hx).1, by have := (h.rg x hx).2; omega⟩, ?_⟩
  obtain ⟨a1, a2, a3, a4⟩ := stC_true h.st
  obtain ⟨g1, g2, g3, g4⟩ := mayC_facts a1
  have ht : (tickB td && winB v) = true := by rw [tickB_yes (by omega) h2, winB_yes g2.1 g2.2]; rfl
  obtain ⟨P, S, e, hP, hC⟩ := h.cv
  have hs : (M.map (fun x => x.1)).Pairwise (fun x y => x ≤ y) := List.pairwise_map.2 h.asc
  rw [e] at hs
  obtain ⟨P2, R, rfl, hC2, hP2⟩ := hC.ex (f := firZ td v) (List.pairwise_append.1 hs).2.1
  refine ⟨P ++ P2, R, by rw [e, List.append_assoc], fun x hx => ?_, hC2⟩
  rcases List.mem_append.1 hx with g | g
  · have := hP x g; omega
  · have g5 := hP2 x g
    have g6 : x ∈ M.map (fun x => x.1) := by rw [e]; simp [g]
    obtain ⟨y, hy, rfl⟩ := List.mem_map.1 g6
    have := (h.rg y hy).1
    rw [firZ_yes ht] at g5
    omega
end Go.Proofs.Ytchikndofpkjmaa

namespace Go.Proofs.Ytchikndofpkjmaa
open Go.RowKit

theorem Ph.start {w : World} {p g m : Nat} {L : List It} (hb : Bi w g L) (hm : m < L.length) : Ph w w p g m L :=
  ⟨Wr.refl _ _ _, L.getD m (0, 0), by rw [show L.set m (L.getD m (0, 0)) = L by simp [List.getD, hm]]; exact hb⟩
end Go.Proofs.Ytchikndofpkjmaa

namespace Go.Proofs.Ytchikndofpkjmaa
open Go.RowKit

theorem mod_in (a n : Int) (hn : 1 ≤ n) (hn' : n ≤ 10000) (w : World) :
    Calls Try.prog 30 #[.int .i64 a, .int .i64 n] w fun e w' => ∃ r, e = .returned (.int .i64 r) ∧ 0 ≤ r ∧ r ≤ n - 1 ∧ w = w' :=
  (modm_any a n hn hn' w).mono (fun _ _ ⟨h1, h2⟩ => ⟨_, h1, Int.emod_nonneg _ (by omega), by have := Int.emod_lt_of_pos a (show 0 < n by omega); omega, h2⟩)

theorem mvalue_any (a : Int) (w : World) :
    Calls Try.prog 90 #[.int .i64 a] w fun e w' => ∃ g, e = .returned (.int .i64 g) ∧ valueB g = true ∧ w = w' := by
  have KM := Lib.hid (fun W => modm_any a 8 (by omega) (by omega) W)
  have KB := Lib.hid (fun b W => mod_in b 8193 (by omega) (by omega) W)
  have KC := Lib.hid (fun b W => mod_in b 2 (by omega) (by omega) W)
  have KD := Lib.hid (fun b W => mod_in b 13 (by omega) (by omega) W)
  generalize a % 8 = m at KM
  by_cases m0 : m = 0
  · subst m0
    clear KC KD
    go_enter Try.func90, Try.ntmps90
    go_wp2_with (first
      | (go_at_call 30; (with_reducible refine (KM.out _).mono ?_); rintro e w' ⟨rfl, rfl⟩)
      | (go_at_call 30; (with_reducible refine (KB.out _ _).mono ?_); rintro e w' ⟨r, rfl, hr1, hr2, rfl⟩))
    go_ret
    exact ⟨_, rfl, decide_eq_true (by omega), rfl⟩
  have t0 : (m == 0) = false := by simp [m0]
  by_cases m1 : m = 1
  · subst m1
    clear KB KD
    go_enter Try.func90, Try.ntmps90
    go_wp2_with (first
      | (go_at_call 30; (with_reducible refine (KM.out _).mono ?_); rintro e w' ⟨rfl, rfl⟩)
      | (go_at_call 30; (with_reducible refine (KC.out _ _).mono ?_); rintro e w' ⟨r, rfl, hr1, hr2, rfl⟩))
    go_ret
    exact ⟨_, rfl, decide_eq_true (by omega), rfl⟩
  · have t1 : (m == 1) = false := by simp; omega
    clear KB KC m0 m1
    go_enter Try.func90, Try.ntmps90
    go_wp2_with (first
      | (go_at_call 30; (with_reducible refine (KM.out _).mono ?_); rintro e w' ⟨rfl, rfl⟩)
      | (go_at_call 30; (with_reducible refine (KD.out _ _).mono ?_); rintro e w' ⟨r, rfl, hr1, hr2, rfl⟩))
    go_ret
    exact ⟨_, rfl, decide_eq_true (by omega), rfl⟩

theorem snoc_lt {M : List It} {x : It} {j : Nat} (h : j < M.length) : (M ++ [x]).getD j (0, 0) = M.getD j (0, 0) := by
  simp [List.getD, List.getElem?_append_left h]
theorem snoc_at {M : List It} {x : It} : (M ++ [x]).getD M.length (0, 0) = x := by
  simp [List.getD]
end Go.Proofs.Ytchikndofpkjmaa
