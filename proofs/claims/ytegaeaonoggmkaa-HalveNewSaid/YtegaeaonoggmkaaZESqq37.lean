/- Texts of these claims, one after the other. -/
import Derived.Test.YtegaeaonoggmkaaRows
import Derived.Test.YtegaeaonoggmkaaZEWordsq31
import Derived.Test.YtegaeaonoggmkaaZGFrameq12
import Derived.Test.YtegaeaonoggmkaaZGLawq33
import Derived.Test.YtegaeaonoggmkaaZHMathq16
import Derived.Test.YtegaeaonoggmkaaZWCmpq8
namespace Go.Proofs.Ytegaeaonoggmkaa
open Go.RowKit

/-- Items whose ticks and values are int64. -/
def InI (L : List It) : Prop := ∀ x ∈ L, In x.1 ∧ In x.2
/-- What the walk of squares holds. -/
structure Sq (w wr : World) (v : Int) : Prop where
  up : Up w wr
  r0 : wr.cell? ⟨w.heap.size, 0, none⟩ = some (.int .u64 0)
  r1 : wr.cell? ⟨w.heap.size, 1, none⟩ = some (.int .u64 0)
  r2 : wr.cell? ⟨w.heap.size, 2, none⟩ = some (.int .u64 0)
  s0 : wr.cell? ⟨w.heap.size + 1, 0, none⟩ = some (.int .u64 (dg3 v 0))
  s1 : wr.cell? ⟨w.heap.size + 1, 1, none⟩ = some (.int .u64 (dg3 v 1))
  s2 : wr.cell? ⟨w.heap.size + 1, 2, none⟩ = some (.int .u64 (dg3 v 2))
theorem Sq.keep {w w1 w2 : World} {v : Int} (h : Sq w w1 v) (hu : Up w1 w2) : Sq w w2 v :=
  ⟨h.up.trans hu, hu.keep _ _ _ h.r0, hu.keep _ _ _ h.r1, hu.keep _ _ _ h.r2, hu.keep _ _ _ h.s0, hu.keep _ _ _ h.s1, hu.keep _ _ _ h.s2⟩
theorem Sq.set {w w1 : World} {v u : Int} (h : Sq w w1 v) : Sq w (((w1.setCell ⟨w.heap.size + 1, 0, none⟩ (.int .u64 (dg3 u 0))).setCell ⟨w.heap.size + 1, 1, none⟩ (.int .u64 (dg3 u 1))).setCell ⟨w.heap.size + 1, 2, none⟩ (.int .u64 (dg3 u 2))) u := by
  have far : ∀ (W : World) (i : Nat) (x : Value) (q : Nat) (y : Value), W.cell? ⟨w.heap.size, q, none⟩ = some y → (W.setCell ⟨w.heap.size + 1, i, none⟩ x).cell? ⟨w.heap.size, q, none⟩ = some y := fun W i x q y hy => (cell_far (by show w.heap.size + 1 ≠ w.heap.size; omega)).trans hy
  refine ⟨((h.up.setCell (by show w.heap.size ≤ w.heap.size + 1; omega) _).setCell (by show w.heap.size ≤ w.heap.size + 1; omega) _).setCell (by show w.heap.size ≤ w.heap.size + 1; omega) _, far _ _ _ _ _ (far _ _ _ _ _ (far _ _ _ _ _ h.r0)), far _ _ _ _ _ (far _ _ _ _ _ (far _ _ _ _ _ h.r1)), far _ _ _ _ _ (far _ _ _ _ _ (far _ _ _ _ _ h.r2)), ?_, ?_, ?_⟩
  · rw [cell_set (cell_set (cell_set h.s0))]; rfl
  · rw [cell_set (cell_set (cell_set h.s1))]; rfl
  · rw [cell_set (cell_set (cell_set h.s2))]; rfl

end Go.Proofs.Ytegaeaonoggmkaa

namespace Go.Proofs.Ytegaeaonoggmkaa
open Go.RowKit

def kB (k : Int) : Bool := decide (1 ≤ k ∧ k ≤ 128)
def levB (l : Int) : Bool := decide (0 ≤ l ∧ l ≤ 30)
theorem kB_true {k : Int} (h : kB k = true) : 1 ≤ k ∧ k ≤ 128 := of_decide_eq_true h
theorem levB_true {k : Int} (h : levB k = true) : 0 ≤ k ∧ k ≤ 30 := of_decide_eq_true h
end Go.Proofs.Ytegaeaonoggmkaa

namespace Go.Proofs.Ytegaeaonoggmkaa
open Go.RowKit

/-- What is asked of the bucket at place j. -/
def okO (L : List It) (j : Nat) : Prop := tickB (L.getD j (0, 0)).1 = true ∧ levB (L.getD j (0, 0)).2 = true ∧ (0 < j → (L.getD (j - 1) (0, 0)).1 ≤ (L.getD j (0, 0)).1 ∧ (L.getD j (0, 0)).2 ≤ (L.getD (j - 1) (0, 0)).2)
instance (L : List It) (j : Nat) : Decidable (okO L j) := by unfold okO; infer_instance
def orB (L : List It) : Bool := decide (∀ j, j < L.length → okO L j)
theorem gD_mem {L : List It} {j : Nat} (h : j < L.length) : L.getD j (0, 0) ∈ L := by simp [List.getD, h]
theorem gD_at {L : List It} {j : Nat} (h : j < L.length) : L.getD j (0, 0) = L[j] := by simp [List.getD, h]
theorem adj_all {f : It → Int} {L : List It} (h : ∀ j, j < L.length → 0 < j → f (L.getD (j - 1) (0, 0)) ≤ f (L.getD j (0, 0))) : ∀ d i, i + d < L.length → f (L.getD i (0, 0)) ≤ f (L.getD (i + d) (0, 0)) := by
  intro d
  induction d with
  | zero => intro i _; exact Int.le_refl _
  | succ d ih =>
    intro i hi
    have h1 := ih i (by omega)
    have h2 := h (i + (d + 1)) hi (by omega)
    rw [show i + (d + 1) - 1 = i + d by omega] at h2
    omega
theorem orB_iff {L : List It} : orB L = true ↔ Rg L ∧ Ds L ∧ As L := by
  unfold orB
  rw [decide_eq_true_eq]
  constructor
  · intro h
    refine ⟨fun x hx => ?_, ?_, ?_⟩
    · obtain ⟨j, hj, rfl⟩ := List.mem_iff_getElem.1 hx
      obtain ⟨g1, g2, _⟩ := h j hj
      rw [gD_at hj] at g1 g2
      have := tickB_true g1; have := levB_true g2
      omega
    · unfold Ds
      rw [List.pairwise_iff_getElem]
      intro i j hi hj hij
      have g := adj_all (f := fun x => -x.2) (L := L) (fun j hj h0 => by have := ((h j hj).2.2 h0).2; omega) (j - i) i (by omega)
      rw [show i + (j - i) = j by omega, gD_at hi, gD_at hj] at g
      omega
    · unfold As
      rw [List.pairwise_iff_getElem]
      intro i j hi hj hij
      have g := adj_all (f := fun x => x.1) (L := L) (fun j hj h0 => ((h j hj).2.2 h0).1) (j - i) i (by omega)
      rw [show i + (j - i) = j by omega, gD_at hi, gD_at hj] at g
      exact g
  · rintro ⟨h1, h2, h3⟩ j hj
    have r := h1 _ (gD_mem hj)
    refine ⟨tickB_yes r.1.1 r.1.2, decide_eq_true r.2, fun h0 => ?_⟩
    rw [gD_at hj, gD_at (show j - 1 < L.length by omega)]
    exact ⟨List.pairwise_iff_getElem.1 h3 (j - 1) j (by omega) hj (by omega), List.pairwise_iff_getElem.1 h2 (j - 1) j (by omega) hj (by omega)⟩
end Go.Proofs.Ytegaeaonoggmkaa

namespace Go.Proofs.Ytegaeaonoggmkaa
open Go.RowKit

/-- A row of the call's own. -/
def Rw (w0 w : World) (e : TypeId) (sz : Nat) (v : Value) (n : Nat) (cs : List Value) : Prop := w.ownsRow w0.heap.size e sz v n cs
theorem Rw.nil (w0 w : World) (e : TypeId) (sz : Nat) : Rw w0 w e sz (.slice none 0 0) 0 [] := ⟨by simp, Or.inl ⟨rfl, rfl⟩⟩
/-- Two addresses in different blocks. -/
def Apt (A B : Option Addr) : Prop := ∀ g o o', A = some ⟨g, o, none⟩ → B = some ⟨g, o', none⟩ → False
theorem Apt.symm {A B : Option Addr} (h : Apt A B) : Apt B A := fun g o o' h1 h2 => h g o' o h2 h1
theorem Rw.lt {w0 w : World} {e : TypeId} {sz n k : Nat} {B : Option Addr} {cs : List Value} (h : Rw w0 w e sz (.slice B n k) n cs) : ∀ g o, B = some ⟨g, o, none⟩ → g < w.heap.size := by
  rintro g o rfl
  rcases h.2 with ⟨h0, _⟩ | ⟨g2, cap, cur, h1, h2, h3, h4⟩
  · cases h0
  · cases h1
    exact Blk.lt (t := e) h3

end Go.Proofs.Ytegaeaonoggmkaa

namespace Go.Proofs.Ytegaeaonoggmkaa
open Go.RowKit

/-- A region that writes one item of block g at its end: what holds at every time. -/
structure Ph (w W : World) (p g m : Nat) (L : List It) : Prop where
  wr : Wr w W p g
  bi : ∃ y, Bi W g (L.set m y)
theorem Ph.start {w : World} {p g m : Nat} {L : List It} (hb : Bi w g L) (hm : m < L.length) : Ph w w p g m L :=
  ⟨Wr.refl _ _ _, L.getD m (0, 0), by rw [show L.set m (L.getD m (0, 0)) = L by simp [List.getD, hm]]; exact hb⟩
theorem Ph.keep {w W W' : World} {p g m : Nat} {L : List It} (h : Ph w W p g m L) (hu : Up W W') : Ph w W' p g m L :=
  ⟨h.wr.then hu, h.bi.choose, h.bi.choose_spec.up hu⟩
theorem Ph.put {w W : World} {p g m : Nat} {L : List It} (h : Ph w W p g m L) (a b : Int) : Bi ((W.setCell ⟨g, m * 2, none⟩ (.int .i64 a)).setCell ⟨g, m * 2 + 1, none⟩ (.int .i64 b)) g (L.set m (a, b)) := by
  obtain ⟨y, hy⟩ := h.bi
  have := hy.set_ m a b
  rwa [List.set_set] at this
theorem Ph.set {w W : World} {p g m : Nat} {L : List It} (h : Ph w W p g m L) (a b : Int) : Ph w ((W.setCell ⟨g, m * 2, none⟩ (.int .i64 a)).setCell ⟨g, m * 2 + 1, none⟩ (.int .i64 b)) p g m L :=
  ⟨(h.wr.setG _ _).setG _ _, (a, b), h.put a b⟩
theorem Bi.drew {w : World} {g : Nat} {L : List It} (h : Bi w g L) : Bi w.drew g L := h
end Go.Proofs.Ytegaeaonoggmkaa

namespace Go.Proofs.Ytegaeaonoggmkaa
open Go.RowKit

theorem nl_length (L : List Int) : (nl L).length = L.length := by simp [nl]
theorem nl_append (L M : List Int) : nl (L ++ M) = nl L ++ nl M := by simp [nl]
theorem nl_one (L : List Int) : ∀ u ∈ nl L, u.oneCell' = true := by
  intro u hu
  obtain ⟨x, _, rfl⟩ := List.mem_map.1 hu
  rfl
theorem nl_get {L : List Int} {j : Nat} {u : Value} (h : (nl L)[j]? = some u) : j < L.length ∧ u = .int .i64 (L.getD j 0) := by
  have hj : j < (nl L).length := by
    rcases Nat.lt_or_ge j (nl L).length with h1 | h1
    · exact h1
    · rw [List.getElem?_eq_none h1] at h; cases h
  rw [nl_length] at hj
  refine ⟨hj, ?_⟩
  simp [nl, hj] at h
  simp [List.getD, hj, h]
/-- A row of the call's own (made behind w0) that holds L. -/
def OwnN (w0 w : World) (v : Value) (n : Nat) (L : List Int) : Prop := w.ownsRow w0.heap.size 2 1 v n (nl L)
theorem OwnN.nil (w0 w : World) : OwnN w0 w (.slice none 0 0) 0 [] := ⟨rfl, Or.inl ⟨rfl, rfl⟩⟩
theorem OwnN.sn {w0 w : World} {v : Value} {n : Nat} {L : List Int} (h : OwnN w0 w v n L) : ∃ A c, v = .slice A n c ∧ n ≤ c ∧ Sn w A n L := by
  have hn : L.length = n := by have := h.1; rw [nl_length] at this; omega
  rcases h.2 with ⟨rfl, rfl⟩ | ⟨g, cap, cur, rfl, _, hh, hc, _, hs, ht⟩
  · exact ⟨none, 0, rfl, Nat.le_refl _, hn, fun hx => absurd hx (by omega)⟩
  · refine ⟨some ⟨g, 0, none⟩, cap, rfl, hc, hn, fun _ => ⟨g, 0, rfl, fun j hj => ?_⟩⟩
    rw [Nat.zero_add, cell_of_row w g j cur _ (0, 0) hh]
    have h1 : (nl L)[j]? = some (.int .i64 (L.getD j 0)) := by simp [nl, List.getD, hn, hj]
    rw [← ht, List.getElem?_take] at h1
    split at h1
    · simpa using h1
    · cases h1
theorem appendN_run (ty : TypeId) (w0 w : World) (v : Value) (n : Nat) (L : List Int) (hO : OwnN w0 w v n L) (hu : Up w0 w) (A : Option Addr) (m c : Nat) (M : List Int) (hS : Sn w A m M) (h0 : 0 < m) (hlen : n + m ≤ 1000000) :
    ∃ v' w', (Builtin.append_ #[22, 22] ty #[v, .slice A m c]).run Try.prog w = .ok v' w' ∧ OwnN w0 w' v' (n + m) (L ++ M) ∧ Up w0 w' := by
  obtain ⟨i, hi, hz, hs, hb⟩ := info_parts int64_info
  have ht := Try.underlying22
  have h63 : n + m ≤ maxLen := by simp only [maxLen]; omega
  have hm : M.length = m := hS.1
  have hbase := hu.size
  have hLn : (nl L).length = n := by have := hO.1; omega
  have hfl : (nl L ++ nl M).length = (n + m) * 1 := by rw [List.length_append, hLn, nl_length, hm]; omega
  unfold OwnN
  rw [nl_append]
  obtain ⟨b, o, rfl, hc⟩ := hS.2 h0
  have hnews : ∀ j u, (nl M)[j]? = some u → w.cell? ((⟨b, o, none⟩ : Addr).add j) = some u := fun j u hj => by
    obtain ⟨h1, rfl⟩ := nl_get hj
    rw [add_at]
    exact hc j (by omega)
  have hl : (nl M).length = m * i.size := by rw [nl_length, hm, hs]; omega
  have grown : ∀ (old : Nat), old < n + m →
    (w.drew.alloc (.cells ((nl L).toArray ++ (nl M).toArray ++ Builtin.zeroCells #[.int .i64 0] (grownCap w (n + m) old 2 - (n + m))) 2)).ownsRow w0.heap.size 2 1
      (.slice (some ⟨w.heap.size, 0, none⟩) (n + m) (grownCap w (n + m) old 2)) (n + m) (nl L ++ nl M) := by
    intro old ho
    have hge := grownCap_ge w (n + m) old 2
    have hcm : grownCap w (n + m) old 2 ≤ maxLen := grownCap_le_maxLen w (n + m) old _ h63
    refine ⟨hfl, .inr ⟨w.heap.size, _, _, rfl, hbase, heap_alloc_new w.drew _, hge, hcm, ?_, ?_⟩⟩
    · simp only [Array.size_append, List.size_toArray, size_zeroCells, hLn, hl, hs]
      simp only [List.length_cons, List.length_nil]
      omega
    · simp only [Array.toList_append, List.append_assoc]
      rw [← List.append_assoc, ← hfl]
      exact List.take_left
  rcases hO.2 with ⟨rfl, rfl⟩ | ⟨g, cap, cur, rfl, hbg, hg, hnc, hcm, hcs, htake⟩
  · have hx : nl L = [] := List.eq_nil_of_length_eq_zero hLn
    have hr := run_append_nil (P := Try.prog) w 22 ty 2 i _ ht hi hz ⟨b, o, none⟩ m c (nl M) hl hnews (by omega) (by omega) (by rw [hb]; omega)
    have hgr := grown 0 (by omega)
    rw [hx] at hgr ⊢
    simp only [Nat.zero_add, List.nil_append, Array.empty_append] at hgr ⊢
    exact ⟨_, _, hr, hgr, hu.drew.alloc _ _⟩
  · by_cases hroom : n + m ≤ cap
    · have hfit : n * i.size + (nl M).length ≤ cur.size := by rw [hl, hcs, hs, ← Nat.add_mul]; exact Nat.mul_le_mul_right _ hroom
      have hr := run_append_room (P := Try.prog) w 22 ty 2 i ht hi g n cap cur hg ⟨b, o, none⟩ m c (nl M) hl hnews (nl_one _) hroom hfit
      obtain ⟨h1, h2⟩ := Cp.set w g cur (cur.toList.take (n * i.size) ++ nl M ++ cur.toList.drop (n * i.size + (nl M).length)).toArray _ hg
      refine ⟨_, _, hr, ⟨hfl, .inr ⟨g, cap, _, rfl, hbg, h2, hroom, hcm, ?_, ?_⟩⟩, h1.up w0 hu hbg⟩
      · simp only [List.size_toArray, List.length_append, List.length_take, List.length_drop, Array.length_toList]
        omega
      · rw [hs, htake, ← hfl]
        exact List.take_left
    · have holds : ∀ j u, (nl L)[j]? = some u → w.cell? ((⟨g, 0, none⟩ : Addr).add j) = some u := World.ownsRow.cells (g := g) hO rfl
      have hr := run_append_grow (P := Try.prog) w 22 ty 2 i _ ht hi hz ⟨g, 0, none⟩ n cap (nl L) (by rw [hs]; exact hO.1) holds ⟨b, o, none⟩ m c (nl M) hl hnews (by omega) (by omega) (growslice_fits (by omega) (by rw [hb]; omega))
      exact ⟨_, _, hr, grown cap (by omega), hu.drew.alloc _ _⟩
end Go.Proofs.Ytegaeaonoggmkaa
