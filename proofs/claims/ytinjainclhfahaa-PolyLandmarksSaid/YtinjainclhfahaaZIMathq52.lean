/- Texts of these claims, one after the other. -/
import Derived.Test.YtinjainclhfahaaRows
import Derived.Test.YtinjainclhfahaaZESqq30
import Derived.Test.YtinjainclhfahaaZHOrdq35
namespace Go.Proofs.Ytinjainclhfahaa
open Go.RowKit

/-- Parameters; all buckets live; valid states. -/
def mayC (v k c now : Int) : Bool := mayB v c now && decide (1 ≤ k ∧ k ≤ 64)
def lvX (now v : Int) (X : List It) : Bool := decide (∀ j, j < X.length → liveB now v (X.getD j (0, 0)).1 = true)
def stC (v k c now : Int) (X : List It) : Bool := mayC v k c now && (vaB X k && (lvX now v X && decide (totB X ≤ c)))
theorem mayC_true {v k c now : Int} (h : mayC v k c now = true) : mayB v c now = true ∧ 1 ≤ k ∧ k ≤ 64 := by
  unfold mayC at h
  rw [Bool.and_eq_true, decide_eq_true_eq] at h
  exact ⟨h.1, h.2⟩
theorem lvX_iff {now v : Int} {X : List It} : lvX now v X = true ↔ ∀ x ∈ X, liveB now v x.1 = true := by
  unfold lvX
  rw [decide_eq_true_eq]
  constructor
  · intro h x hx
    obtain ⟨j, hj, rfl⟩ := List.mem_iff_getElem.1 hx
    have := h j hj
    rw [gD_at hj] at this
    exact this
  · intro h j hj
    exact h _ (gD_mem hj)
theorem stC_true {v k c now : Int} {X : List It} (h : stC v k c now X = true) : mayC v k c now = true ∧ Va X k ∧ lvX now v X = true ∧ totB X ≤ c := by
  unfold stC at h
  simp only [Bool.and_eq_true, decide_eq_true_eq] at h
  exact ⟨h.1, vaB_iff.1 h.2.1, h.2.2.1, h.2.2.2⟩
theorem stC_yes {v k c now : Int} {X : List It} (h1 : mayC v k c now = true) (h2 : Va X k) (h3 : lvX now v X = true) (h4 : totB X ≤ c) : stC v k c now X = true := by
  unfold stC
  rw [h1, vaB_iff.2 h2, h3, decide_eq_true h4]
  rfl
theorem mayC_facts {v k c now : Int} (h : mayC v k c now = true) : (0 ≤ now ∧ now ≤ 16777216) ∧ (1 ≤ v ∧ v ≤ 1048576) ∧ (1 ≤ c ∧ c ≤ 65536) ∧ (tickB now && winB v) = true := by
  obtain ⟨h1, h2, h3⟩ := mayC_true h
  obtain ⟨a, b, d, e⟩ := mayB_true h1
  exact ⟨tickB_true a, winB_true b, ⟨d, e⟩, by rw [a, b]; rfl⟩
theorem live_iff {now v t : Int} (h : (tickB now && winB v) = true) (h0 : 0 ≤ t) : liveB now v t = true ↔ now - v < t ∧ t ≤ now := by
  rw [liveB_yes h, firZ_yes h]
  simp only [Bool.and_eq_true, decide_eq_true_eq]
  constructor <;> intro g <;> exact ⟨by omega, by omega⟩
/-- The buckets X stand for items with the ticks S: each for so many in turn, the last of them at its tick. -/
def Cv : List It → List Int → Prop
  | [], S => S = []
  | p :: X, S => ∃ G R, S = G ++ p.1 :: R ∧ (G.length : Int) + 1 = szB p.2 ∧ Cv X R
theorem Cv.app : ∀ {P X : List It} {S : List Int}, Cv (P ++ X) S ↔ ∃ S1 S2, S = S1 ++ S2 ∧ Cv P S1 ∧ Cv X S2 := by
  intro P
  induction P with
  | nil =>
    intro X S
    constructor
    · intro h; exact ⟨[], S, rfl, rfl, h⟩
    · rintro ⟨S1, S2, rfl, h1, h2⟩
      have h1 : S1 = [] := h1
      subst h1
      exact h2
  | cons p P ih =>
    intro X S
    constructor
    · rintro ⟨G, R, rfl, hg, h⟩
      obtain ⟨S1, S2, rfl, h1, h2⟩ := ih.1 h
      exact ⟨G ++ p.1 :: S1, S2, by simp, ⟨G, S1, rfl, hg, h1⟩, h2⟩
    · rintro ⟨S1, S2, rfl, ⟨G, R, rfl, hg, h1⟩, h2⟩
      exact ⟨G, R ++ S2, by simp, hg, ih.2 ⟨R, S2, rfl, h1, h2⟩⟩
theorem Cv.len : ∀ {X : List It} {S : List Int}, Cv X S → (S.length : Int) = totB X := by
  intro X
  induction X with
  | nil => intro S h; have h : S = [] := h; subst h; rfl
  | cons p X ih =>
    rintro S ⟨G, R, rfl, hg, h⟩
    have := ih h
    simp only [List.length_append, List.length_cons, totB]
    omega
theorem Cv.mg {X : List It} {S : List Int} {l : Int} (h0 : 0 ≤ l) (h1 : l < 30) (hd : Ds X) (hc : 2 ≤ cn l X) (h : Cv X S) : Cv (mgB X l) S := by
  obtain ⟨P, a, b, Q, rfl, e2, e3, e4⟩ := split2 hd hc
  rw [mgB_split e2]
  obtain ⟨S1, S2, rfl, k1, G, R, rfl, hg, G2, R2, rfl, hg2, k2⟩ := Cv.app.1 h
  simp only at hg hg2
  refine Cv.app.2 ⟨S1, _, rfl, k1, G ++ a :: G2, R2, by simp, ?_, k2⟩
  simp only [List.length_append, List.length_cons]
  rw [szB_two h0 h1]
  omega
theorem puS_cv {k T t : Int} (hT : T ≤ 1073741824) : ∀ {n : Nat} {l : Int} {X : List It} {S : List Int}, Iv X k l T t → l + n = 31 → Cv X S → Cv (puS k n l X) S := by
  intro n
  induction n with
  | zero => intro l X S _ _ h; exact h
  | succ n ih =>
    intro l X S h hn hC
    by_cases hc : (cn l X : Int) ≤ k + 1
    · rw [puS_at hc]; exact hC
    · rw [puS_step hc]
      obtain ⟨h1, h2, h3, h4⟩ := h.next hT (by omega) hc
      exact ih h4 (by omega) (Cv.mg h.l0 h1 h.ds h3 hC)
theorem puB_cv {X : List It} {S : List Int} {k t : Int} (h : Va X k) (h0 : 0 ≤ t) (h1 : t ≤ 16777216) (hl : ∀ x ∈ X, x.1 ≤ t) (hT : totB X < 1073741824) (hC : Cv X S) : Cv (puB k t X) (S ++ [t]) :=
  puS_cv (by omega) (h.start h0 h1 hl) rfl (Cv.app.2 ⟨S, [t], rfl, hC, [], [], rfl, rfl, rfl⟩)
/-- The ticks of a list after an insertion are those that were there, and the new one. -/
theorem puS_tick {k T t : Int} (hT : T ≤ 1073741824) : ∀ {n : Nat} {l : Int} {X : List It}, Iv X k l T t → l + n = 31 → ∀ x ∈ puS k n l X, ∃ y ∈ X, y.1 = x.1 := by
  intro n
  induction n with
  | zero => intro l X _ _ x hx; exact ⟨x, hx, rfl⟩
  | succ n ih =>
    intro l X h hn x hx
    by_cases hc : (cn l X : Int) ≤ k + 1
    · rw [puS_at hc] at hx; exact ⟨x, hx, rfl⟩
    · rw [puS_step hc] at hx
      obtain ⟨h1, h2, h3, h4⟩ := h.next hT (by omega) hc
      obtain ⟨y, hy, e⟩ := ih h4 (by omega) x hx
      rcases mg_mem h.ds h3 hy with g | g
      · exact ⟨y, g, e⟩
      · exact ⟨_, g.2, e⟩
theorem puB_tick {X : List It} {k t : Int} (h : Va X k) (h0 : 0 ≤ t) (h1 : t ≤ 16777216) (hl : ∀ x ∈ X, x.1 ≤ t) (hT : totB X < 1073741824) : ∀ x ∈ puB k t X, x.1 = t ∨ ∃ y ∈ X, y.1 = x.1 := by
  intro x hx
  obtain ⟨y, hy, e⟩ := puS_tick (by omega) (h.start h0 h1 hl) rfl x hx
  rcases List.mem_append.1 hy with g | g
  · exact Or.inr ⟨y, g, e⟩
  · simp only [List.mem_singleton] at g; subst g; exact Or.inl e.symm
/-- How many ticks are live. -/
def lvN (S : List Int) (now v : Int) : Nat := S.countP (fun t => decide (now - v < t) && decide (t ≤ now))
theorem lvN_app (P S : List Int) (now v : Int) : lvN (P ++ S) now v = lvN P now v + lvN S now v := List.countP_append
theorem lvN_le (S : List Int) (now v : Int) : lvN S now v ≤ S.length := List.countP_le_length
theorem lvN_zero {S : List Int} {now v : Int} (h : ∀ x ∈ S, x ≤ now - v) : lvN S now v = 0 := by
  unfold lvN; rw [List.countP_eq_zero]; intro x hx; have := h x hx; simp; omega
theorem lvN_all {S : List Int} {now v : Int} (h : ∀ x ∈ S, now - v < x ∧ x ≤ now) : lvN S now v = S.length := by
  unfold lvN; rw [List.countP_eq_length]; intro x hx; have := h x hx; simp; omega
/-- The state after items M. -/
structure Hs (v k c now : Int) (X M : List It) : Prop where
  st : stC v k c now X = true
  asc : M.Pairwise (fun x y => x.1 ≤ y.1)
  rg : ∀ x ∈ M, 0 ≤ x.1 ∧ x.1 ≤ now
  cv : ∃ P S, M.map (fun x => x.1) = P ++ S ∧ (∀ x ∈ P, x ≤ now - v) ∧ Cv X S
theorem Hs.start {v k c now : Int} (h : mayC v k c now = true) : Hs v k c now [] [] :=
  ⟨stC_yes h (Va.nil (mayC_true h).2.1 (by have := (mayC_true h).2.2; omega)) (lvX_iff.2 (fun x hx => (by cases hx))) (by have := (mayC_facts h).2.2.1.1; simp only [totB]; omega),
   List.Pairwise.nil, (fun x hx => (by cases hx)), [], [], rfl, (fun x hx => (by cases hx)), rfl⟩
theorem stC_add {v k c now : Int} {X : List It} (h : stC v k c now X = true) (hc : totB X ≠ c) : stC v k c now (puB k now X) = true ∧ (0 ≤ now ∧ now ≤ 16777216) ∧ (∀ x ∈ X, x.1 ≤ now) ∧ totB X + 1 ≤ 1073741824 := by
  obtain ⟨a1, a2, a3, a4⟩ := stC_true h
  obtain ⟨g1, g2, g3, g4⟩ := mayC_facts a1
  have hl := lvX_iff.1 a3
  have hx : ∀ x ∈ X, x.1 ≤ now := fun x hx => ((live_iff g4 (a2.rg x hx).1.1).1 (hl x hx)).2
  obtain ⟨b1, b2, b3⟩ := puB_va a2 g1.1 g1.2 hx (by omega)
  refine ⟨stC_yes a1 b1 (lvX_iff.2 (fun x hx2 => ?_)) (by omega), g1, hx, by omega⟩
  rcases puB_tick a2 g1.1 g1.2 hx (by omega) x hx2 with e | ⟨y, hy, e⟩
  · rw [e]; exact (live_iff g4 g1.1).2 ⟨by omega, by omega⟩
  · rw [← e]; exact hl y hy
theorem Hs.add {v k c now y : Int} {X M : List It} (h : Hs v k c now X M) (hc : totB X ≠ c) : Hs v k c now (puB k now X) (M ++ [(now, y)]) := by
  obtain ⟨b1, b2, b3, b4⟩ := stC_add h.st hc
  obtain ⟨a1, a2, a3, a4⟩ := stC_true h.st
  refine ⟨b1, ?_, ?_, ?_⟩
  · rw [List.pairwise_append]
    refine ⟨h.asc, List.pairwise_singleton _ _, fun x hx z hz => ?_⟩
    simp only [List.mem_singleton] at hz
    subst hz
    exact (h.rg x hx).2
  · intro x hx
    rcases List.mem_append.1 hx with g | g
    · exact h.rg x g
    · simp only [List.mem_singleton] at g; subst g; exact ⟨b2.1, Int.le_refl _⟩
  · obtain ⟨P, S, e, hP, hC⟩ := h.cv
    exact ⟨P, S ++ [now], by rw [List.map_append, e, List.append_assoc]; rfl, hP, puB_cv a2 b2.1 b2.2 b3 (by omega) hC⟩
/-- The lower bound of the answer. -/
def qlo0 (X : List It) : Int := if X = [] then 0 else totB X - szB (X.getD 0 (0, 0)).2 + 1
/-- The number of live items lies between the bounds, which are narrow. -/
theorem Hs.holds {v k c now : Int} {X M : List It} (h : Hs v k c now X M) : qlo0 X ≤ (lvN (M.map (fun x => x.1)) now v : Int) ∧ (lvN (M.map (fun x => x.1)) now v : Int) ≤ totB X ∧ k * (totB X - qlo0 X) ≤ qlo0 X ∧ 0 ≤ qlo0 X ∧ qlo0 X ≤ totB X := by
  obtain ⟨a1, a2, a3, a4⟩ := stC_true h.st
  obtain ⟨g1, g2, g3, g4⟩ := mayC_facts a1
  obtain ⟨P, S, e, hP, hC⟩ := h.cv
  have hl := lvX_iff.1 a3
  have hs : (M.map (fun x => x.1)).Pairwise (fun x y => x ≤ y) := List.pairwise_map.2 h.asc
  have hn : ∀ x ∈ S, x ≤ now := fun x hx => by
    have g6 : x ∈ M.map (fun x => x.1) := by rw [e]; simp [hx]
    obtain ⟨y, hy, rfl⟩ := List.mem_map.1 g6
    exact (h.rg y hy).2
  rw [e] at hs
  rw [e, lvN_app, lvN_zero hP, Nat.zero_add]
  have hlen := hC.len
  have hle := lvN_le S now v
  cases X with
  | nil =>
    have hC : S = [] := hC
    subst hC
    unfold qlo0 lvN
    simp [totB]
  | cons p X =>
    obtain ⟨n1, n2, n3⟩ := a2.narrow (by simp)
    have e0 : ((p :: X).getD 0 (0, 0)) = p := rfl
    rw [e0] at n1 n2 n3
    unfold qlo0
    rw [if_neg (by simp), e0]
    have e4 : k * (totB (p :: X) - (totB (p :: X) - szB p.2 + 1)) = k * (szB p.2 - 1) := by rw [show totB (p :: X) - (totB (p :: X) - szB p.2 + 1) = szB p.2 - 1 by omega]
    refine ⟨?_, by omega, by rw [e4]; omega, by omega, by omega⟩
    obtain ⟨G, R, rfl, hg, hC2⟩ := hC
    obtain ⟨_, hs2, _⟩ := List.pairwise_append.1 hs
    obtain ⟨_, hs3, _⟩ := List.pairwise_append.1 hs2
    have hp := (live_iff g4 (a2.rg p List.mem_cons_self).1.1).1 (hl p List.mem_cons_self)
    have hall : lvN (p.1 :: R) now v = (p.1 :: R).length := lvN_all (fun x hx => by
      refine ⟨?_, hn x (List.mem_append_right _ hx)⟩
      rcases List.mem_cons.1 hx with rfl | hx
      · exact hp.1
      · have := (List.pairwise_cons.1 hs3).1 x hx; omega)
    rw [lvN_app, hall]
    have := hC2.len
    simp only [totB, List.length_cons]
    omega
end Go.Proofs.Ytinjainclhfahaa

namespace Go.Proofs.Ytinjainclhfahaa
open Go.RowKit
set_option linter.unusedVariables false

theorem Sl.off {w : World} {A : Option Addr} {n p o : Nat} {M : List It} (h : Sl w A n M) (hn : ∀ b o, A = some ⟨b, o, none⟩ → b ≠ p) (x : Value) : Sl (w.setCell ⟨p, o, none⟩ x) A n M := by
  refine ⟨h.1, fun h0 => ?_⟩
  obtain ⟨b, o, e, hc⟩ := h.2 h0
  exact ⟨b, o, e, fun j u hj => (cell_far (fun hp => hn b o e hp.symm)).trans (hc j u hj)⟩
/-- An address that was not there before. -/
def Nw (w : World) (A : Option Addr) : Prop := ∀ b o, A = some ⟨b, o, none⟩ → w.heap.size ≤ b
theorem Nw.up {w w1 : World} {A : Option Addr} (h : Nw w1 A) (hu : Up w w1) : Nw w A := fun b o e => Nat.le_trans hu.size (h b o e)
theorem Nw.off {w : World} {A : Option Addr} {p : Nat} (h : Nw w A) (hp : p < w.heap.size) : ∀ b o, A = some ⟨b, o, none⟩ → b ≠ p := fun b o e => by have := h b o e; omega
end Go.Proofs.Ytinjainclhfahaa

namespace Go.Proofs.Ytinjainclhfahaa
open Go.RowKit
set_option linter.unusedVariables false

theorem appendG (sl e ty : TypeId) (z : Value) (sz bt : Nat) (ht : Try.prog.underlying sl = some (.slice e)) (hinf : (Try.prog.info? e).map (fun i => (i.zero, i.size, i.bytes)) = some (some z, sz, bt)) (hzs : z.cells.size = sz) (hbt : bt ≤ 1000)
    (w0 w : World) (v : Value) (n : Nat) (cs : List Value) (hO : Rw w0 w e sz v n cs) (hu : Up w0 w) (b o m c : Nat) (ds : List Value) (hd : ds.length = m * sz) (h0 : 0 < m) (hcell : ∀ j u, ds[j]? = some u → w.cell? ⟨b, o + j, none⟩ = some u) (hone : ∀ u ∈ ds, u.oneCell' = true) (hlen : n + m ≤ 1000000) :
    ∃ g' k' w', (Builtin.append_ #[sl, sl] ty #[v, .slice (some ⟨b, o, none⟩) m c]).run Try.prog w = .ok (.slice (some ⟨g', 0, none⟩) (n + m) k') w' ∧ Rw w0 w' e sz (.slice (some ⟨g', 0, none⟩) (n + m) k') (n + m) (cs ++ ds) ∧ Up w0 w' ∧
      (w.heap.size ≤ g' ∨ ∃ n0 k0, v = .slice (some ⟨g', 0, none⟩) n0 k0) ∧ ∀ x, x < w.heap.size → x ≠ g' → w'.heap[x]? = w.heap[x]? := by
  obtain ⟨i, hi, hz, hs, hb⟩ := info_parts hinf
  have h63 : n + m ≤ maxLen := by simp only [maxLen]; omega
  have hbase := hu.size
  have hLn : cs.length = n * sz := hO.1
  have hfl : (cs ++ ds).length = (n + m) * sz := by rw [List.length_append, hLn, hd, Nat.add_mul]
  have hbm : (n + m) * bt ≤ 140737488351232 := Nat.le_trans (Nat.mul_le_mul hlen hbt) (by decide)
  have hmm : m * bt ≤ 140737488351232 := Nat.le_trans (Nat.mul_le_mul_right _ (by omega)) hbm
  have hnews : ∀ j u, ds[j]? = some u → w.cell? ((⟨b, o, none⟩ : Addr).add j) = some u := fun j u hj => by rw [add_at]; exact hcell j u hj
  have hl : ds.length = m * i.size := by rw [hd, hs]
  have grown : ∀ (old : Nat), old < n + m →
    (w.drew.alloc (.cells (cs.toArray ++ ds.toArray ++ Builtin.zeroCells z.cells (grownCap w (n + m) old e - (n + m))) e)).ownsRow w0.heap.size e sz
      (.slice (some ⟨w.heap.size, 0, none⟩) (n + m) (grownCap w (n + m) old e)) (n + m) (cs ++ ds) := by
    intro old ho
    have hge := grownCap_ge w (n + m) old e
    have hcm : grownCap w (n + m) old e ≤ maxLen := grownCap_le_maxLen w (n + m) old _ h63
    refine ⟨hfl, .inr ⟨w.heap.size, _, _, rfl, hbase, heap_alloc_new w.drew _, hge, hcm, ?_, ?_⟩⟩
    · simp only [Array.size_append, List.size_toArray, size_zeroCells, hLn, hd, hzs]
      rw [← Nat.add_mul, ← Nat.add_mul, Nat.add_sub_cancel' hge]
    · simp only [Array.toList_append, List.append_assoc]
      rw [← List.append_assoc, ← hfl]
      exact List.take_left
  have fresh : ∀ (ob : Obj) x, x < w.heap.size → x ≠ w.heap.size → (w.drew.alloc ob).heap[x]? = w.heap[x]? := fun ob x h _ => Below.heap_alloc w.drew ob x h
  rcases hO.2 with ⟨rfl, rfl⟩ | ⟨g, cap, cur, rfl, hbg, hg, hnc, hcm, hcs, htake⟩
  · have hx : cs = [] := List.eq_nil_of_length_eq_zero (by rw [hLn, Nat.zero_mul])
    have hr := run_append_nil (P := Try.prog) w sl ty e i _ ht hi hz ⟨b, o, none⟩ m c ds hl hnews (by omega) (by omega) (by rw [hb]; omega)
    have hgr := grown 0 (by omega)
    rw [hx] at hgr ⊢
    simp only [Nat.zero_add, List.nil_append, Array.empty_append] at hgr ⊢
    exact ⟨_, _, _, hr, hgr, hu.drew.alloc _ _, Or.inl (Nat.le_refl _), fresh _⟩
  · by_cases hroom : n + m ≤ cap
    · have hfit : n * i.size + ds.length ≤ cur.size := by rw [hl, hcs, hs, ← Nat.add_mul]; exact Nat.mul_le_mul_right _ hroom
      have hr := run_append_room (P := Try.prog) w sl ty e i ht hi g n cap cur hg ⟨b, o, none⟩ m c ds hl hnews hone hroom hfit
      obtain ⟨h1, h2⟩ := Cp.set w g cur (cur.toList.take (n * i.size) ++ ds ++ cur.toList.drop (n * i.size + ds.length)).toArray _ hg
      refine ⟨g, cap, _, hr, ⟨hfl, .inr ⟨g, cap, _, rfl, hbg, h2, hroom, hcm, ?_, ?_⟩⟩, h1.up w0 hu hbg, Or.inr ⟨_, _, rfl⟩, fun x _ hne => h1.far x hne⟩
      · simp only [List.size_toArray, List.length_append, List.length_take, List.length_drop, Array.length_toList]
        omega
      · rw [hs, htake, ← hfl]
        exact List.take_left
    · have holds : ∀ j u, cs[j]? = some u → w.cell? ((⟨g, 0, none⟩ : Addr).add j) = some u := World.ownsRow.cells (g := g) hO rfl
      have hr := run_append_grow (P := Try.prog) w sl ty e i _ ht hi hz ⟨g, 0, none⟩ n cap cs (by rw [hs]; exact hO.1) holds ⟨b, o, none⟩ m c ds hl hnews (by omega) (by omega) (growslice_fits (by omega) (by rw [hb]; omega))
      exact ⟨_, _, _, hr, grown cap (by omega), hu.drew.alloc _ _, Or.inl (Nat.le_refl _), fresh _⟩


/-- Blocks above p. -/
def Ab (p : Nat) (A : Option Addr) : Prop := ∀ b o, A = some ⟨b, o, none⟩ → p < b
theorem Ab.none_ (p : Nat) : Ab p none := fun _ _ e => by cases e
theorem Ab.off {A : Option Addr} {p q : Nat} (h : Ab p A) (hq : q ≤ p) : ∀ b o, A = some ⟨b, o, none⟩ → b ≠ q := fun b o e => by have := h b o e; omega
theorem Own.lt {w0 w : World} {A : Option Addr} {n k : Nat} {L : List It} (h : Own w0 w (.slice A n k) n L) : ∀ b o, A = some ⟨b, o, none⟩ → b < w.heap.size := Rw.lt (cs := fl L) h
end Go.Proofs.Ytinjainclhfahaa
