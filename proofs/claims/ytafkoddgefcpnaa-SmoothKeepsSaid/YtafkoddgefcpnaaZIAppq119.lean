/- Texts of these claims, one after the other. -/
import Derived.Test.YtafkoddgefcpnaaRows
import Derived.Test.YtafkoddgefcpnaaZIBaseq115
import Derived.Test.YtafkoddgefcpnaaZKCutq133
import Derived.Test.YtafkoddgefcpnaaZWMathq1
namespace Go.Proofs.Ytafkoddgefcpnaa
open Go.RowKit
set_option linter.unusedVariables false

theorem appendG (sl e ty : TypeId) (z : Value) (sz bt : Nat) (ht : Try.prog.underlying sl = some (.slice e)) (hinf : (Try.prog.info? e).map (fun i => (i.zero, i.size, i.bytes)) = some (some z, sz, bt)) (hzs : z.cells.size = sz) (hbt : bt ≤ 1000)
    (w0 w : World) (v : Value) (n : Nat) (cs : List Value) (hO : Rw w0 w e sz v n cs) (hu : Up w0 w) (b o m c : Nat) (ds : List Value) (hd : ds.length = m * sz) (h0 : 0 < m) (hcell : ∀ j u, ds[j]? = some u → w.cell? ⟨b, o + j, none⟩ = some u) (hone : ∀ u ∈ ds, u.oneCell' = true) (hlen : n + m ≤ 1000000) :
    ∃ g' k' w', (Builtin.append_ #[sl, sl] ty #[v, .slice (some ⟨b, o, none⟩) m c]).run Try.prog w = .ok (.slice (some ⟨g', 0, none⟩) (n + m) k') w' ∧ Rw w0 w' e sz (.slice (some ⟨g', 0, none⟩) (n + m) k') (n + m) (cs ++ ds) ∧ Up w0 w' ∧
      (w.heap.size ≤ g' ∨ ∃ n0 k0, v = .slice (some ⟨g', 0, none⟩) n0 k0) ∧ ∀ x, x < w.heap.size → x ≠ g' → w'.heap[x]? = w.heap[x]? := by
  obtain ⟨i, hi, hz, hs, hb⟩ := info_parts hinf
  have h63 : n + m ≤ maxLen := by simp only [maxLen]; omega
  have hbase := hu.size
  have hLn : cs.length = n * sz := hO.1
  have hfl : (cs ++ ds).length = (n + m) * sz := by rw [List.length_append, hLn, hd, Nat.add_mul]
  have hbm : (n + m) * bt ≤ 140737488351232 := Nat.le_trans (Nat.mul_le_mul hlen hbt) (by decide)
  have hmm : m * bt ≤ 140737488351232 := Nat.le_trans (Nat.mul_le_mul_right _ (by omega)) hbm
  have hnews : ∀ j u, ds[j]? = some u → w.cell? ((⟨b, o, none⟩ : Addr).add j) = some u := fun j u hj => by rw [add_at]; exact hcell j u hj
  have hl : ds.length = m * i.size := by rw [hd, hs]
  have grown : ∀ (old : Nat), old < n + m →
    (w.drew.alloc (.cells (cs.toArray ++ ds.toArray ++ Builtin.zeroCells z.cells (grownCap w (n + m) old e - (n + m))) e)).ownsRow w0.heap.size e sz
      (.slice (some ⟨w.heap.size, 0, none⟩) (n + m) (grownCap w (n + m) old e)) (n + m) (cs ++ ds) := by
    intro old ho
    have hge := grownCap_ge w (n + m) old e
    have hcm : grownCap w (n + m) old e ≤ maxLen := grownCap_le_maxLen w (n + m) old _ h63
    refine ⟨hfl, .inr ⟨w.heap.size, _, _, rfl, hbase, heap_alloc_new w.drew _, hge, hcm, ?_, ?_⟩⟩
    · simp only [Array.size_append, List.size_toArray, size_zeroCells, hLn, hd, hzs]
      rw [← Nat.add_mul, ← Nat.add_mul, Nat.add_sub_cancel' hge]
    · simp only [Array.toList_append, List.append_assoc]
      rw [← List.append_assoc, ← hfl]
      exact List.take_left
  have fresh : ∀ (ob : Obj) x, x < w.heap.size → x ≠ w.heap.size → (w.drew.alloc ob).heap[x]? = w.heap[x]? := fun ob x h _ => Below.heap_alloc w.drew ob x h
  rcases hO.2 with ⟨rfl, rfl⟩ | ⟨g, cap, cur, rfl, hbg, hg, hnc, hcm, hcs, htake⟩
  · have hx : cs = [] := List.eq_nil_of_length_eq_zero (by rw [hLn, Nat.zero_mul])
    have hr := run_append_nil (P := Try.prog) w sl ty e i _ ht hi hz ⟨b, o, none⟩ m c ds hl hnews (by omega) (by omega) (by rw [hb]; omega)
    have hgr := grown 0 (by omega)
    rw [hx] at hgr ⊢
    simp only [Nat.zero_add, List.nil_append, Array.empty_append] at hgr ⊢
    exact ⟨_, _, _, hr, hgr, hu.drew.alloc _ _, Or.inl (Nat.le_refl _), fresh _⟩
  · by_cases hroom : n + m ≤ cap
    · have hfit : n * i.size + ds.length ≤ cur.size := by rw [hl, hcs, hs, ← Nat.add_mul]; exact Nat.mul_le_mul_right _ hroom
      have hr := run_append_room (P := Try.prog) w sl ty e i ht hi g n cap cur hg ⟨b, o, none⟩ m c ds hl hnews hone hroom hfit
      obtain ⟨h1, h2⟩ := Cp.set w g cur (cur.toList.take (n * i.size) ++ ds ++ cur.toList.drop (n * i.size + ds.length)).toArray _ hg
      refine ⟨g, cap, _, hr, ⟨hfl, .inr ⟨g, cap, _, rfl, hbg, h2, hroom, hcm, ?_, ?_⟩⟩, h1.up w0 hu hbg, Or.inr ⟨_, _, rfl⟩, fun x _ hne => h1.far x hne⟩
      · simp only [List.size_toArray, List.length_append, List.length_take, List.length_drop, Array.length_toList]
        omega
      · rw [hs, htake, ← hfl]
        exact List.take_left
    · have holds : ∀ j u, cs[j]? = some u → w.cell? ((⟨g, 0, none⟩ : Addr).add j) = some u := World.ownsRow.cells (g := g) hO rfl
      have hr := run_append_grow (P := Try.prog) w sl ty e i _ ht hi hz ⟨g, 0, none⟩ n cap cs (by rw [hs]; exact hO.1) holds ⟨b, o, none⟩ m c ds hl hnews (by omega) (by omega) (growslice_fits (by omega) (by rw [hb]; omega))
      exact ⟨_, _, _, hr, grown cap (by omega), hu.drew.alloc _ _, Or.inl (Nat.le_refl _), fresh _⟩


theorem Ab.off {A : Option Addr} {p q : Nat} (h : Ab p A) (hq : q ≤ p) : ∀ b o, A = some ⟨b, o, none⟩ → b ≠ q := fun b o e => by have := h b o e; omega
end Go.Proofs.Ytafkoddgefcpnaa

namespace Go.Proofs.Ytafkoddgefcpnaa
open Go.RowKit
set_option linter.unusedVariables false

section
variable {α : Type} {f : α → List Value} {s : Nat}
theorem flG_app (L M : List α) : flG f (L ++ M) = flG f L ++ flG f M := by
  induction L with
  | nil => rfl
  | cons x L ih => rw [List.cons_append, flG, flG, ih, List.append_assoc]
theorem flG_one (h1 : ∀ x, ∀ u ∈ f x, u.oneCell' = true) (L : List α) : ∀ u ∈ flG f L, u.oneCell' = true := by
  induction L with
  | nil => intro u hu; cases hu
  | cons x L ih =>
    intro u hu
    rw [flG] at hu
    rcases List.mem_append.1 hu with g | g
    · exact h1 x u g
    · exact ih u g
variable {w w' : World} {A : Option Addr} {n : Nat} {L : List α}
theorem SG.off {p o : Nat} (h : SG f w A n L) (hn : ∀ b o, A = some ⟨b, o, none⟩ → b ≠ p) (x : Value) : SG f (w.setCell ⟨p, o, none⟩ x) A n L := by
  refine ⟨h.1, fun h0 => ?_⟩
  obtain ⟨b, o, e, hc⟩ := h.2 h0
  exact ⟨b, o, e, fun j u hj => (cell_far (fun hp => hn b o e hp.symm)).trans (hc j u hj)⟩
theorem OG.of_up {e : TypeId} {w0 : World} {v : Value} (h : OG f e s w0 w v n L) (hu : Up w w') : OG f e s w0 w' v n L := ⟨h.1, h.2.of_up hu⟩
theorem OG.sg {e : TypeId} {w0 : World} {c : Nat} (h : OG f e s w0 w (.slice A n c) n L) : n ≤ c ∧ SG f w A n L := by
  rcases h.2.2 with ⟨h1, h2⟩ | ⟨g, cap, cur, h1, _, hh, hc, _, _, ht⟩
  · injection h1 with h3 h4 h5
    exact ⟨by omega, h.1, fun hx => absurd hx (by omega)⟩
  · injection h1 with h3 h4 h5
    subst h5
    refine ⟨hc, h.1, fun _ => ⟨g, 0, h3, fun j u hj => ?_⟩⟩
    rw [Nat.zero_add, cell_of_row w g j cur _ (0, 0) hh]
    rw [← ht, List.getElem?_take] at hj
    split at hj
    · simpa using hj
    · cases hj
theorem OG.nw {e : TypeId} {w0 : World} {c : Nat} (h : OG f e s w0 w (.slice A n c) n L) : Nw w0 A := by
  intro b o e
  rcases h.2.2 with ⟨h1, _⟩ | ⟨g, cap, cur, h1, h2, _⟩
  · injection h1 with h1; rw [h1] at e; cases e
  · injection h1 with h1
    rw [h1] at e
    injection e with e
    injection e with e1 e2
    omega
end
end Go.Proofs.Ytafkoddgefcpnaa

namespace Go.Proofs.Ytafkoddgefcpnaa
open Go.RowKit
set_option linter.unusedVariables false

section
variable {α : Type} {f : α → List Value} {s : Nat}
variable {w w' : World} {A : Option Addr} {n : Nat} {L : List α}
/-- The cells s[k:], where A' is what the model makes of the address. -/
theorem SG.cut (h : SG f w A n L) (hf : ∀ x, (f x).length = s) {k cap : Nat} (hk : k ≤ n) (hc : n ≤ cap) :
    SG f w (if cap = k then A else A.map (·.add (k * s))) (n - k) (L.drop k) := by
  refine ⟨by rw [List.length_drop, h.1], fun hn => ?_⟩
  obtain ⟨b, o, rfl, hcell⟩ := h.2 (by omega)
  rw [if_neg (by omega)]
  refine ⟨b, o + k * s, by simp [add_at], fun j u hu => ?_⟩
  rw [Nat.add_assoc]
  exact hcell _ u (by rw [← flG_drop hf, List.getElem?_drop] at hu; exact hu)
end
end Go.Proofs.Ytafkoddgefcpnaa

namespace Go.Proofs.Ytafkoddgefcpnaa
open Go.RowKit
set_option linter.unusedVariables false

theorem cM_one (m : Mrk) : ∀ u ∈ cM m, u.oneCell' = true := by
  intro u hu
  simp only [cM, List.mem_cons, List.mem_nil_iff, or_false] at hu
  rcases hu with rfl | rfl | rfl | rfl | rfl | rfl | rfl <;> rfl
theorem Up.set7 {w0 w : World} {p : Nat} {v0 v1 v2 v3 v4 v5 v6 : Value} (h : Up w0 w) (hp : w0.heap.size ≤ p) : Up w0 (((((((w.setCell ⟨p, 0, none⟩ v0).setCell ⟨p, 1, none⟩ v1).setCell ⟨p, 2, none⟩ v2).setCell ⟨p, 3, none⟩ v3).setCell ⟨p, 4, none⟩ v4).setCell ⟨p, 5, none⟩ v5).setCell ⟨p, 6, none⟩ v6) :=
  ((((((h.setCell hp _).setCell hp _).setCell hp _).setCell hp _).setCell hp _).setCell hp _).setCell hp _
theorem SG.off7 {α : Type} {f : α → List Value} {w : World} {A : Option Addr} {n p : Nat} {M : List α} (h : SG f w A n M) (hn : ∀ b o, A = some ⟨b, o, none⟩ → b ≠ p) (v0 v1 v2 v3 v4 v5 v6 : Value) : SG f (((((((w.setCell ⟨p, 0, none⟩ v0).setCell ⟨p, 1, none⟩ v1).setCell ⟨p, 2, none⟩ v2).setCell ⟨p, 3, none⟩ v3).setCell ⟨p, 4, none⟩ v4).setCell ⟨p, 5, none⟩ v5).setCell ⟨p, 6, none⟩ v6) A n M :=
  ((((((h.off hn _).off hn _).off hn _).off hn _).off hn _).off hn _).off hn _
theorem Sl.off7 {w : World} {A : Option Addr} {n p : Nat} {M : List It} (h : Sl w A n M) (hn : ∀ b o, A = some ⟨b, o, none⟩ → b ≠ p) (v0 v1 v2 v3 v4 v5 v6 : Value) : Sl (((((((w.setCell ⟨p, 0, none⟩ v0).setCell ⟨p, 1, none⟩ v1).setCell ⟨p, 2, none⟩ v2).setCell ⟨p, 3, none⟩ v3).setCell ⟨p, 4, none⟩ v4).setCell ⟨p, 5, none⟩ v5).setCell ⟨p, 6, none⟩ v6) A n M :=
  ((((((h.off hn _).off hn _).off hn _).off hn _).off hn _).off hn _).off hn _
theorem cells7 {w : World} {p : Nat} {v0 v1 v2 v3 v4 v5 v6 x0 x1 x2 x3 x4 x5 x6 : Value} (e0 : w.cell? ⟨p, 0, none⟩ = some x0) (e1 : w.cell? ⟨p, 1, none⟩ = some x1) (e2 : w.cell? ⟨p, 2, none⟩ = some x2) (e3 : w.cell? ⟨p, 3, none⟩ = some x3) (e4 : w.cell? ⟨p, 4, none⟩ = some x4) (e5 : w.cell? ⟨p, 5, none⟩ = some x5) (e6 : w.cell? ⟨p, 6, none⟩ = some x6) :
    let W := ((((((w.setCell ⟨p, 0, none⟩ v0).setCell ⟨p, 1, none⟩ v1).setCell ⟨p, 2, none⟩ v2).setCell ⟨p, 3, none⟩ v3).setCell ⟨p, 4, none⟩ v4).setCell ⟨p, 5, none⟩ v5).setCell ⟨p, 6, none⟩ v6
    W.cell? ⟨p, 0, none⟩ = some v0 ∧ W.cell? ⟨p, 1, none⟩ = some v1 ∧ W.cell? ⟨p, 2, none⟩ = some v2 ∧ W.cell? ⟨p, 3, none⟩ = some v3 ∧ W.cell? ⟨p, 4, none⟩ = some v4 ∧ W.cell? ⟨p, 5, none⟩ = some v5 ∧ W.cell? ⟨p, 6, none⟩ = some v6 :=
  ⟨cell_set (cell_set (cell_set (cell_set (cell_set (cell_set (cell_set (e0))))))), cell_set (cell_set (cell_set (cell_set (cell_set (cell_set (cell_set (e1))))))), cell_set (cell_set (cell_set (cell_set (cell_set (cell_set (cell_set (e2))))))), cell_set (cell_set (cell_set (cell_set (cell_set (cell_set (cell_set (e3))))))), cell_set (cell_set (cell_set (cell_set (cell_set (cell_set (cell_set (e4))))))), cell_set (cell_set (cell_set (cell_set (cell_set (cell_set (cell_set (e5))))))), cell_set (cell_set (cell_set (cell_set (cell_set (cell_set (cell_set (e6)))))))⟩
theorem far7 {w : World} {p g o : Nat} {v0 v1 v2 v3 v4 v5 v6 : Value} {u : Value} (h : w.cell? ⟨g, o, none⟩ = some u) (hp : p ≠ g) : (((((((w.setCell ⟨p, 0, none⟩ v0).setCell ⟨p, 1, none⟩ v1).setCell ⟨p, 2, none⟩ v2).setCell ⟨p, 3, none⟩ v3).setCell ⟨p, 4, none⟩ v4).setCell ⟨p, 5, none⟩ v5).setCell ⟨p, 6, none⟩ v6).cell? ⟨g, o, none⟩ = some u :=
  (cell_far hp).trans ((cell_far hp).trans ((cell_far hp).trans ((cell_far hp).trans ((cell_far hp).trans ((cell_far hp).trans ((cell_far hp).trans h))))))
end Go.Proofs.Ytafkoddgefcpnaa

namespace Go.Proofs.Ytafkoddgefcpnaa

theorem okB_iff {g w c now seq : Int} {X : List Mrk} {j : Nat} : OkB g w c now seq X j ↔
    1 ≤ (X.getD j mk0).sq ∧ (X.getD j mk0).sq ≤ seq ∧ (X.getD j mk0).n = seq - (X.getD j mk0).sq + 1 ∧ (X.getD j mk0).n ≤ c ∧ (0 < j → (X.getD (j - 1) mk0).sq < (X.getD j mk0).sq) ∧
    (0 ≤ (X.getD j mk0).t ∧ (X.getD j mk0).t ≤ now) ∧ (0 < j → (X.getD (j - 1) mk0).t ≤ (X.getD j mk0).t) ∧ (0 < j ∨ X.length = 1 → now - w < (X.getD j mk0).t) ∧
    valG g (X.getD j mk0).lo ∧ valG g (X.getD j mk0).hi ∧ (X.getD j mk0).lo ≤ (X.getD j mk0).hi ∧ prtP (X.getD j mk0).n (X.getD j mk0).s (X.getD j mk0).q (X.getD j mk0).lo (X.getD j mk0).hi ∧
    (j + 1 = X.length → (X.getD j mk0).sq = seq ∧ (X.getD j mk0).lo = (X.getD j mk0).s ∧ (X.getD j mk0).hi = (X.getD j mk0).s ∧ (X.getD j mk0).q = (X.getD j mk0).s * (X.getD j mk0).s) ∧
    (0 < j → (X.getD (j - 1) mk0).lo ≤ (X.getD j mk0).lo) ∧ (0 < j → (X.getD j mk0).hi ≤ (X.getD (j - 1) mk0).hi) ∧
    (0 < j → prtP ((X.getD (j - 1) mk0).n - (X.getD j mk0).n) ((X.getD (j - 1) mk0).s - (X.getD j mk0).s) ((X.getD (j - 1) mk0).q - (X.getD j mk0).q) (X.getD (j - 1) mk0).lo (X.getD (j - 1) mk0).hi) :=
  ⟨fun h => ⟨h.sq1, h.sq2, h.num, h.few, h.asc, h.tk, h.tasc, h.live, h.lo, h.hi, h.lohi, h.prt, h.last, h.nlo, h.nhi, h.nprt⟩,
   fun ⟨a1, a2, a3, a4, a5, a6, a7, a8, a9, a10, a11, a12, a13, a14, a15, a16⟩ => ⟨a1, a2, a3, a4, a5, a6, a7, a8, a9, a10, a11, a12, a13, a14, a15, a16⟩⟩
instance (g w c now seq : Int) (X : List Mrk) (j : Nat) : Decidable (OkB g w c now seq X j) := decidable_of_iff' _ okB_iff
/-- Conditions 5 and 6 at a place. -/
def adP (g k : Int) (X : List Mrk) (j : Nat) : Prop :=
  (1 < j → (k + 1) * ofZ g (X.getD j mk0) < k * ofZ g (X.getD (j - 2) mk0)) ∧ (0 < j → (X.getD (j - 1) mk0).sq + 1 < (X.getD j mk0).sq → k * ofZ g (X.getD (j - 1) mk0) ≤ (k + 1) * ofZ g (X.getD j mk0))
instance (g k : Int) (X : List Mrk) (j : Nat) : Decidable (adP g k X j) := by unfold adP; infer_instance
def sqB (seq : Int) : Bool := decide (0 ≤ seq ∧ seq ≤ 1099511627776)
def mrkB (g w c now seq : Int) (X : List Mrk) : Bool := sqB seq && decide (∀ j, j < X.length → OkB g w c now seq X j)
def adB (g k : Int) (X : List Mrk) : Bool := decide (∀ j, j < X.length → adP g k X j)
def stM (g w k c now seq : Int) (X : List Mrk) : Bool := mayM g w k c now && (mrkB g w c now seq X && adB g k X)
theorem agB_true {g : Int} (h : agB g = true) : 1 ≤ g ∧ g ≤ 4 := of_decide_eq_true h
theorem sqB_true {s : Int} (h : sqB s = true) : 0 ≤ s ∧ s ≤ 1099511627776 := of_decide_eq_true h
theorem mayM_true {g w k c now : Int} (h : mayM g w k c now = true) : (1 ≤ g ∧ g ≤ 4) ∧ mayC w k c now = true := by
  unfold mayM at h
  rw [Bool.and_eq_true] at h
  exact ⟨agB_true h.1, h.2⟩
theorem mrkB_true {g w c now seq : Int} {X : List Mrk} (h : mrkB g w c now seq X = true) : (0 ≤ seq ∧ seq ≤ 1099511627776) ∧ ∀ j, j < X.length → OkB g w c now seq X j := by
  unfold mrkB at h
  rw [Bool.and_eq_true, decide_eq_true_eq] at h
  exact ⟨sqB_true h.1, h.2⟩
theorem mrkB_yes {g w c now seq : Int} {X : List Mrk} (h1 : 0 ≤ seq) (h2 : seq ≤ 1099511627776) (h3 : ∀ j, j < X.length → OkB g w c now seq X j) : mrkB g w c now seq X = true := by
  unfold mrkB sqB; rw [decide_eq_true (p := 0 ≤ seq ∧ seq ≤ 1099511627776) ⟨h1, h2⟩, decide_eq_true h3]; rfl
theorem mrkB_bad {g w c now seq : Int} {X : List Mrk} {j : Nat} (hj : j < X.length) (h : ¬ OkB g w c now seq X j) : mrkB g w c now seq X = false := by
  unfold mrkB; rw [decide_eq_false (fun hp => h (hp j hj)), Bool.and_false]
theorem prt_bd {n s q lo hi : Int} (h : prtP n s q lo hi) (h0 : 0 ≤ n) (h1 : -4096 ≤ lo) (h2 : hi ≤ 4096) : -(n * 4096) ≤ s ∧ s ≤ n * 4096 ∧ 0 ≤ q ∧ q ≤ n * 16777216 := by
  obtain ⟨a, b, c, d, e⟩ := h
  have e1 : n * (-4096) ≤ n * lo := Int.mul_le_mul_of_nonneg_left h1 h0
  have e2 : n * hi ≤ n * 4096 := Int.mul_le_mul_of_nonneg_left h2 h0
  exact ⟨by omega, by omega, c, by omega⟩
/-- How great the numbers of a valid mark are. -/
theorem OkB.bd {g w c now seq : Int} {X : List Mrk} {j : Nat} (h : OkB g w c now seq X j) (hc : c ≤ 65536) (hs : seq ≤ 1099511627776) : (1 ≤ (X.getD j mk0).n ∧ (X.getD j mk0).n ≤ 65536) ∧ (-268435456 ≤ (X.getD j mk0).s ∧ (X.getD j mk0).s ≤ 268435456) ∧ (0 ≤ (X.getD j mk0).q ∧ (X.getD j mk0).q ≤ 1099511627776) ∧ (-4096 ≤ (X.getD j mk0).lo ∧ (X.getD j mk0).lo ≤ 4096) ∧ (-4096 ≤ (X.getD j mk0).hi ∧ (X.getD j mk0).hi ≤ 4096) ∧ (1 ≤ (X.getD j mk0).sq ∧ (X.getD j mk0).sq ≤ 1099511627776) := by
  have h1 := h.num
  have h2 := h.few
  have h3 := h.sq2
  have h0 := h.sq1
  have h4 := h.lo
  have h5 := h.hi
  obtain ⟨a, b, c', d⟩ := prt_bd h.prt (by omega) h.lo.1 h.hi.2.1
  exact ⟨⟨by omega, by omega⟩, ⟨by omega, by omega⟩, ⟨c', by omega⟩, ⟨h4.1, h4.2.1⟩, ⟨h5.1, h5.2.1⟩, ⟨h0, by omega⟩⟩
def clM (g k : Int) (a b : Mrk) : Bool := decide (k * ofZ g a ≤ (k + 1) * ofZ g b)
def inM (seq now v : Int) (X : List Mrk) : List Mrk := X.map (incM v) ++ [oneM seq now v]
def adM (g k seq now v : Int) (X : List Mrk) : List Mrk := prL (clM g k) (X.length + 1) (inM (seq + 1) now v X)
def fuM (c seq : Int) (X : List Mrk) : Bool := (decide (0 < X.length) && decide ((X.getD 0 mk0).n = c)) || decide (seq = 1099511627776)
section
variable {g w k c now : Int} {P : List Nat} {I : List It}
end
end Go.Proofs.Ytafkoddgefcpnaa

namespace Go.Proofs.Ytafkoddgefcpnaa

def stME (g w k c now seq : Int) (X : List Mrk) : Int := if stM g w k c now seq X = true then 0 else 2
theorem stME_yes {g w k c now seq : Int} {X : List Mrk} (h : stM g w k c now seq X = true) : stME g w k c now seq X = 0 := if_pos h
theorem stME_no {g w k c now seq : Int} {X : List Mrk} (h : stM g w k c now seq X = false) : stME g w k c now seq X = 2 := if_neg (by rw [h]; exact Bool.false_ne_true)
theorem stM_true {g w k c now seq : Int} {X : List Mrk} (h : stM g w k c now seq X = true) : mayM g w k c now = true ∧ mrkB g w c now seq X = true ∧ adB g k X = true := by
  unfold stM at h
  rw [Bool.and_eq_true, Bool.and_eq_true] at h
  exact ⟨h.1, h.2.1, h.2.2⟩
section
variable {g w k c now : Int} {P : List Nat} {I : List It}
end
end Go.Proofs.Ytafkoddgefcpnaa

namespace Go.Proofs.Ytafkoddgefcpnaa

theorem stM_yes {g w k c now seq : Int} {X : List Mrk} (h1 : mayM g w k c now = true) (h2 : mrkB g w c now seq X = true) (h3 : adB g k X = true) : stM g w k c now seq X = true := by
  unfold stM; rw [h1, h2, h3]; rfl
section
variable {g w k c now : Int} {P : List Nat} {I : List It}
end
end Go.Proofs.Ytafkoddgefcpnaa

namespace Go.Proofs.Ytafkoddgefcpnaa

theorem adB_bad {g k : Int} {X : List Mrk} {j : Nat} (hj : j < X.length) (h : ¬ adP g k X j) : adB g k X = false := decide_eq_false (fun hp => h (hp j hj))
section
variable {g w k c now : Int} {P : List Nat} {I : List It}
end
end Go.Proofs.Ytafkoddgefcpnaa

namespace Go.Proofs.Ytafkoddgefcpnaa

/-- What a tick leaves; whether one mark is close to another; the marks with one more item. -/
def drM (td w : Int) (X : List Mrk) : List Mrk := drL (fun m => liveB td w m.t) X
section
variable {g w k c now : Int} {P : List Nat} {I : List It}
end
end Go.Proofs.Ytafkoddgefcpnaa

namespace Go.Proofs.Ytafkoddgefcpnaa

/-- The answer: from, to. -/
def asM (g now w : Int) : List Mrk → Int × Int
  | [] => (0, 0)
  | a :: R => if liveB now w a.t = true then (ofZ g a, ofZ g a) else match R with
    | [] => (0, 0)
    | b :: _ => if b.sq = a.sq + 1 then (ofZ g b, ofZ g b) else (ofZ g b, ofZ g a)
section
variable {g w k c now : Int} {P : List Nat} {I : List It}
end
end Go.Proofs.Ytafkoddgefcpnaa

namespace Go.Proofs.Ytafkoddgefcpnaa

theorem getD_drop' {α : Type} (L : List α) (a b : Nat) (d : α) : (L.drop a).getD b d = L.getD (a + b) d := by
  rw [List.getD_eq_getElem?_getD, List.getD_eq_getElem?_getD, List.getElem?_drop]
theorem cutL_pru {α : Type} {f : α → Bool} {L : List α} (d : α) {i nx : Nat} (h1 : i + 1 ≤ nx) (h2 : nx < L.length ∨ nx = i + 1) (h3 : i + 1 < nx → f (L.getD nx d) = true) (h4 : ∀ j, nx < j → j < L.length → f (L.getD j d) = false) : cutL f (L.drop (i + 1)) = L.drop nx := by
  by_cases hx : nx = i + 1
  · subst hx
    by_cases hl : i + 1 < L.length
    · cases hf : f (L.getD (i + 1) d) with
      | true =>
        have := cutL_at (f := f) d (R := L.drop (i + 1)) (m := 0) (by rw [List.length_drop]; omega) (by rw [getD_drop']; exact hf) (fun n g1 g2 => by rw [getD_drop']; rw [List.length_drop] at g2; exact h4 _ (by omega) (by omega))
        rwa [List.drop_zero] at this
      | false =>
        refine cutL_none (fun y hy => ?_)
        obtain ⟨n, hn, rfl⟩ := List.mem_iff_getElem.1 hy
        rw [List.length_drop] at hn
        rw [List.getElem_drop]
        have e : L[i + 1 + n]'(by omega) = L.getD (i + 1 + n) d := by rw [List.getD_eq_getElem?_getD, List.getElem?_eq_getElem (by omega)]; rfl
        rw [e]
        rcases Nat.eq_zero_or_pos n with e0 | e0
        · subst e0; exact hf
        · exact h4 _ (by omega) (by omega)
    · rw [List.drop_eq_nil_of_le (by omega)]
      rfl
  · have hl : nx < L.length := by omega
    have := cutL_at (f := f) d (R := L.drop (i + 1)) (m := nx - (i + 1)) (by rw [List.length_drop]; omega) (by rw [getD_drop', show i + 1 + (nx - (i + 1)) = nx by omega]; exact h3 (by omega)) (fun n g1 g2 => by rw [getD_drop']; rw [List.length_drop] at g2; exact h4 _ (by omega) (by omega))
    rw [this, List.drop_drop, show i + 1 + (nx - (i + 1)) = nx by omega]
end Go.Proofs.Ytafkoddgefcpnaa

namespace Go.Proofs.Ytafkoddgefcpnaa

theorem inM_len (s t v : Int) (X : List Mrk) : (inM s t v X).length = X.length + 1 := by unfold inM; simp
end Go.Proofs.Ytafkoddgefcpnaa

namespace Go.Proofs.Ytafkoddgefcpnaa
open Go.RowKit
set_option linter.unusedVariables false

set_option maxHeartbeats 4000000 in
theorem isValue13_any (v g : Int) (w : World) :
    Calls Try.prog 112 #[.int .i64 v, .int .i64 g] w fun e w' => e = .returned (.bool (decide (-4096 ≤ v ∧ v ≤ 4096 ∧ (0 ≤ v ∨ ¬ (g = 2 ∨ g = 3))))) ∧ w = w' := by
  have HB : Hid (∀ _ : ¬ (-4096 ≤ v ∧ v ≤ 4096 ∧ (0 ≤ v ∨ ¬ (g = 2 ∨ g = 3))), decide (-4096 ≤ v ∧ v ≤ 4096 ∧ (0 ≤ v ∨ ¬ (g = 2 ∨ g = 3))) = false) := Lib.hid (fun h => decide_eq_false h)
  have HT : Hid (∀ _ : (-4096 ≤ v ∧ v ≤ 4096 ∧ (0 ≤ v ∨ ¬ (g = 2 ∨ g = 3))), decide (-4096 ≤ v ∧ v ≤ 4096 ∧ (0 ≤ v ∨ ¬ (g = 2 ∨ g = 3))) = true) := Lib.hid (fun h => decide_eq_true h)
  generalize decide (-4096 ≤ v ∧ v ≤ 4096 ∧ (0 ≤ v ∨ ¬ (g = 2 ∨ g = 3))) = r at *
  by_cases h1 : g = 2
  · subst h1
    by_cases h2 : 0 ≤ v
    · by_cases h3 : v ≤ 4096
      · obtain rfl : r = true := HT.out ⟨by omega, h3, Or.inl h2⟩
        clear HB HT
        go_enter Try.func112, Try.ntmps112
        go_wp2
        go_ret
        exact ⟨rfl, rfl⟩
      · obtain rfl : r = false := HB.out (fun h => h3 h.2.1)
        clear HB HT
        go_enter Try.func112, Try.ntmps112
        go_wp2
        go_ret
        exact ⟨rfl, rfl⟩
    · obtain rfl : r = false := HB.out (fun h => h.2.2.elim h2 (fun x => x (Or.inl rfl)))
      clear HB HT
      go_enter Try.func112, Try.ntmps112
      go_wp2
      go_ret
      exact ⟨rfl, rfl⟩
  by_cases h1b : g = 3
  · subst h1b
    clear h1
    by_cases h2 : 0 ≤ v
    · by_cases h3 : v ≤ 4096
      · obtain rfl : r = true := HT.out ⟨by omega, h3, Or.inl h2⟩
        clear HB HT
        go_enter Try.func112, Try.ntmps112
        go_wp2
        go_ret
        exact ⟨rfl, rfl⟩
      · obtain rfl : r = false := HB.out (fun h => h3 h.2.1)
        clear HB HT
        go_enter Try.func112, Try.ntmps112
        go_wp2
        go_ret
        exact ⟨rfl, rfl⟩
    · obtain rfl : r = false := HB.out (fun h => h.2.2.elim h2 (fun x => x (Or.inr rfl)))
      clear HB HT
      go_enter Try.func112, Try.ntmps112
      go_wp2
      go_ret
      exact ⟨rfl, rfl⟩
  have t1 : (g == 2) = false := beq_eq_false_iff_ne.2 h1
  have t2 : (g == 3) = false := beq_eq_false_iff_ne.2 h1b
  have hx : Hid (¬ (g = 2 ∨ g = 3)) := Lib.hid (fun h => h.elim h1 h1b)
  by_cases h2 : -4096 ≤ v
  · by_cases h3 : v ≤ 4096
    · obtain rfl : r = true := HT.out ⟨h2, h3, Or.inr hx.out⟩
      clear HB HT
      go_enter Try.func112, Try.ntmps112
      go_wp2
      go_ret
      exact ⟨rfl, rfl⟩
    · obtain rfl : r = false := HB.out (fun h => h3 h.2.1)
      clear HB HT
      go_enter Try.func112, Try.ntmps112
      go_wp2
      go_ret
      exact ⟨rfl, rfl⟩
  · obtain rfl : r = false := HB.out (fun h => h2 h.1)
    clear HB HT
    go_enter Try.func112, Try.ntmps112
    go_wp2
    go_ret
    exact ⟨rfl, rfl⟩
theorem valG_form {g v : Int} (hg : 1 ≤ g ∧ g ≤ 4) : (-4096 ≤ v ∧ v ≤ 4096 ∧ (0 ≤ v ∨ ¬ (g = 2 ∨ g = 3))) ↔ valG g v := by unfold valG; omega
theorem isValueG_any (v g : Int) (hg : 1 ≤ g ∧ g ≤ 4) (w : World) :
    Calls Try.prog 112 #[.int .i64 v, .int .i64 g] w fun e w' => e = .returned (.bool (decide (valG g v))) ∧ w = w' := by
  rw [show decide (valG g v) = decide (-4096 ≤ v ∧ v ≤ 4096 ∧ (0 ≤ v ∨ ¬ (g = 2 ∨ g = 3))) from decide_eq_decide.2 (valG_form hg).symm]
  exact isValue13_any v g w
theorem isLive13_up (g v q c now sq0 : Int) (nn k : Nat) (A : Option Addr) (sq t n s qq lo hi : Int) (w : World) :
    Calls Try.prog 111 #[.agg #[.int .i64 g, .int .i64 v, .int .i64 q, .int .i64 c, .int .i64 now, .int .i64 sq0, .slice A nn k], .agg #[.int .i64 sq, .int .i64 t, .int .i64 n, .int .i64 s, .int .i64 qq, .int .i64 lo, .int .i64 hi]] w fun e w' => e = .returned (.bool (liveB now v t)) ∧ Up w w' := by
  have KL := Lib.hid (live_any now v t)
  generalize liveB now v t = r at *
  go_enter Try.func111, Try.ntmps111
  go_wp2_with (go_at_call 140; (with_reducible refine (KL.out _).mono ?_); rintro e w' ⟨rfl, rfl⟩)
  go_ret
  exact ⟨rfl, ((Up.refl w).alloc _ _).alloc _ _⟩

theorem fit_facts {n s q lo hi : Int} (h1 : 1 ≤ n) (h2 : n ≤ 65536) (h3 : -4096 ≤ lo) (h4 : lo ≤ 4096) (h5 : -4096 ≤ hi) (h6 : hi ≤ 4096) : (-268435456 ≤ n * lo ∧ n * lo ≤ 268435456) ∧ (-268435456 ≤ n * hi ∧ n * hi ≤ 268435456) ∧ (n * 4096 * 4096 ≤ 1099511627776) := by
  have a1 : n * (-4096) ≤ n * lo := Int.mul_le_mul_of_nonneg_left h3 (by omega)
  have a2 : n * lo ≤ n * 4096 := Int.mul_le_mul_of_nonneg_left h4 (by omega)
  have a3 : n * (-4096) ≤ n * hi := Int.mul_le_mul_of_nonneg_left h5 (by omega)
  have a4 : n * hi ≤ n * 4096 := Int.mul_le_mul_of_nonneg_left h6 (by omega)
  omega
theorem fit_facts2 {n s q lo hi : Int} (h1 : 1 ≤ n) (h2 : n ≤ 65536) (h3 : -4096 ≤ lo) (h4 : lo ≤ 4096) (h5 : -4096 ≤ hi) (h6 : hi ≤ 4096) (a : n * lo ≤ s) (b : s ≤ n * hi) (c : 0 ≤ q) (d : q ≤ n * 4096 * 4096) : (0 ≤ s * s ∧ s * s ≤ 72057594037927936) ∧ (0 ≤ n * q ∧ n * q ≤ 72057594037927936) := by
  obtain ⟨x1, x2, x3⟩ := fit_facts (s := s) (q := q) h1 h2 h3 h4 h5 h6
  have y1 := sq_bd (x := s) (m := 268435456) (by omega) (by omega)
  have y2 := sq_nn s
  have y3 : 0 ≤ n * q := Int.mul_nonneg (by omega) c
  have y4 : n * q ≤ 65536 * q := Int.mul_le_mul_of_nonneg_right h2 c
  omega

set_option maxHeartbeats 4000000 in
set_option maxRecDepth 100000 in
theorem fit13_any (n s q lo hi : Int) (h1 : 1 ≤ n) (h2 : n ≤ 65536) (h3 : -4096 ≤ lo) (h4 : lo ≤ 4096) (h5 : -4096 ≤ hi) (h6 : hi ≤ 4096) (w : World) :
    Calls Try.prog 154 #[.int .i64 n, .int .i64 s, .int .i64 q, .int .i64 lo, .int .i64 hi] w fun e w' => e = .returned (.bool (decide (prtP n s q lo hi))) ∧ w = w' := by
  obtain ⟨⟨x1, x2⟩, ⟨x3, x4⟩, x5⟩ := fit_facts (s := s) (q := q) h1 h2 h3 h4 h5 h6
  have HF := Lib.hid (fit_facts2 (s := s) (q := q) h1 h2 h3 h4 h5 h6)
  have HB : Hid (∀ _ : ¬ (n * lo ≤ s ∧ s ≤ n * hi ∧ 0 ≤ q ∧ q ≤ n * 4096 * 4096 ∧ s * s ≤ n * q), decide (prtP n s q lo hi) = false) := Lib.hid (fun h => decide_eq_false h)
  have HT : Hid (n * lo ≤ s ∧ s ≤ n * hi ∧ 0 ≤ q ∧ q ≤ n * 4096 * 4096 ∧ s * s ≤ n * q → decide (prtP n s q lo hi) = true) := Lib.hid (fun h => decide_eq_true h)
  generalize decide (prtP n s q lo hi) = r at *
  have z1 : 0 ≤ n * 4096 * 4096 := by omega
  by_cases k0 : ¬ (n * lo ≤ s)
  · obtain rfl : r = false := HB.out (fun h => k0 h.1)
    have u0 := Int.not_le.1 k0
    clear HB HT HF
    go_enter Try.func154, Try.ntmps154
    go_wp2
    go_ret
    exact ⟨rfl, rfl⟩
  have k0 := Classical.not_not.1 k0
  have u0 : ¬ (s < n * lo) := Int.not_lt.2 k0
  by_cases k1 : ¬ (s ≤ n * hi)
  · obtain rfl : r = false := HB.out (fun h => k1 h.2.1)
    have u1 := Int.not_le.1 k1
    clear HB HT HF
    go_enter Try.func154, Try.ntmps154
    go_wp2
    go_ret
    exact ⟨rfl, rfl⟩
  have k1 := Classical.not_not.1 k1
  have u1 : ¬ (n * hi < s) := Int.not_lt.2 k1
  by_cases k2 : ¬ (0 ≤ q)
  · obtain rfl : r = false := HB.out (fun h => k2 h.2.2.1)
    have u2 := Int.not_le.1 k2
    clear HB HT HF
    go_enter Try.func154, Try.ntmps154
    go_wp2
    go_ret
    exact ⟨rfl, rfl⟩
  have k2 := Classical.not_not.1 k2
  have u2 : ¬ (q < 0) := Int.not_lt.2 k2
  by_cases k3 : ¬ (q ≤ n * 4096 * 4096)
  · obtain rfl : r = false := HB.out (fun h => k3 h.2.2.2.1)
    have u3 := Int.not_le.1 k3
    clear HB HT HF
    go_enter Try.func154, Try.ntmps154
    go_wp2
    go_ret
    exact ⟨rfl, rfl⟩
  have k3 := Classical.not_not.1 k3
  have u3 : ¬ (n * 4096 * 4096 < q) := Int.not_lt.2 k3
  obtain ⟨⟨y1, y2⟩, y3, y4⟩ := HF.out k0 k1 k2 k3
  by_cases k4 : ¬ (s * s ≤ n * q)
  · obtain rfl : r = false := HB.out (fun h => k4 h.2.2.2.2)
    have u4 := Int.not_le.1 k4
    clear HB HT HF
    go_enter Try.func154, Try.ntmps154
    go_wp2
    go_ret
    exact ⟨rfl, rfl⟩
  have k4 := Classical.not_not.1 k4
  have u4 : ¬ (n * q < s * s) := Int.not_lt.2 k4
  obtain rfl : r = true := HT.out ⟨k0, k1, k2, k3, k4⟩
  clear HB HT HF
  go_enter Try.func154, Try.ntmps154
  go_wp2
  go_ret
  exact ⟨rfl, rfl⟩

end Go.Proofs.Ytafkoddgefcpnaa

namespace Go.Proofs.Ytafkoddgefcpnaa
open Go.RowKit
set_option linter.unusedVariables false

theorem mark_info : (Try.prog.info? 23).map (fun i => (i.zero, i.size, i.bytes)) = some (some (.agg #[.int .i64 0, .int .i64 0, .int .i64 0, .int .i64 0, .int .i64 0, .int .i64 0, .int .i64 0]), 7, 56) := by kernel_rfl
def OwM (w0 w : World) (v : Value) (n : Nat) (L : List Mrk) : Prop := OG cM 23 7 w0 w v n L
theorem appendM (ty : TypeId) (w0 w : World) (v : Value) (n : Nat) (L : List Mrk) (hO : OwM w0 w v n L) (hu : Up w0 w) (A : Option Addr) (m c : Nat) (M : List Mrk) (hS : SG cM w A m M) (hlen : n + m ≤ 1000000) :
    ∃ A' k' w', (Builtin.append_ #[24, 24] ty #[v, .slice A m c]).run Try.prog w = .ok (.slice A' (n + m) k') w' ∧ OwM w0 w' (.slice A' (n + m) k') (n + m) (L ++ M) ∧ Up w0 w' := by
  have hm : M.length = m := hS.1
  have hl0 : L.length = n := hO.1
  by_cases h0 : m = 0
  · subst h0
    have hM : M = [] := List.eq_nil_of_length_eq_zero hm
    subst hM
    obtain ⟨i, hi, hz, hs, hb⟩ := info_parts mark_info
    have ht := Try.underlying24
    have hl : ∀ (x : Addr), (loadCells x 0).run Try.prog w = .ok #[] w := fun x => by simpa using run_loadCells_list (P := Try.prog) w x [] (by simp)
    rcases hO.2.2 with ⟨h1, rfl⟩ | ⟨g, cap, cur, h1, _, hh, hnc, _⟩
    · subst h1
      refine ⟨none, 0, w, ?_, by simpa using hO, hu⟩
      cases A <;> simp [Builtin.append_, run_underlying ht, sizeOf, typeInfo, hi, Builtin.lenOf, Builtin.firstCells, hl]
    · subst h1
      refine ⟨_, cap, w, ?_, by simpa using hO, hu⟩
      cases A <;> simp [Builtin.append_, run_underlying ht, sizeOf, typeInfo, hi, Builtin.lenOf, Builtin.firstCells, hnc, storeCells, hl]
  · obtain ⟨b, o, rfl, hc⟩ := hS.2 (by omega)
    have hz : (Value.agg #[Value.int IntKind.i64 0, Value.int IntKind.i64 0, Value.int IntKind.i64 0, Value.int IntKind.i64 0, Value.int IntKind.i64 0, Value.int IntKind.i64 0, Value.int IntKind.i64 0]).cells.size = 7 := rfl
    obtain ⟨g', k', w', hr, h1, h2, h3, h4⟩ := appendG 24 23 ty _ 7 56 Try.underlying24 mark_info hz (by omega) w0 w v n (flG cM L) hO.2 hu b o m c (flG cM M) (by rw [flG_len cM_len, hm]) (by omega) hc (flG_one cM_one M) hlen
    rw [← flG_app] at h1
    exact ⟨_, k', w', hr, ⟨by rw [List.length_append, hl0, hm], h1⟩, h2⟩
/-- One mark that has just been made. -/
theorem oneM_row (w : World) (m : Mrk) : SG cM (w.alloc (.cells (cM m).toArray 23)) (some ⟨w.heap.size, 0, none⟩) 1 [m] := by
  refine ⟨rfl, fun _ => ⟨w.heap.size, 0, rfl, fun j u hj => ?_⟩⟩
  rw [Nat.zero_add, Blk.cell (Blk.new w _ _)]
  simpa [flG] using hj
theorem append1M (w0 w : World) (A : Option Addr) (n k : Nat) (L : List Mrk) (sq t nn s qq lo hi : Int) (hO : OwM w0 w (.slice A n k) n L) (hu : Up w0 w) (hn : n + 1 ≤ 1000000) :
    ∃ A' k' w', (Builtin.append_ #[24, 24] 24 #[.slice A n k, .slice (some ⟨w.heap.size, 0, none⟩) 1 1]).run Try.prog (w.alloc (.cells #[.int .i64 sq, .int .i64 t, .int .i64 nn, .int .i64 s, .int .i64 qq, .int .i64 lo, .int .i64 hi] 23)) = .ok (.slice A' (n + 1) k') w' ∧ OwM w0 w' (.slice A' (n + 1) k') (n + 1) (L ++ [⟨sq, t, nn, s, qq, lo, hi⟩]) ∧ Up w0 w' :=
  appendM 24 w0 (w.alloc (.cells #[.int .i64 sq, .int .i64 t, .int .i64 nn, .int .i64 s, .int .i64 qq, .int .i64 lo, .int .i64 hi] 23)) (.slice A n k) n L ⟨hO.1, hO.2.of_up ((Up.refl _).alloc _ _)⟩ (hu.alloc _ _) (some ⟨w.heap.size, 0, none⟩) 1 1 [⟨sq, t, nn, s, qq, lo, hi⟩] (oneM_row w ⟨sq, t, nn, s, qq, lo, hi⟩) hn
end Go.Proofs.Ytafkoddgefcpnaa
