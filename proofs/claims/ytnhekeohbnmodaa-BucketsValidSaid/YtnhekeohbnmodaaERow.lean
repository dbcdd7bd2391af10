/- Rows of the call's own, of any element type: append, and what it leaves alone. -/
import Derived.Test.YtnhekeohbnmodaaGLaw
namespace Go.Proofs.Ytnhekeohbnmodaa
open Go.RowKit

/-- A row of the call's own. -/
def Rw (w0 w : World) (e : TypeId) (sz : Nat) (v : Value) (n : Nat) (cs : List Value) : Prop := w.ownsRow w0.heap.size e sz v n cs
theorem Rw.nil (w0 w : World) (e : TypeId) (sz : Nat) : Rw w0 w e sz (.slice none 0 0) 0 [] := ⟨by simp, Or.inl ⟨rfl, rfl⟩⟩
theorem Rw.of_up {w0 w w' : World} {e : TypeId} {sz n : Nat} {v : Value} {cs : List Value} (h : Rw w0 w e sz v n cs) (hu : Up w w') : Rw w0 w' e sz v n cs := by
  refine ⟨h.1, ?_⟩
  rcases h.2 with h0 | ⟨g, cap, cur, h1, h2, h3, h4⟩
  · exact Or.inl h0
  · exact Or.inr ⟨g, cap, cur, h1, h2, Blk.up (t := e) h3 hu, h4⟩
/-- Two addresses in different blocks. -/
def Apt (A B : Option Addr) : Prop := ∀ g o o', A = some ⟨g, o, none⟩ → B = some ⟨g, o', none⟩ → False
theorem Apt.symm {A B : Option Addr} (h : Apt A B) : Apt B A := fun g o o' h1 h2 => h g o' o h2 h1
theorem Apt.none_l {B : Option Addr} : Apt none B := fun _ _ _ h => by cases h
theorem Rw.stay {w0 w w' : World} {e : TypeId} {sz n k g : Nat} {B : Option Addr} {cs : List Value} (h : Rw w0 w e sz (.slice B n k) n cs) (hk : ∀ x t xs, Blk w x t xs → x ≠ g → Blk w' x t xs) (hn : ∀ o, B ≠ some ⟨g, o, none⟩) : Rw w0 w' e sz (.slice B n k) n cs := by
  refine ⟨h.1, ?_⟩
  rcases h.2 with h0 | ⟨g2, cap, cur, h1, h2, h3, h4⟩
  · exact Or.inl h0
  · refine Or.inr ⟨g2, cap, cur, h1, h2, hk g2 e cur h3 (fun e => ?_), h4⟩
    subst e
    cases h1
    exact hn 0 rfl
theorem Rw.lt {w0 w : World} {e : TypeId} {sz n k : Nat} {B : Option Addr} {cs : List Value} (h : Rw w0 w e sz (.slice B n k) n cs) : ∀ g o, B = some ⟨g, o, none⟩ → g < w.heap.size := by
  rintro g o rfl
  rcases h.2 with ⟨h0, _⟩ | ⟨g2, cap, cur, h1, h2, h3, h4⟩
  · cases h0
  · cases h1
    exact Blk.lt (t := e) h3

theorem appendR (sl e ty : TypeId) (z : Value) (sz bt : Nat) (ht : Try.prog.underlying sl = some (.slice e)) (hinf : (Try.prog.info? e).map (fun i => (i.zero, i.size, i.bytes)) = some (some z, sz, bt)) (hzs : z.cells.size = sz) (hbt : bt ≤ 1000)
    (w0 w : World) (v : Value) (n : Nat) (cs : List Value) (hO : Rw w0 w e sz v n cs) (hu : Up w0 w) (b o m c : Nat) (ds : List Value) (hd : ds.length = m * sz) (h0 : 0 < m) (hcell : ∀ j u, ds[j]? = some u → w.cell? ⟨b, o + j, none⟩ = some u) (hone : ∀ u ∈ ds, u.oneCell' = true) (hlen : n + m ≤ 1000000) :
    ∃ g' k' w', (Builtin.append_ #[sl, sl] ty #[v, .slice (some ⟨b, o, none⟩) m c]).run Try.prog w = .ok (.slice (some ⟨g', 0, none⟩) (n + m) k') w' ∧ Rw w0 w' e sz (.slice (some ⟨g', 0, none⟩) (n + m) k') (n + m) (cs ++ ds) ∧ Up w0 w' ∧
      (w.heap.size ≤ g' ∨ ∃ n0 k0, v = .slice (some ⟨g', 0, none⟩) n0 k0) ∧ ∀ x t xs, Blk w x t xs → x ≠ g' → Blk w' x t xs := by
  obtain ⟨i, hi, hz, hs, hb⟩ := info_parts hinf
  have h63 : n + m ≤ maxLen := by simp only [maxLen]; omega
  have hbase := hu.size
  have hLn : cs.length = n * sz := hO.1
  have hfl : (cs ++ ds).length = (n + m) * sz := by rw [List.length_append, hLn, hd, Nat.add_mul]
  have hbm : (n + m) * bt ≤ 140737488351232 := Nat.le_trans (Nat.mul_le_mul hlen hbt) (by decide)
  have hmm : m * bt ≤ 140737488351232 := Nat.le_trans (Nat.mul_le_mul_right _ (by omega)) hbm
  have hnews : ∀ j u, ds[j]? = some u → w.cell? ((⟨b, o, none⟩ : Addr).add j) = some u := fun j u hj => by rw [add_at]; exact hcell j u hj
  have hl : ds.length = m * i.size := by rw [hd, hs]
  have grown : ∀ (old : Nat), old < n + m →
    (w.drew.alloc (.cells (cs.toArray ++ ds.toArray ++ Builtin.zeroCells z.cells (grownCap w (n + m) old e - (n + m))) e)).ownsRow w0.heap.size e sz
      (.slice (some ⟨w.heap.size, 0, none⟩) (n + m) (grownCap w (n + m) old e)) (n + m) (cs ++ ds) := by
    intro old ho
    have hge := grownCap_ge w (n + m) old e
    have hcm : grownCap w (n + m) old e ≤ maxLen := grownCap_le_maxLen w (n + m) old _ h63
    refine ⟨hfl, .inr ⟨w.heap.size, _, _, rfl, hbase, heap_alloc_new w.drew _, hge, hcm, ?_, ?_⟩⟩
    · simp only [Array.size_append, List.size_toArray, size_zeroCells, hLn, hd, hzs]
      rw [← Nat.add_mul, ← Nat.add_mul, Nat.add_sub_cancel' hge]
    · simp only [Array.toList_append, List.append_assoc]
      rw [← List.append_assoc, ← hfl]
      exact List.take_left
  have fresh : ∀ (ob : Obj) x t xs, Blk w x t xs → x ≠ w.heap.size → Blk (w.drew.alloc ob) x t xs := fun ob x t xs h _ => Blk.alloc (Blk.drew h) ob
  rcases hO.2 with ⟨rfl, rfl⟩ | ⟨g, cap, cur, rfl, hbg, hg, hnc, hcm, hcs, htake⟩
  · have hx : cs = [] := List.eq_nil_of_length_eq_zero (by rw [hLn, Nat.zero_mul])
    have hr := run_append_nil (P := Try.prog) w sl ty e i _ ht hi hz ⟨b, o, none⟩ m c ds hl hnews (by omega) (by omega) (by rw [hb]; omega)
    have hgr := grown 0 (by omega)
    rw [hx] at hgr ⊢
    simp only [Nat.zero_add, List.nil_append, Array.empty_append] at hgr ⊢
    exact ⟨_, _, _, hr, hgr, hu.drew.alloc _ _, Or.inl (Nat.le_refl _), fresh _⟩
  · by_cases hroom : n + m ≤ cap
    · have hfit : n * i.size + ds.length ≤ cur.size := by rw [hl, hcs, hs, ← Nat.add_mul]; exact Nat.mul_le_mul_right _ hroom
      have hr := run_append_room (P := Try.prog) w sl ty e i ht hi g n cap cur hg ⟨b, o, none⟩ m c ds hl hnews hone hroom hfit
      obtain ⟨h1, h2⟩ := Cp.set w g cur (cur.toList.take (n * i.size) ++ ds ++ cur.toList.drop (n * i.size + ds.length)).toArray _ hg
      refine ⟨g, cap, _, hr, ⟨hfl, .inr ⟨g, cap, _, rfl, hbg, h2, hroom, hcm, ?_, ?_⟩⟩, h1.up w0 hu hbg, Or.inr ⟨_, _, rfl⟩, fun x t xs hx hne => (h1.far x hne).trans hx⟩
      · simp only [List.size_toArray, List.length_append, List.length_take, List.length_drop, Array.length_toList]
        omega
      · rw [hs, htake, ← hfl]
        exact List.take_left
    · have holds : ∀ j u, cs[j]? = some u → w.cell? ((⟨g, 0, none⟩ : Addr).add j) = some u := World.ownsRow.cells (g := g) hO rfl
      have hr := run_append_grow (P := Try.prog) w sl ty e i _ ht hi hz ⟨g, 0, none⟩ n cap cs (by rw [hs]; exact hO.1) holds ⟨b, o, none⟩ m c ds hl hnews (by omega) (by omega) (growslice_fits (by omega) (by rw [hb]; omega))
      exact ⟨_, _, _, hr, grown cap (by omega), hu.drew.alloc _ _, Or.inl (Nat.le_refl _), fresh _⟩

/-- append of one element, in a world that stands behind its own row of one element; a second row of the call's own stays. -/
theorem appendP (sl e ty : TypeId) (z : Value) (sz bt : Nat) (ht : Try.prog.underlying sl = some (.slice e)) (hinf : (Try.prog.info? e).map (fun i => (i.zero, i.size, i.bytes)) = some (some z, sz, bt)) (hzs : z.cells.size = sz) (hbt : bt ≤ 1000)
    (w0 w : World) (A : Option Addr) (n k : Nat) (cs : List Value) (hO : Rw w0 w e sz (.slice A n k) n cs) (hu : Up w0 w) (g : Nat) (ds : List Value) (hd : ds.length = sz) (hrow : Blk w g e ds.toArray) (hone : ∀ u ∈ ds, u.oneCell' = true) (hlen : n + 1 ≤ 1000000)
    (e' : TypeId) (sz' : Nat) (B : Option Addr) (n' k' : Nat) (cs' : List Value) (hB : Rw w0 w e' sz' (.slice B n' k') n' cs') (hap : Apt A B) :
    ∃ A2 k2 w2, (Builtin.append_ #[sl, sl] ty #[.slice A n k, .slice (some ⟨g, 0, none⟩) 1 1]).run Try.prog w = .ok (.slice A2 (n + 1) k2) w2 ∧ Rw w0 w2 e sz (.slice A2 (n + 1) k2) (n + 1) (cs ++ ds) ∧ Rw w0 w2 e' sz' (.slice B n' k') n' cs' ∧ Apt A2 B ∧ Up w0 w2 := by
  obtain ⟨g', k2, w2, hr, h1, h2, h3, h4⟩ := appendR sl e ty z sz bt ht hinf hzs hbt w0 w (.slice A n k) n cs hO hu g 0 1 1 ds (by omega) (by omega) (fun j u hj => by rw [Nat.zero_add, Blk.cell hrow]; simpa using hj) hone hlen
  have hne : ∀ o, B ≠ some ⟨g', o, none⟩ := fun o hb => by
    rcases h3 with h | ⟨n0, k0, h⟩
    · have := hB.lt g' o hb; omega
    · cases h
      exact hap g' 0 o rfl hb
  exact ⟨_, k2, w2, hr, h1, hB.stay h4 hne, fun x o o' hx hy => by cases hx; exact hne _ hy, h2⟩
end Go.Proofs.Ytnhekeohbnmodaa
