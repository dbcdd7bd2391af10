/- append of int64 numbers onto a row of the call's own. -/
import Derived.Test.YtfandjmfkmdofaaGLaw
import Derived.Test.YtfandjmfkmdofaaDBase
namespace Go.Proofs.Ytfandjmfkmdofaa
open Go.RowKit

theorem nl_length (L : List Int) : (nl L).length = L.length := by simp [nl]
theorem nl_append (L M : List Int) : nl (L ++ M) = nl L ++ nl M := by simp [nl]
theorem nl_one (L : List Int) : ∀ u ∈ nl L, u.oneCell' = true := by
  intro u hu
  obtain ⟨x, _, rfl⟩ := List.mem_map.1 hu
  rfl
theorem nl_get {L : List Int} {j : Nat} {u : Value} (h : (nl L)[j]? = some u) : j < L.length ∧ u = .int .i64 (L.getD j 0) := by
  have hj : j < (nl L).length := by
    rcases Nat.lt_or_ge j (nl L).length with h1 | h1
    · exact h1
    · rw [List.getElem?_eq_none h1] at h; cases h
  rw [nl_length] at hj
  refine ⟨hj, ?_⟩
  simp [nl, hj] at h
  simp [List.getD, hj, h]
/-- A row of the call's own (made behind w0) that holds L. -/
def OwnN (w0 w : World) (v : Value) (n : Nat) (L : List Int) : Prop := w.ownsRow w0.heap.size 2 1 v n (nl L)
theorem OwnN.nil (w0 w : World) : OwnN w0 w (.slice none 0 0) 0 [] := ⟨rfl, Or.inl ⟨rfl, rfl⟩⟩
theorem OwnN.sn {w0 w : World} {v : Value} {n : Nat} {L : List Int} (h : OwnN w0 w v n L) : ∃ A c, v = .slice A n c ∧ n ≤ c ∧ Sn w A n L := by
  have hn : L.length = n := by have := h.1; rw [nl_length] at this; omega
  rcases h.2 with ⟨rfl, rfl⟩ | ⟨g, cap, cur, rfl, _, hh, hc, _, hs, ht⟩
  · exact ⟨none, 0, rfl, Nat.le_refl _, hn, fun hx => absurd hx (by omega)⟩
  · refine ⟨some ⟨g, 0, none⟩, cap, rfl, hc, hn, fun _ => ⟨g, 0, rfl, fun j hj => ?_⟩⟩
    rw [Nat.zero_add, cell_of_row w g j cur _ (0, 0) hh]
    have h1 : (nl L)[j]? = some (.int .i64 (L.getD j 0)) := by simp [nl, List.getD, hn, hj]
    rw [← ht, List.getElem?_take] at h1
    split at h1
    · simpa using h1
    · cases h1
theorem OwnN.of_up {w0 w w' : World} {v : Value} {n : Nat} {L : List Int} (h : OwnN w0 w v n L) (hu : Up w w') : OwnN w0 w' v n L := by
  refine ⟨h.1, ?_⟩
  rcases h.2 with h0 | ⟨g, cap, cur, h1, h2, h3, h4⟩
  · exact Or.inl h0
  · exact Or.inr ⟨g, cap, cur, h1, h2, Blk.up (t := 2) h3 hu, h4⟩
theorem appendN_run (ty : TypeId) (w0 w : World) (v : Value) (n : Nat) (L : List Int) (hO : OwnN w0 w v n L) (hu : Up w0 w) (A : Option Addr) (m c : Nat) (M : List Int) (hS : Sn w A m M) (h0 : 0 < m) (hlen : n + m ≤ 1000000) :
    ∃ v' w', (Builtin.append_ #[22, 22] ty #[v, .slice A m c]).run Try.prog w = .ok v' w' ∧ OwnN w0 w' v' (n + m) (L ++ M) ∧ Up w0 w' := by
  obtain ⟨i, hi, hz, hs, hb⟩ := info_parts int64_info
  have ht := Try.underlying22
  have h63 : n + m ≤ maxLen := by simp only [maxLen]; omega
  have hm : M.length = m := hS.1
  have hbase := hu.size
  have hLn : (nl L).length = n := by have := hO.1; omega
  have hfl : (nl L ++ nl M).length = (n + m) * 1 := by rw [List.length_append, hLn, nl_length, hm]; omega
  unfold OwnN
  rw [nl_append]
  obtain ⟨b, o, rfl, hc⟩ := hS.2 h0
  have hnews : ∀ j u, (nl M)[j]? = some u → w.cell? ((⟨b, o, none⟩ : Addr).add j) = some u := fun j u hj => by
    obtain ⟨h1, rfl⟩ := nl_get hj
    rw [add_at]
    exact hc j (by omega)
  have hl : (nl M).length = m * i.size := by rw [nl_length, hm, hs]; omega
  have grown : ∀ (old : Nat), old < n + m →
    (w.drew.alloc (.cells ((nl L).toArray ++ (nl M).toArray ++ Builtin.zeroCells #[.int .i64 0] (grownCap w (n + m) old 2 - (n + m))) 2)).ownsRow w0.heap.size 2 1
      (.slice (some ⟨w.heap.size, 0, none⟩) (n + m) (grownCap w (n + m) old 2)) (n + m) (nl L ++ nl M) := by
    intro old ho
    have hge := grownCap_ge w (n + m) old 2
    have hcm : grownCap w (n + m) old 2 ≤ maxLen := grownCap_le_maxLen w (n + m) old _ h63
    refine ⟨hfl, .inr ⟨w.heap.size, _, _, rfl, hbase, heap_alloc_new w.drew _, hge, hcm, ?_, ?_⟩⟩
    · simp only [Array.size_append, List.size_toArray, size_zeroCells, hLn, hl, hs]
      simp only [List.length_cons, List.length_nil]
      omega
    · simp only [Array.toList_append, List.append_assoc]
      rw [← List.append_assoc, ← hfl]
      exact List.take_left
  rcases hO.2 with ⟨rfl, rfl⟩ | ⟨g, cap, cur, rfl, hbg, hg, hnc, hcm, hcs, htake⟩
  · have hx : nl L = [] := List.eq_nil_of_length_eq_zero hLn
    have hr := run_append_nil (P := Try.prog) w 22 ty 2 i _ ht hi hz ⟨b, o, none⟩ m c (nl M) hl hnews (by omega) (by omega) (by rw [hb]; omega)
    have hgr := grown 0 (by omega)
    rw [hx] at hgr ⊢
    simp only [Nat.zero_add, List.nil_append, Array.empty_append] at hgr ⊢
    exact ⟨_, _, hr, hgr, hu.drew.alloc _ _⟩
  · by_cases hroom : n + m ≤ cap
    · have hfit : n * i.size + (nl M).length ≤ cur.size := by rw [hl, hcs, hs, ← Nat.add_mul]; exact Nat.mul_le_mul_right _ hroom
      have hr := run_append_room (P := Try.prog) w 22 ty 2 i ht hi g n cap cur hg ⟨b, o, none⟩ m c (nl M) hl hnews (nl_one _) hroom hfit
      obtain ⟨h1, h2⟩ := Cp.set w g cur (cur.toList.take (n * i.size) ++ nl M ++ cur.toList.drop (n * i.size + (nl M).length)).toArray _ hg
      refine ⟨_, _, hr, ⟨hfl, .inr ⟨g, cap, _, rfl, hbg, h2, hroom, hcm, ?_, ?_⟩⟩, h1.up w0 hu hbg⟩
      · simp only [List.size_toArray, List.length_append, List.length_take, List.length_drop, Array.length_toList]
        omega
      · rw [hs, htake, ← hfl]
        exact List.take_left
    · have holds : ∀ j u, (nl L)[j]? = some u → w.cell? ((⟨g, 0, none⟩ : Addr).add j) = some u := World.ownsRow.cells (g := g) hO rfl
      have hr := run_append_grow (P := Try.prog) w 22 ty 2 i _ ht hi hz ⟨g, 0, none⟩ n cap (nl L) (by rw [hs]; exact hO.1) holds ⟨b, o, none⟩ m c (nl M) hl hnews (by omega) (by omega) (growslice_fits (by omega) (by rw [hb]; omega))
      exact ⟨_, _, hr, grown cap (by omega), hu.drew.alloc _ _⟩
/-- append of one number, in the world that stands behind its own row of one cell. -/
theorem append1_run (ty : TypeId) (w0 w : World) (A : Option Addr) (n k : Nat) (L : List Int) (x : Int) (hO : OwnN w0 w (.slice A n k) n L) (hu : Up w0 w) (hlen : n + 1 ≤ 1000000) :
    ∃ A' k' w', (Builtin.append_ #[22, 22] ty #[.slice A n k, .slice (some ⟨w.heap.size, 0, none⟩) 1 1]).run Try.prog (w.alloc (.cells #[.int .i64 x] 2)) = .ok (.slice A' (n + 1) k') w' ∧ OwnN w0 w' (.slice A' (n + 1) k') (n + 1) (L ++ [x]) ∧ Up w0 w' := by
  have hB : Bn (w.alloc (.cells #[.int .i64 x] 2)) w.heap.size [x] := Blk.new w _ _
  obtain ⟨v', w', hr, h1, h2⟩ := appendN_run ty w0 (w.alloc (.cells #[.int .i64 x] 2)) (.slice A n k) n L (hO.of_up ((Up.refl _).alloc _ _)) (hu.alloc _ _) (some ⟨w.heap.size, 0, none⟩) 1 1 [x] (hB.sn rfl) (by omega) hlen
  obtain ⟨A', k', rfl, _, _⟩ := h1.sn
  exact ⟨A', k', w', hr, h1, h2⟩
end Go.Proofs.Ytfandjmfkmdofaa
