/- A suffix that is close to a longer one stays within the K-th part of its spread, whatever items follow: as rational numbers. No program is named here. -/
import Derived.Test.YtafkoddgefcpnabRows
import Derived.Test.YtafkoddgefcpnabZBWithinq85
namespace Go.Proofs.Ytafkoddgefcpnab

/-- The mark of values. -/
def mkV (sq t : Int) (A : List Int) : Mrk := ⟨sq, t, A.length, suL A, sqL A, mnL A, mxL A⟩
theorem myM_mkV {sq t : Int} {A : List Int} (h : ∀ x ∈ A, -4096 ≤ x ∧ x ≤ 4096) (h0 : A ≠ []) (hl : A.length ≤ 65536) : myM (mkV sq t A) = true := by
  have h1 := suL_ge (fun x hx => (h x hx).1)
  have h2 := suL_le (fun x hx => (h x hx).2)
  have h3 := sqL_le (A := A) (m := 4096) (fun x hx => h x hx)
  have h4 := sqL_nn A
  have h5 := cauchy A
  have h6 : 0 < A.length := List.length_pos_iff.2 h0
  rw [show (4096 : Int) * 4096 = 16777216 from rfl] at h3
  refine decide_eq_true ?_
  show 1 ≤ (A.length : Int) ∧ (A.length : Int) ≤ 65536 ∧ -((A.length : Int) * 4096) ≤ suL A ∧ suL A ≤ (A.length : Int) * 4096 ∧ 0 ≤ sqL A ∧ sqL A ≤ (A.length : Int) * 16777216 ∧ suL A * suL A ≤ (A.length : Int) * sqL A
  generalize A.length = n at *
  exact ⟨by omega, by omega, by omega, by omega, h4, by omega, h5⟩
theorem clQ_mkV {k sq t sq2 t2 : Int} {A B : List Int} (hk : 1 ≤ k ∧ k ≤ 64) (ha : myM (mkV sq t A) = true) (hb : myM (mkV sq2 t2 B) = true) : clQ k (mkV sq t A) (mkV sq2 t2 B) = true ↔ clW k A B := by
  rw [clQ_form ha hb hk]
  rw [Bool.and_eq_true, decide_eq_true_eq, decide_eq_true_eq]
  unfold clW
  have e1 : spM (mkV sq t A) * ((6 * k - 1) * (mkV sq2 t2 B).n) = (6 * k - 1) * ((B.length : Int) * spW A) := by
    show spW A * ((6 * k - 1) * (B.length : Int)) = _
    ac_rfl
  have e2 : spM (mkV sq2 t2 B) * (6 * k * (mkV sq t A).n) = 6 * k * ((A.length : Int) * spW B) := by
    show spW B * (6 * k * (A.length : Int)) = _
    ac_rfl
  rw [e1, e2]
  exact Iff.rfl
/-- The spread of values as a reduced fraction. -/
theorem spr_mk {L : List It} (h : ∀ x ∈ L, -4096 ≤ x.2 ∧ x.2 ≤ 4096) (h0 : L ≠ []) (hl : L.length ≤ 65536) : sprN L = quoN (spW (L.map (fun x => x.2))) L.length ∧ sprD L = quoD (spW (L.map (fun x => x.2))) L.length ∧ quoB (spW (L.map (fun x => x.2))) L.length = true ∧ sprB L = true ∧ 0 ≤ spW (L.map (fun x => x.2)) ∧ 1 ≤ (L.length : Int) := by
  have hm := myM_mkV (sq := 0) (t := 0) (A := L.map (fun x => x.2)) (fun y hy => by
    obtain ⟨x, hx, rfl⟩ := List.mem_map.1 hy
    exact h x hx) (by simpa using h0) (by rw [List.length_map]; exact hl)
  have hf := spM_fit hm
  have hb := (myM_bd hm).2.2.2.2.2.1
  have h1 := (myM_true hm).1
  have e1 : spM (mkV 0 0 (L.map (fun x => x.2))) = spW (L.map (fun x => x.2)) := rfl
  have e2 : (mkV 0 0 (L.map (fun x => x.2))).n = (L.length : Int) := by show ((L.map (fun x => x.2)).length : Int) = _; rw [List.length_map]
  rw [e1, e2] at hf
  rw [e1] at hb
  rw [e2] at h1
  unfold sprN sprD sprB
  rw [if_neg h0, if_neg h0, if_neg h0, dv_sp]
  exact ⟨rfl, rfl, hf, hf, hb, h1⟩
theorem later_wi {k : Int} {D B C : List It} (hk : 1 ≤ k) (hs : ∀ x ∈ D ++ B ++ C, -4096 ≤ x.2 ∧ x.2 ≤ 4096) (hl : (D ++ B ++ C).length ≤ 65536) (hB : B ≠ []) (hc : clW k ((D ++ B).map (fun x => x.2)) (B.map (fun x => x.2))) :
    wiB (sprN (B ++ C)) (sprD (B ++ C)) (sprN (B ++ C)) (sprD (B ++ C)) (sprN (D ++ B ++ C)) (sprD (D ++ B ++ C)) k (sprN (B ++ C)) (sprD (B ++ C)) = true ∧ In (sprN (B ++ C)) ∧ In (sprD (B ++ C)) ∧ In (sprN (D ++ B ++ C)) ∧ In (sprD (D ++ B ++ C)) ∧ sprB (B ++ C) = true ∧ sprB (D ++ B ++ C) = true := by
  obtain ⟨x1, x2, x3, x4, x5, x6⟩ := spr_mk (L := D ++ B ++ C) hs (by simp [hB]) hl
  obtain ⟨y1, y2, y3, y4, y5, y6⟩ := spr_mk (L := B ++ C) (fun x hx => hs x (by
    rw [List.append_assoc]; exact List.mem_append_right _ hx)) (by simp [hB]) (by rw [List.length_append, List.length_append] at hl; rw [List.length_append]; omega)
  obtain ⟨_, i1, i2, v1, n1⟩ := quo_yes x3
  obtain ⟨_, i3, i4, v2, n2⟩ := quo_yes y3
  rw [x1, x2, y1, y2]
  rw [List.map_append] at hc
  have h1 := spW_later (k := k) (D := D.map (fun x => x.2)) (B := B.map (fun x => x.2)) (C.map (fun x => x.2)) hk (by simpa using hB) hc
  have h2 := spW_suffix (D.map (fun x => x.2)) ((B ++ C).map (fun x => x.2))
  rw [← List.map_append, List.append_assoc, ← List.map_append, ← List.map_append] at h1
  rw [← List.map_append] at h2
  have e1 : D ++ (B ++ C) = D ++ B ++ C := (List.append_assoc D B C).symm
  rw [e1] at h1 h2
  rw [List.length_map, List.length_map] at h1 h2
  generalize spW ((D ++ B ++ C).map (fun x => x.2)) = wx at *
  generalize spW ((B ++ C).map (fun x => x.2)) = wy at *
  generalize ((D ++ B ++ C).length : Int) = nx at *
  generalize ((B ++ C).length : Int) = ny at *
  have hle : wy * nx ≤ wx * ny := by rw [Int.mul_comm, Int.mul_comm wx]; exact h2
  have hb := bvB_mk v2 v2 v1 (rat_le y3 y3 y6 y6 (Int.le_refl _)) (rat_le y3 x3 y6 x6 hle)
  have hnn : 0 ≤ quoN wy ny := by
    have d0 := (validB_of v2).1
    have : 0 ≤ quoN wy ny * ny := by rw [n2]; exact Int.mul_nonneg y5 (by omega)
    exact Int.nonneg_of_mul_nonneg_left this (by omega)
  refine ⟨?_, i3, i4, i1, i2, y4, x4⟩
  rw [wiB_main hb hk v2 hnn]
  refine decide_eq_true (rat_within y3 x3 y3 y6 x6 y6 ?_)
  have s1 : k * (wx * ny - wy * nx) ≤ wy * nx := by
    have t1 : k * (ny * wx) = k * (wx * ny) := by rw [Int.mul_comm ny]
    have t2 : (k + 1) * (nx * wy) = k * (wy * nx) + wy * nx := by rw [Int.add_mul, Int.one_mul, Int.mul_comm nx]
    rw [Int.mul_sub]
    omega
  have s2 := Int.mul_le_mul_of_nonneg_right s1 (show 0 ≤ ny by omega)
  have t3 : wy * nx * ny = wy * (ny * nx) := by ac_rfl
  omega
end Go.Proofs.Ytafkoddgefcpnab
