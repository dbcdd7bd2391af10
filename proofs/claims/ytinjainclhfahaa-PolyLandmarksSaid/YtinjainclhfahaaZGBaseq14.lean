/- Texts of these claims, one after the other. -/
import Derived.Test.YtinjainclhfahaaRows
import Derived.Test.YtinjainclhfahaaZGBaseq12
namespace Go.Proofs.Ytinjainclhfahaa
open Go.RowKit

theorem fl_length (L : List It) : (fl L).length = L.length * 2 := by
  induction L with
  | nil => rfl
  | cons p L ih => simp [fl, ih]; omega
theorem fl_append (L M : List It) : fl (L ++ M) = fl L ++ fl M := by
  induction L with
  | nil => rfl
  | cons p L ih => simp [fl, ih]
theorem fl_one (L : List It) : ∀ u ∈ fl L, u.oneCell' = true := by
  induction L with
  | nil => intro u hu; cases hu
  | cons p L ih =>
    intro u hu
    simp only [fl, List.mem_cons] at hu
    rcases hu with rfl | rfl | hu
    · rfl
    · rfl
    · exact ih u hu
section
variable {w w' : World} {g : Nat} {t : TypeId} {cs : Array Value}
end
theorem Bi.sl {w : World} {g n : Nat} {L : List It} (h : Bi w g L) (hn : L.length = n) : Sl w (some ⟨g, 0, none⟩) n L :=
  ⟨hn, fun _ => ⟨g, 0, rfl, fun j u hj => by rw [Nat.zero_add, Blk.cell h j]; simpa using hj⟩⟩
end Go.Proofs.Ytinjainclhfahaa

namespace Go.Proofs.Ytinjainclhfahaa
open Go.ChangeShapes Go.WideShapes Go.ChangeAt Go.RowKit Go.Joins Go.Deep

theorem item_cells : Try.prog.cellsOf 53 = 2 := by kernel_rfl
theorem int64_cells : Try.prog.cellsOf 2 = 1 := by kernel_rfl
section
variable {H : Type} {enc : TypeId × Value → H} {w : World} {base : Nat} {spare : Nat → Bool} {held : Bool}
end
end Go.Proofs.Ytinjainclhfahaa

namespace Go.Proofs.Ytinjainclhfahaa
open Go.RowKit

theorem item_info : (Try.prog.info? 53).map (fun i => (i.zero, i.size, i.bytes)) = some (some (.agg #[.int .i64 0, .int .i64 0]), 2, 16) := by kernel_rfl
theorem Own.sl {w0 w : World} {v : Value} {n : Nat} {L : List It} (h : Own w0 w v n L) : ∃ A c, v = .slice A n c ∧ n ≤ c ∧ Sl w A n L := by
  have hn : L.length = n := by have := h.1; rw [fl_length] at this; omega
  rcases h.2 with ⟨rfl, rfl⟩ | ⟨g, cap, cur, rfl, _, hh, hc, _, hs, ht⟩
  · exact ⟨none, 0, rfl, Nat.le_refl _, hn, fun hx => absurd hx (by omega)⟩
  · refine ⟨some ⟨g, 0, none⟩, cap, rfl, hc, hn, fun _ => ⟨g, 0, rfl, fun j u hj => ?_⟩⟩
    rw [Nat.zero_add, cell_of_row w g j cur _ (0, 0) hh]
    rw [← ht, List.getElem?_take] at hj
    split at hj
    · simpa using hj
    · cases hj
theorem append_run (ty : TypeId) (w0 w : World) (v : Value) (n : Nat) (L : List It) (hO : Own w0 w v n L) (hu : Up w0 w) (A : Option Addr) (m c : Nat) (M : List It) (hS : Sl w A m M) (hlen : n + m ≤ 1000000) :
    ∃ v' w', (Builtin.append_ #[44, 44] ty #[v, .slice A m c]).run Try.prog w = .ok v' w' ∧ Own w0 w' v' (n + m) (L ++ M) ∧ Up w0 w' := by
  obtain ⟨i, hi, hz, hs, hb⟩ := info_parts item_info
  have ht := Try.underlying44
  have h63 : n + m ≤ maxLen := by simp only [maxLen]; omega
  have hm : M.length = m := hS.1
  have hbase := hu.size
  have hfl : (fl L ++ fl M).length = (n + m) * 2 := by rw [List.length_append, hO.1, fl_length, hm]; omega
  unfold Own
  rw [fl_append]
  by_cases h0 : m = 0
  · subst h0
    have hM : M = [] := List.eq_nil_of_length_eq_zero hm
    subst hM
    refine ⟨v, w, ?_, by have := hO; unfold Own at this; simpa [fl] using this, hu⟩
    have hl : ∀ (x : Addr), (loadCells x 0).run Try.prog w = .ok #[] w := fun x => by simpa using run_loadCells_list (P := Try.prog) w x [] (by simp)
    rcases hO.2 with ⟨rfl, rfl⟩ | ⟨g, cap, cur, rfl, _, hh, hnc, _⟩
    · cases A <;> simp [Builtin.append_, run_underlying ht, sizeOf, typeInfo, hi, Builtin.lenOf, Builtin.firstCells, hl]
    · cases A <;> simp [Builtin.append_, run_underlying ht, sizeOf, typeInfo, hi, Builtin.lenOf, Builtin.firstCells, hnc, storeCells, hl]
  · obtain ⟨b, o, rfl, hc⟩ := hS.2 (by omega)
    have hnews : ∀ j u, (fl M)[j]? = some u → w.cell? ((⟨b, o, none⟩ : Addr).add j) = some u := fun j u hj => by rw [add_at]; exact hc j u hj
    have hl : (fl M).length = m * i.size := by rw [fl_length, hm, hs]
    have grown : ∀ (old : Nat), old < n + m →
      (w.drew.alloc (.cells ((fl L).toArray ++ (fl M).toArray ++ Builtin.zeroCells #[.int .i64 0, .int .i64 0] (grownCap w (n + m) old 53 - (n + m))) 53)).ownsRow w0.heap.size 53 2
        (.slice (some ⟨w.heap.size, 0, none⟩) (n + m) (grownCap w (n + m) old 53)) (n + m) (fl L ++ fl M) := by
      intro old ho
      have hge := grownCap_ge w (n + m) old 53
      have hcm : grownCap w (n + m) old 53 ≤ maxLen := grownCap_le_maxLen w (n + m) old _ h63
      refine ⟨hfl, .inr ⟨w.heap.size, _, _, rfl, hbase, heap_alloc_new w.drew _, hge, hcm, ?_, ?_⟩⟩
      · simp only [Array.size_append, List.size_toArray, size_zeroCells, hO.1, hl, hs]
        simp only [List.length_cons, List.length_nil]
        omega
      · simp only [Array.toList_append, List.append_assoc]
        rw [← List.append_assoc, ← hfl]
        exact List.take_left
    rcases hO.2 with ⟨rfl, rfl⟩ | ⟨g, cap, cur, rfl, hbg, hg, hnc, hcm, hcs, htake⟩
    · have hx : fl L = [] := List.eq_nil_of_length_eq_zero (by simpa using hO.1)
      have hr := run_append_nil (P := Try.prog) w 44 ty 53 i _ ht hi hz ⟨b, o, none⟩ m c (fl M) hl hnews (by omega) (by omega) (by rw [hb]; omega)
      have hgr := grown 0 (by omega)
      rw [hx] at hgr ⊢
      simp only [Nat.zero_add, List.nil_append, Array.empty_append] at hgr ⊢
      exact ⟨_, _, hr, hgr, hu.drew.alloc _ _⟩
    · by_cases hroom : n + m ≤ cap
      · have hfit : n * i.size + (fl M).length ≤ cur.size := by rw [hl, hcs, hs, ← Nat.add_mul]; exact Nat.mul_le_mul_right _ hroom
        have hr := run_append_room (P := Try.prog) w 44 ty 53 i ht hi g n cap cur hg ⟨b, o, none⟩ m c (fl M) hl hnews (fl_one _) hroom hfit
        obtain ⟨h1, h2⟩ := Cp.set w g cur (cur.toList.take (n * i.size) ++ fl M ++ cur.toList.drop (n * i.size + (fl M).length)).toArray _ hg
        refine ⟨_, _, hr, ⟨hfl, .inr ⟨g, cap, _, rfl, hbg, h2, hroom, hcm, ?_, ?_⟩⟩, h1.up w0 hu hbg⟩
        · simp only [List.size_toArray, List.length_append, List.length_take, List.length_drop, Array.length_toList]
          omega
        · rw [hs, htake, ← hfl]
          exact List.take_left
      · have holds : ∀ j u, (fl L)[j]? = some u → w.cell? ((⟨g, 0, none⟩ : Addr).add j) = some u := World.ownsRow.cells (g := g) hO rfl
        have hr := run_append_grow (P := Try.prog) w 44 ty 53 i _ ht hi hz ⟨g, 0, none⟩ n cap (fl L) (by rw [hs]; exact hO.1) holds ⟨b, o, none⟩ m c (fl M) hl hnews (by omega) (by omega) (growslice_fits (by omega) (by rw [hb]; omega))
        exact ⟨_, _, hr, grown cap (by omega), hu.drew.alloc _ _⟩

theorem one_new (w : World) (p0 p1 : Int) : Sl (w.alloc (.cells #[.int .i64 p0, .int .i64 p1] 53)) (some ⟨w.heap.size, 0, none⟩) 1 [(p0, p1)] :=
  Bi.sl (L := [(p0, p1)]) (Blk.new w _ _) rfl

section
variable {w w1 w2 : World} {p g : Nat}
end

section
variable {w w' : World} {p g c h l : Nat} {L : List It}
end
end Go.Proofs.Ytinjainclhfahaa

namespace Go.Proofs.Ytinjainclhfahaa

/-- The moment: values times a power of their ages. -/
def momZ (land : Int) (j : Nat) : List It → Int
  | [] => 0
  | x :: I => x.2 * (x.1 - land + 1) ^ j + momZ land j I
theorem mom_app (land : Int) (j : Nat) (A B : List It) : momZ land j (A ++ B) = momZ land j A + momZ land j B := by
  induction A with
  | nil => simp [momZ]
  | cons x A ih => simp only [List.cons_append, momZ, ih]; omega
theorem mom_push (land : Int) (j : Nat) (A : List It) (t v : Int) : momZ land j (A ++ [(t, v)]) = momZ land j A + v * (t - land + 1) ^ j := by
  rw [mom_app]; simp [momZ]
/-- Items with ages from 1 on and values of at least 0. -/
def okM (land now : Int) (A : List It) : Prop := ∀ x ∈ A, land ≤ x.1 ∧ x.1 ≤ now ∧ 0 ≤ x.2 ∧ x.2 ≤ 4096
theorem okM.tail {land now : Int} {x : It} {A : List It} (h : okM land now (x :: A)) : okM land now A := fun y hy => h y (List.mem_cons_of_mem _ hy)
theorem pow_one_le {a : Int} (h : 1 ≤ a) : ∀ j : Nat, 1 ≤ a ^ j := by
  intro j
  induction j with
  | zero => simp
  | succ j ih => rw [Int.pow_succ]; have := Int.mul_le_mul ih h (by omega) (by omega); omega
theorem mom_nn {land now : Int} (j : Nat) : ∀ {A : List It}, okM land now A → 0 ≤ momZ land j A := by
  intro A
  induction A with
  | nil => intro _; exact Int.le_refl _
  | cons x A ih =>
    intro h
    have h1 := h x List.mem_cons_self
    have h2 := ih h.tail
    have h3 := Int.mul_nonneg h1.2.2.1 (show 0 ≤ (x.1 - land + 1) ^ j by have := pow_one_le (show 1 ≤ x.1 - land + 1 by omega) j; omega)
    simp only [momZ]; omega
/-- Moments ascend, by at most the greatest age. -/
theorem mom_up {land now : Int} (j : Nat) : ∀ {A : List It}, okM land now A → momZ land j A ≤ momZ land (j + 1) A ∧ momZ land (j + 1) A ≤ momZ land j A * (now - land + 1) := by
  intro A
  induction A with
  | nil => intro _; simp [momZ]
  | cons x A ih =>
    intro h
    have h1 := h x List.mem_cons_self
    obtain ⟨h2, h3⟩ := ih h.tail
    have hp := pow_one_le (show 1 ≤ x.1 - land + 1 by omega) j
    have e : x.2 * (x.1 - land + 1) ^ (j + 1) = x.2 * (x.1 - land + 1) ^ j * (x.1 - land + 1) := by rw [Int.pow_succ]; ac_rfl
    have hv : 0 ≤ x.2 * (x.1 - land + 1) ^ j := Int.mul_nonneg h1.2.2.1 (by omega)
    have h4 := Int.mul_le_mul_of_nonneg_left (show 1 ≤ x.1 - land + 1 by omega) hv
    have h5 := Int.mul_le_mul_of_nonneg_left (show x.1 - land + 1 ≤ now - land + 1 by omega) hv
    simp only [momZ]
    rw [e, Int.add_mul]
    omega
theorem mom_le {land now : Int} (j : Nat) : ∀ {A : List It}, okM land now A → land ≤ now → momZ land j A ≤ (A.length : Int) * (4096 * (now - land + 1) ^ j) := by
  intro A
  induction A with
  | nil => intro _ _; simp [momZ]
  | cons x A ih =>
    intro h hl
    have h1 := h x List.mem_cons_self
    have h2 := ih h.tail hl
    have h3 := pow_le_p (show 0 ≤ x.1 - land + 1 by omega) (show x.1 - land + 1 ≤ now - land + 1 by omega) j
    have h4 := pow_one_le (show 1 ≤ x.1 - land + 1 by omega) j
    have h5 := Int.mul_le_mul h1.2.2.2 h3 (by omega) (by omega)
    simp only [momZ, List.length_cons]
    rw [show ((A.length + 1 : Nat) : Int) = (A.length : Int) + 1 by omega, Int.add_mul, Int.one_mul]
    omega
end Go.Proofs.Ytinjainclhfahaa

namespace Go.Proofs.Ytinjainclhfahaa

/-- The moments about an earlier landmark. -/
theorem mom_re0 (land d : Int) (A : List It) : momZ (land - d) 0 A = momZ land 0 A := by
  induction A with
  | nil => rfl
  | cons x A ih => simp only [momZ, ih, Int.pow_zero]
theorem mom_re1 (land d : Int) (A : List It) : momZ (land - d) 1 A = d * momZ land 0 A + momZ land 1 A := by
  induction A with
  | nil => simp [momZ]
  | cons x A ih => simp only [momZ, ih]; grind
theorem mom_re2 (land d : Int) (A : List It) : momZ (land - d) 2 A = d ^ 2 * momZ land 0 A + 2 * d * momZ land 1 A + momZ land 2 A := by
  induction A with
  | nil => simp [momZ]
  | cons x A ih => simp only [momZ, ih]; grind
theorem mom_re3 (land d : Int) (A : List It) : momZ (land - d) 3 A = d ^ 3 * momZ land 0 A + 3 * d ^ 2 * momZ land 1 A + 3 * d * momZ land 2 A + momZ land 3 A := by
  induction A with
  | nil => simp [momZ]
  | cons x A ih => simp only [momZ, ih]; grind
theorem mom_re4 (land d : Int) (A : List It) : momZ (land - d) 4 A = d ^ 4 * momZ land 0 A + 4 * d ^ 3 * momZ land 1 A + 6 * d ^ 2 * momZ land 2 A + 4 * d * momZ land 3 A + momZ land 4 A := by
  induction A with
  | nil => simp [momZ]
  | cons x A ih => simp only [momZ, ih]; grind
end Go.Proofs.Ytinjainclhfahaa
