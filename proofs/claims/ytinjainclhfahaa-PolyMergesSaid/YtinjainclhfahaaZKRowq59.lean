/- Texts of these claims, one after the other. -/
import Derived.Test.YtinjainclhfahaaRows
import Derived.Test.YtinjainclhfahaaZESumq64
import Derived.Test.YtinjainclhfahaaZIMathq52
namespace Go.Proofs.Ytinjainclhfahaa
open Go.RowKit
set_option linter.unusedVariables false

/-- The cells of a list of elements. -/
def flG {α : Type} (f : α → List Value) : List α → List Value
  | [] => []
  | x :: L => f x ++ flG f L
section
variable {α : Type} {f : α → List Value} {s : Nat}
theorem flG_len (hf : ∀ x, (f x).length = s) (L : List α) : (flG f L).length = L.length * s := by
  induction L with
  | nil => simp [flG]
  | cons x L ih => rw [flG, List.length_append, ih, hf, List.length_cons, Nat.add_mul]; omega
theorem flG_app (L M : List α) : flG f (L ++ M) = flG f L ++ flG f M := by
  induction L with
  | nil => rfl
  | cons x L ih => rw [List.cons_append, flG, flG, ih, List.append_assoc]
theorem flG_drop (hf : ∀ x, (f x).length = s) (L : List α) : ∀ k, (flG f L).drop (k * s) = flG f (L.drop k) := by
  induction L with
  | nil => intro k; simp [flG]
  | cons x L ih =>
    intro k
    cases k with
    | zero => simp
    | succ k =>
      rw [flG, List.drop_append, List.drop_eq_nil_of_le (by rw [hf, Nat.add_mul]; omega), hf, List.nil_append, show (k + 1) * s - s = k * s by rw [Nat.add_mul]; omega, ih]
      rfl
theorem flG_get (hf : ∀ x, (f x).length = s) {L : List α} {k i : Nat} (d : α) (h : k < L.length) (hi : i < s) : (flG f L)[k * s + i]? = (f (L.getD k d))[i]? := by
  have e := flG_drop hf L k
  rw [← List.getElem?_drop, e]
  have : L.drop k = L.getD k d :: L.drop (k + 1) := by
    rw [List.drop_eq_getElem_cons h]; simp [List.getD, h]
  rw [this, flG, List.getElem?_append_left (by rw [hf]; exact hi)]
theorem flG_one (h1 : ∀ x, ∀ u ∈ f x, u.oneCell' = true) (L : List α) : ∀ u ∈ flG f L, u.oneCell' = true := by
  induction L with
  | nil => intro u hu; cases hu
  | cons x L ih =>
    intro u hu
    rw [flG] at hu
    rcases List.mem_append.1 hu with g | g
    · exact h1 x u g
    · exact ih u g
/-- A slice that reads as the list L. -/
def SG (f : α → List Value) (w : World) (A : Option Addr) (n : Nat) (L : List α) : Prop :=
  L.length = n ∧ (0 < n → ∃ b o, A = some ⟨b, o, none⟩ ∧ ∀ j u, (flG f L)[j]? = some u → w.cell? ⟨b, o + j, none⟩ = some u)
variable {w w' : World} {A : Option Addr} {n : Nat} {L : List α}
theorem SG.none_ {A : Option Addr} : SG f w A 0 ([] : List α) := ⟨rfl, fun h => absurd h (by omega)⟩
theorem SG.at_ (h : SG f w A n L) (hf : ∀ x, (f x).length = s) (d : α) {k : Nat} (hk : k < n) :
    ∃ b o, A = some ⟨b, o, none⟩ ∧ ∀ i u, i < s → (f (L.getD k d))[i]? = some u → w.cell? ⟨b, o + k * s + i, none⟩ = some u := by
  obtain ⟨b, o, e, hc⟩ := h.2 (by omega)
  refine ⟨b, o, e, fun i u hi hu => ?_⟩
  rw [Nat.add_assoc]
  exact hc _ u (by rw [flG_get hf d (by rw [h.1]; exact hk) hi]; exact hu)
theorem SG.up (h : SG f w A n L) (hu : Up w w') : SG f w' A n L :=
  ⟨h.1, fun hn => by
    obtain ⟨b, o, e, hc⟩ := h.2 hn
    exact ⟨b, o, e, fun j u hj => hu.keep _ _ _ (hc j u hj)⟩⟩
theorem SG.off {p o : Nat} (h : SG f w A n L) (hn : ∀ b o, A = some ⟨b, o, none⟩ → b ≠ p) (x : Value) : SG f (w.setCell ⟨p, o, none⟩ x) A n L := by
  refine ⟨h.1, fun h0 => ?_⟩
  obtain ⟨b, o, e, hc⟩ := h.2 h0
  exact ⟨b, o, e, fun j u hj => (cell_far (fun hp => hn b o e hp.symm)).trans (hc j u hj)⟩
theorem SG.out (hs : 0 < s) (hf : ∀ x, (f x).length = s) (h : SG f w A n L) (hn : 0 < n) : ∃ b o, A = some ⟨b, o, none⟩ ∧ b < w.heap.size := by
  obtain ⟨b, o, e, hc⟩ := h.2 hn
  have hl : 0 < (flG f L).length := by rw [flG_len hf, h.1]; exact Nat.mul_pos hn hs
  obtain ⟨u, hu⟩ : ∃ u, (flG f L)[0]? = some u := ⟨_, List.getElem?_eq_getElem hl⟩
  exact ⟨b, o, e, World.block_lt_of_cell? _ _ (hc 0 u hu)⟩
/-- A row of the call's own that holds L. -/
def OG (f : α → List Value) (e : TypeId) (s : Nat) (w0 w : World) (v : Value) (n : Nat) (L : List α) : Prop := L.length = n ∧ Rw w0 w e s v n (flG f L)
theorem OG.nil (e : TypeId) (w0 w : World) : OG f e s w0 w (.slice none 0 0) 0 ([] : List α) := ⟨rfl, Rw.nil _ _ _ _⟩
theorem OG.sg {e : TypeId} {w0 : World} {c : Nat} (h : OG f e s w0 w (.slice A n c) n L) : n ≤ c ∧ SG f w A n L := by
  rcases h.2.2 with ⟨h1, h2⟩ | ⟨g, cap, cur, h1, _, hh, hc, _, _, ht⟩
  · injection h1 with h3 h4 h5
    exact ⟨by omega, h.1, fun hx => absurd hx (by omega)⟩
  · injection h1 with h3 h4 h5
    subst h5
    refine ⟨hc, h.1, fun _ => ⟨g, 0, h3, fun j u hj => ?_⟩⟩
    rw [Nat.zero_add, cell_of_row w g j cur _ (0, 0) hh]
    rw [← ht, List.getElem?_take] at hj
    split at hj
    · simpa using hj
    · cases hj
theorem OG.nw {e : TypeId} {w0 : World} {c : Nat} (h : OG f e s w0 w (.slice A n c) n L) : Nw w0 A := by
  intro b o e
  rcases h.2.2 with ⟨h1, _⟩ | ⟨g, cap, cur, h1, h2, _⟩
  · injection h1 with h1; rw [h1] at e; cases e
  · injection h1 with h1
    rw [h1] at e
    injection e with e
    injection e with e1 e2
    omega
theorem OG.lt {e : TypeId} {w0 : World} {c : Nat} (h : OG f e s w0 w (.slice A n c) n L) : ∀ b o, A = some ⟨b, o, none⟩ → b < w.heap.size := Rw.lt h.2
/-- An empty row of the call's own. -/
theorem OG.fresh {e : TypeId} {w0 : World} (hu : w0.heap.size ≤ w.heap.size) (cs : Array Value) (hs : cs.size = 0) : OG f e s w0 (w.alloc (.cells cs e)) (.slice (some ⟨w.heap.size, 0, none⟩) 0 0) 0 ([] : List α) := by
  refine ⟨rfl, by simp [flG], Or.inr ⟨w.heap.size, 0, cs, rfl, hu, heap_alloc_new w _, Nat.le_refl _, by simp [maxLen], by rw [hs]; simp, by simp [flG]⟩⟩
end
end Go.Proofs.Ytinjainclhfahaa

namespace Go.Proofs.Ytinjainclhfahaa
open Go.RowKit
set_option linter.unusedVariables false

section
variable {α : Type} {f : α → List Value} {s : Nat}
theorem flG_take (hf : ∀ x, (f x).length = s) (L : List α) : ∀ k, (flG f L).take (k * s) = flG f (L.take k) := by
  induction L with
  | nil => intro k; simp [flG]
  | cons x L ih =>
    intro k
    cases k with
    | zero => simp [flG]
    | succ k =>
      rw [flG, List.take_append, List.take_of_length_le (by rw [hf, Nat.add_mul]; omega), hf, show (k + 1) * s - s = k * s by rw [Nat.add_mul]; omega, ih]
      rfl
variable {w w' : World} {A : Option Addr} {n : Nat} {L : List α}
theorem SG.first (h : SG f w A n L) (hf : ∀ x, (f x).length = s) {k : Nat} (hk : k ≤ n) : SG f w A k (L.take k) := by
  refine ⟨by rw [List.length_take, h.1]; omega, fun hn => ?_⟩
  obtain ⟨b, o, rfl, hcell⟩ := h.2 (by omega)
  refine ⟨b, o, rfl, fun j u hu => hcell j u ?_⟩
  rw [← flG_take hf, List.getElem?_take] at hu
  split at hu
  · exact hu
  · cases hu
end
end Go.Proofs.Ytinjainclhfahaa

namespace Go.Proofs.Ytinjainclhfahaa
open Go.RowKit
set_option linter.unusedVariables false

section
variable {α : Type} {f : α → List Value} {s : Nat}
variable {w w' : World} {A : Option Addr} {n : Nat} {L : List α}
theorem OG.of_up {e : TypeId} {w0 : World} {v : Value} (h : OG f e s w0 w v n L) (hu : Up w w') : OG f e s w0 w' v n L := ⟨h.1, h.2.of_up hu⟩
end
end Go.Proofs.Ytinjainclhfahaa

namespace Go.Proofs.Ytinjainclhfahaa
open Go.RowKit
set_option linter.unusedVariables false

/-- The cells of a wide number. -/
def cW (x : Int) : List Value := [.int .u64 (hiZ x), .int .u64 (loZ x)]
theorem cW_len (x : Int) : (cW x).length = 2 := rfl
theorem cW_one (x : Int) : ∀ u ∈ cW x, u.oneCell' = true := by
  intro u hu
  simp only [cW, List.mem_cons, List.mem_nil_iff, or_false] at hu
  rcases hu with rfl | rfl <;> rfl
theorem wide_at {w : World} {A : Option Addr} {n : Nat} {L : List Int} (h : SG cW w A n L) {k : Nat} (hk : k < n) :
    ∃ b o, A = some ⟨b, o, none⟩ ∧ w.cell? ⟨b, o + k * 2, none⟩ = some (.int .u64 (hiZ (L.getD k 0))) ∧ w.cell? ⟨b, o + k * 2 + 1, none⟩ = some (.int .u64 (loZ (L.getD k 0))) := by
  obtain ⟨b, o, e, hc⟩ := h.at_ cW_len 0 hk
  exact ⟨b, o, e, hc 0 _ (by omega) rfl, hc 1 _ (by omega) rfl⟩
end Go.Proofs.Ytinjainclhfahaa

namespace Go.Proofs.Ytinjainclhfahaa
open Go.RowKit
set_option linter.unusedVariables false

def OwW (w0 w : World) (v : Value) (n : Nat) (L : List Int) : Prop := OG cW 35 2 w0 w v n L
theorem appendW (ty : TypeId) (w0 w : World) (v : Value) (n : Nat) (L : List Int) (hO : OwW w0 w v n L) (hu : Up w0 w) (A : Option Addr) (m c : Nat) (M : List Int) (hS : SG cW w A m M) (hlen : n + m ≤ 1000000) :
    ∃ A' k' w', (Builtin.append_ #[22, 22] ty #[v, .slice A m c]).run Try.prog w = .ok (.slice A' (n + m) k') w' ∧ OwW w0 w' (.slice A' (n + m) k') (n + m) (L ++ M) ∧ Up w0 w' := by
  have hm : M.length = m := hS.1
  have hl0 : L.length = n := hO.1
  by_cases h0 : m = 0
  · subst h0
    have hM : M = [] := List.eq_nil_of_length_eq_zero hm
    subst hM
    obtain ⟨i, hi, hz, hs, hb⟩ := info_parts wide_info
    have ht := Try.underlying22
    have hl : ∀ (x : Addr), (loadCells x 0).run Try.prog w = .ok #[] w := fun x => by simpa using run_loadCells_list (P := Try.prog) w x [] (by simp)
    rcases hO.2.2 with ⟨h1, rfl⟩ | ⟨g, cap, cur, h1, _, hh, hnc, _⟩
    · subst h1
      refine ⟨none, 0, w, ?_, by simpa using hO, hu⟩
      cases A <;> simp [Builtin.append_, run_underlying ht, sizeOf, typeInfo, hi, Builtin.lenOf, Builtin.firstCells, hl]
    · subst h1
      refine ⟨_, cap, w, ?_, by simpa using hO, hu⟩
      cases A <;> simp [Builtin.append_, run_underlying ht, sizeOf, typeInfo, hi, Builtin.lenOf, Builtin.firstCells, hnc, storeCells, hl]
  · obtain ⟨b, o, rfl, hc⟩ := hS.2 (by omega)
    have hz : (Value.agg #[Value.int IntKind.u64 0, Value.int IntKind.u64 0]).cells.size = 2 := rfl
    obtain ⟨g', k', w', hr, h1, h2, h3, h4⟩ := appendG 22 35 ty _ 2 16 Try.underlying22 wide_info hz (by omega) w0 w v n (flG cW L) hO.2 hu b o m c (flG cW M) (by rw [flG_len cW_len, hm]) (by omega) hc (flG_one cW_one M) hlen
    rw [← flG_app] at h1
    exact ⟨_, k', w', hr, ⟨by rw [List.length_append, hl0, hm], h1⟩, h2⟩
/-- A row of zeros. -/
theorem flG_zero (c : Nat) : flG cW (List.replicate c 0) = List.replicate (c * 2) (.int .u64 0) := by
  induction c with
  | zero => rfl
  | succ c ih =>
    rw [List.replicate_succ, flG, ih, show (c + 1) * 2 = c * 2 + 1 + 1 by omega, List.replicate_succ, List.replicate_succ]; rfl
theorem range2_wide (c : Nat) : (madeCells #[Value.int .u64 0, .int .u64 0] (c * 2)) = (flG cW (List.replicate c 0)).toArray := by
  apply Array.ext'
  apply List.ext_getElem?
  intro j
  simp only [madeCells, Array.toList_map, Array.toList_range, List.getElem?_map, flG_zero]
  by_cases hj : j < c * 2
  · rw [List.getElem?_range hj, List.getElem?_replicate, if_pos hj, Option.map_some]
    rcases (by omega : j % 2 = 0 ∨ j % 2 = 1) with e | e <;> simp [e]
  · rw [List.getElem?_eq_none (by simp; omega), List.getElem?_eq_none (by simp; omega)]; rfl
theorem makeW_run (c : Nat) (hc : c ≤ 65536) (w : World) : (Instr.makeSlice 22 (.int .i64 (c : Int)) (.int .i64 (c : Int))).run Try.prog w =
    .ok (.slice (some ⟨w.heap.size, 0, none⟩) c c) (w.alloc (.cells (flG cW (List.replicate c 0)).toArray 35)) := by
  obtain ⟨i, hi, hz, hs, hb⟩ := info_parts wide_info
  have := run_make (P := Try.prog) w 22 35 i _ Try.underlying22 hi hz .i64 .i64 (c : Int) (c : Int) (by omega) (by omega) (by rw [hb]; omega) (by omega)
  rw [this, hs, Int.toNat_natCast, ← range2_wide]
  rfl
/-- A row that has just been made. -/
theorem madeW_row (w : World) (c : Nat) : SG cW (w.alloc (.cells (flG cW (List.replicate c 0)).toArray 35)) (some ⟨w.heap.size, 0, none⟩) c (List.replicate c 0) := by
  refine ⟨List.length_replicate, fun _ => ⟨w.heap.size, 0, rfl, fun j u hj => ?_⟩⟩
  rw [Nat.zero_add, Blk.cell (Blk.new w _ _)]
  simpa using hj
end Go.Proofs.Ytinjainclhfahaa
