/- Texts of these claims, one after the other. -/
import Derived.Test.YtegaeaonoggmkaaRows
import Derived.Test.YtegaeaonoggmkaaZWCmpq7
import Derived.Test.YtegaeaonoggmkaaZWLenq3
namespace Go.Proofs.Ytegaeaonoggmkaa
open Go.RowKit

theorem frozen_new (w : World) (b o : Nat) : w.frozen? ⟨w.heap.size + b, o, none⟩ = false := by
  simp [World.frozen?]
theorem Up.keep {w w' : World} (h : Up w w') : ∀ b o v, w.cell? ⟨b, o, none⟩ = some v → w'.cell? ⟨b, o, none⟩ = some v := fun b o _ hv =>
  (h.cells.1 b o (World.block_lt_of_cell? w ⟨b, o, none⟩ hv)).trans hv
theorem cell_far {w : World} {p : Addr} {v : Value} {b o : Nat} (h : p.block ≠ b) : (w.setCell p v).cell? ⟨b, o, none⟩ = w.cell? ⟨b, o, none⟩ :=
  World.cell?_setCell_other _ _ _ _ (fun e => h (by rw [e]))
theorem Up.own {w w' : World} (h : Up w w') (b o : Nat) : w'.frozen? ⟨w.heap.size + b, o, none⟩ = false := (h.cells.2 _).trans (frozen_new w b o)

/-- Where the walk of Format is: m places are left, the rest of the number is a, the digits behind the places are l. -/
structure Fm (w wr : World) (m : Nat) (a : Int) (l : List UInt8) : Prop where
  up : Up w wr
  size : w.heap.size + 2 ≤ wr.heap.size
  hi : wr.cell? ⟨w.heap.size, 0, none⟩ = some (.int .u64 (hiZ a))
  lo : wr.cell? ⟨w.heap.size, 1, none⟩ = some (.int .u64 (loZ a))
  row : ∀ i, i < 39 → ∃ x : Int, wr.cell? ⟨w.heap.size + 1, i, none⟩ = some (.int .u8 x)
  len : l.length + m = 39
  dig : ∀ j (hj : j < l.length), wr.cell? ⟨w.heap.size + 1, m + j, none⟩ = some (.int .u8 (l[j].toNat : Int))
  fr : ∀ b o, wr.frozen? ⟨w.heap.size + b, o, none⟩ = false

theorem add_at (b o j : Nat) : (⟨b, o, none⟩ : Addr).add j = ⟨b, o + j, none⟩ := by
  unfold Addr.add
  by_cases h : j = 0
  · rw [if_pos h, h]; rfl
  · rw [if_neg h]
theorem cell_set {w : World} {b o o' : Nat} {v u : Value} (h : w.cell? ⟨b, o', none⟩ = some u) :
    (w.setCell ⟨b, o, none⟩ v).cell? ⟨b, o', none⟩ = some (if o = o' then v else u) := by
  by_cases e : o = o'
  · subst e; rw [if_pos rfl]; exact World.cell?_setCell_same _ _ _ h
  · rw [if_neg e, World.cell?_setCell_other _ _ _ _ (by intro he; injection he; contradiction)]; exact h
theorem digit_toNat (n : Nat) (h : n < 10) : (UInt8.ofNat (48 + n)).toNat = 48 + n := by
  simp [UInt8.toNat_ofNat']; omega

theorem Fm.next {w wr w1 w2 : World} {m : Nat} {a : Int} {l : List UInt8} (hF : Fm w wr m a l) (hm : 1 ≤ m) (ha : 0 ≤ a) (hu1 : Up wr w1) {c : Array Value} {t : TypeId}
    (hu2 : Up ((w1.setCell ⟨w.heap.size + 1, m - 1, none⟩ (.int .u8 (48 + a % 10))).alloc (.cells c t)) w2) : Fm w w2 (m - 1) a (UInt8.ofNat (48 + a.toNat % 10) :: l) := by
  have s0 := hF.size
  have s1 := hu1.size
  have s2 := hu2.size
  rw [size_alloc, size_set] at s2
  have old : ∀ b o, b < w.heap.size + 2 → w2.cell? ⟨b, o, none⟩ = (w1.setCell ⟨w.heap.size + 1, m - 1, none⟩ (.int .u8 (48 + a % 10))).cell? ⟨b, o, none⟩ := fun b o hb => by
    rw [hu2.cells.1 b o (by rw [size_alloc, size_set]; omega)]
    exact World.cell?_alloc_past _ _ _ (by rw [size_set]; omega)
  have up1 : Up w (w1.setCell ⟨w.heap.size + 1, m - 1, none⟩ (.int .u8 (48 + a % 10))) := (hF.up.trans hu1).setCell (by show w.heap.size ≤ w.heap.size + 1; omega) _
  refine ⟨(up1.alloc c t).trans hu2, by omega, ?_, ?_, ?_, ?_, ?_, ?_⟩
  · rw [old _ _ (by omega), cell_far (by show w.heap.size + 1 ≠ w.heap.size; omega), hu1.cells.1 _ _ (by omega)]; exact hF.hi
  · rw [old _ _ (by omega), cell_far (by show w.heap.size + 1 ≠ w.heap.size; omega), hu1.cells.1 _ _ (by omega)]; exact hF.lo
  · intro i hi
    obtain ⟨x, hx⟩ := hF.row i hi
    have hx1 : w1.cell? ⟨w.heap.size + 1, i, none⟩ = some (.int .u8 x) := (hu1.cells.1 _ _ (by omega)).trans hx
    refine ⟨if m - 1 = i then 48 + a % 10 else x, ?_⟩
    rw [old _ _ (by omega), cell_set hx1]
    split <;> rfl
  · have := hF.len; simp; omega
  · intro j hj
    cases j with
    | zero =>
      obtain ⟨x, hx⟩ := hF.row (m - 1) (by have := hF.len; omega)
      have hx1 : w1.cell? ⟨w.heap.size + 1, m - 1, none⟩ = some (.int .u8 x) := (hu1.cells.1 _ _ (by omega)).trans hx
      rw [old _ _ (by omega), show m - 1 + 0 = m - 1 by omega, cell_set hx1, if_pos rfl]
      show some (Value.int .u8 (48 + a % 10)) = some (Value.int .u8 ((UInt8.ofNat (48 + a.toNat % 10)).toNat : Int))
      rw [digit_toNat _ (by omega)]
      congr 2
      omega
    | succ j =>
      have hj' : j < l.length := by simpa using hj
      have hd := hF.dig j hj'
      have hx1 : w1.cell? ⟨w.heap.size + 1, m + j, none⟩ = some (.int .u8 (l[j].toNat : Int)) := (hu1.cells.1 _ _ (by omega)).trans hd
      rw [show m - 1 + (j + 1) = m + j by omega, old _ _ (by omega), cell_set hx1, if_neg (by omega)]
      rfl
  · intro b o
    rw [hu2.cells.2, frozen?_alloc_cells, World.frozen?_setCell, hu1.cells.2]; exact hF.fr b o
theorem Fm.put {w w2 : World} {m : Nat} {a a' : Int} {l : List UInt8} (hF : Fm w w2 m a l) : Fm w ((w2.setCell ⟨w.heap.size, 0, none⟩ (.int .u64 (hiZ a'))).setCell ⟨w.heap.size, 1, none⟩ (.int .u64 (loZ a'))) m a' l := by
  have far : ∀ o, ((w2.setCell ⟨w.heap.size, 0, none⟩ (.int .u64 (hiZ a'))).setCell ⟨w.heap.size, 1, none⟩ (.int .u64 (loZ a'))).cell? ⟨w.heap.size + 1, o, none⟩ = w2.cell? ⟨w.heap.size + 1, o, none⟩ := fun o => by
    rw [cell_far (by show w.heap.size ≠ w.heap.size + 1; omega), cell_far (by show w.heap.size ≠ w.heap.size + 1; omega)]
  refine ⟨(hF.up.setCell (Nat.le_refl _) _).setCell (Nat.le_refl _) _, by rw [size_set, size_set]; exact hF.size, ?_, ?_, ?_, hF.len, ?_, ?_⟩
  · rw [cell_set (u := .int .u64 (hiZ a')) (by rw [cell_set hF.hi, if_pos rfl]), if_neg (by omega)]
  · rw [cell_set (u := .int .u64 (loZ a)) (by rw [cell_set hF.lo, if_neg (by omega)]), if_pos rfl]
  · intro i hi; rw [far]; exact hF.row i hi
  · intro j hj; rw [far]; exact hF.dig j hj
  · intro b o; rw [World.frozen?_setCell, World.frozen?_setCell]; exact hF.fr b o

end Go.Proofs.Ytegaeaonoggmkaa

namespace Go.Proofs.Ytegaeaonoggmkaa
open Go.RowKit

theorem Up.ownGe {w w' : World} (h : Up w w') {g : Nat} (hg : w.heap.size ≤ g) (o : Nat) : w'.frozen? ⟨g, o, none⟩ = false := by
  obtain ⟨b, rfl⟩ := Nat.le.dest hg
  exact h.own b o
/-- Pairs of int64, and their cells. -/
abbrev It := Int × Int
def fl : List It → List Value
  | [] => []
  | p :: L => .int .i64 p.1 :: .int .i64 p.2 :: fl L
theorem fl_get0 (L : List It) (k : Nat) (h : k < L.length) : (fl L)[k * 2]? = some (.int .i64 (L[k]).1) := by
  induction L generalizing k with
  | nil => simp at h
  | cons p L ih =>
    cases k with
    | zero => rfl
    | succ k => rw [show (k + 1) * 2 = k * 2 + 1 + 1 by omega]; simpa [fl] using ih k (by simpa using h)
theorem fl_get1 (L : List It) (k : Nat) (h : k < L.length) : (fl L)[k * 2 + 1]? = some (.int .i64 (L[k]).2) := by
  induction L generalizing k with
  | nil => simp at h
  | cons p L ih =>
    cases k with
    | zero => rfl
    | succ k => rw [show (k + 1) * 2 + 1 = k * 2 + 1 + 1 + 1 by omega]; simpa [fl] using ih k (by simpa using h)
theorem fl_set (L : List It) (k : Nat) (p : It) : ((fl L).set (k * 2) (.int .i64 p.1)).set (k * 2 + 1) (.int .i64 p.2) = fl (L.set k p) := by
  induction L generalizing k with
  | nil => simp [fl]
  | cons q L ih =>
    cases k with
    | zero => rfl
    | succ k => rw [show (k + 1) * 2 = k * 2 + 1 + 1 by omega]; simpa [fl] using ih k

/-- A slice that reads as the list L. -/
def Sl (w : World) (A : Option Addr) (n : Nat) (L : List It) : Prop :=
  L.length = n ∧ (0 < n → ∃ b o, A = some ⟨b, o, none⟩ ∧ ∀ j u, (fl L)[j]? = some u → w.cell? ⟨b, o + j, none⟩ = some u)
theorem Sl.none_ {w : World} {A : Option Addr} : Sl w A 0 [] := ⟨rfl, fun h => absurd h (by omega)⟩
theorem Sl.at_ {w : World} {A : Option Addr} {n : Nat} {L : List It} (h : Sl w A n L) {k : Nat} (hk : k < n) :
    ∃ b o, A = some ⟨b, o, none⟩ ∧ w.cell? ⟨b, o + k * 2, none⟩ = some (.int .i64 (L.getD k (0, 0)).1) ∧ w.cell? ⟨b, o + k * 2 + 1, none⟩ = some (.int .i64 (L.getD k (0, 0)).2) := by
  obtain ⟨b, o, e, hc⟩ := h.2 (by omega)
  have hl : k < L.length := by rw [h.1]; exact hk
  refine ⟨b, o, e, ?_, ?_⟩
  · rw [hc _ _ (fl_get0 L k hl)]; simp [List.getD, hl]
  · rw [Nat.add_assoc, hc _ _ (fl_get1 L k hl)]; simp [List.getD, hl]
theorem Sl.up {w w' : World} {A : Option Addr} {n : Nat} {L : List It} (h : Sl w A n L) (hu : Up w w') : Sl w' A n L :=
  ⟨h.1, fun hn => by
    obtain ⟨b, o, e, hc⟩ := h.2 hn
    exact ⟨b, o, e, fun j u hj => hu.keep _ _ _ (hc j u hj)⟩⟩
/-- Block g is just the cells cs of element type t. -/
def Blk (w : World) (g : Nat) (t : TypeId) (cs : Array Value) : Prop := w.heap[g]? = some (.cells cs t (0, 0))
section
variable {w w' : World} {g : Nat} {t : TypeId} {cs : Array Value}
theorem Blk.lt (h : Blk w g t cs) : g < w.heap.size := by
  rcases Nat.lt_or_ge g w.heap.size with hlt | hge
  · exact hlt
  · unfold Blk at h; rw [Array.getElem?_eq_none hge] at h; cases h
theorem Blk.cell (h : Blk w g t cs) (i : Nat) : w.cell? ⟨g, i, none⟩ = cs[i]? := cell_of_row w g i cs t (0, 0) h
theorem Blk.frozen (h : Blk w g t cs) (i : Nat) : w.frozen? ⟨g, i, none⟩ = false := by
  unfold Blk at h
  simp [World.frozen?, h]
theorem Blk.new (w : World) (t : TypeId) (cs : Array Value) : Blk (w.alloc (.cells cs t)) w.heap.size t cs := heap_alloc_new w _
theorem Blk.drew (h : Blk w g t cs) : Blk w.drew g t cs := h
theorem Blk.drewN (h : Blk w g t cs) (n : Nat) : Blk (w.drewN n) g t cs := h
theorem Blk.alloc (h : Blk w g t cs) (o : Obj) : Blk (w.alloc o) g t cs := (Below.heap_alloc w o g h.lt).trans h
theorem Blk.set_ (h : Blk w g t cs) (i : Nat) (u : Value) : Blk (w.setCell ⟨g, i, none⟩ u) g t (cs.setIfInBounds i u) := by
  unfold Blk at h ⊢
  simp [World.setCell, Array.getElem?_modify, h]
theorem Blk.far (h : Blk w g t cs) {p : Addr} (hp : g ≠ p.block) (u : Value) : Blk (w.setCell p u) g t cs := (Below.heap_setCell w p u g hp).trans h
theorem Blk.up (h : Blk w g t cs) (hu : Up w w') : Blk w' g t cs := (hu.below.block g h.lt).trans h
end
/-- A block of items. -/
def Bi (w : World) (g : Nat) (L : List It) : Prop := Blk w g 69 (fl L).toArray
theorem Bi.up {w w' : World} {g : Nat} {L : List It} (h : Bi w g L) (hu : Up w w') : Bi w' g L := Blk.up h hu
theorem Bi.at_ {w : World} {g : Nat} {L : List It} (h : Bi w g L) {k : Nat} (hk : k < L.length) :
    w.cell? ⟨g, k * 2, none⟩ = some (.int .i64 (L.getD k (0, 0)).1) ∧ w.cell? ⟨g, k * 2 + 1, none⟩ = some (.int .i64 (L.getD k (0, 0)).2) := by
  refine ⟨?_, ?_⟩
  · rw [Blk.cell h]; simp [fl_get0 L k hk, List.getD, hk]
  · rw [Blk.cell h]; simp [fl_get1 L k hk, List.getD, hk]
theorem Bi.set_ {w : World} {g : Nat} {L : List It} (h : Bi w g L) (k : Nat) (a b : Int) :
    Bi ((w.setCell ⟨g, k * 2, none⟩ (.int .i64 a)).setCell ⟨g, k * 2 + 1, none⟩ (.int .i64 b)) g (L.set k (a, b)) := by
  have h1 := Blk.set_ (Blk.set_ h (k * 2) (.int .i64 a)) (k * 2 + 1) (.int .i64 b)
  unfold Bi
  rw [← fl_set]
  simpa using h1

end Go.Proofs.Ytegaeaonoggmkaa

namespace Go.Proofs.Ytegaeaonoggmkaa

/-- A list by its places. -/
def byL (n : Nat) (f : Nat → Int) : List Int := (List.range n).map f
theorem byL_len (n : Nat) (f : Nat → Int) : (byL n f).length = n := by unfold byL; rw [List.length_map, List.length_range]
theorem byL_at {n j : Nat} {f : Nat → Int} (h : j < n) : (byL n f).getD j 0 = f j := by
  unfold byL
  rw [List.getD_eq_getElem?_getD, List.getElem?_map, List.getElem?_range h]; rfl
theorem byL_ext {n : Nat} {f g : Nat → Int} (h : ∀ j, j < n → f j = g j) : byL n f = byL n g := by
  unfold byL
  exact List.map_congr_left (fun j hj => h j (List.mem_range.1 hj))
theorem byL_of {X : List Int} : byL X.length (fun j => X.getD j 0) = X := by
  apply List.ext_getElem
  · rw [byL_len]
  · intro i h1 h2
    have := byL_at (f := fun j => X.getD j 0) h2
    rw [List.getD_eq_getElem?_getD, List.getElem?_eq_getElem h1] at this
    simp only [Option.getD_some] at this
    rw [this, List.getD_eq_getElem?_getD, List.getElem?_eq_getElem h2]; rfl
end Go.Proofs.Ytegaeaonoggmkaa

namespace Go.Proofs.Ytegaeaonoggmkaa

/-- Valid states. -/
def stH (now : Int) (S : List Int) : Bool := (decide (1 ≤ S.length ∧ S.length ≤ 64) && decide (0 ≤ now ∧ now ≤ 16777216)) && (List.range S.length).all (fun e => decide (0 ≤ S.getD e 0 ∧ S.getD e 0 ≤ 1099511627776 ∧ (now < (e : Int) → S.getD e 0 = 0)))
theorem stH_iff {now : Int} {S : List Int} : stH now S = true ↔ (1 ≤ S.length ∧ S.length ≤ 64) ∧ (0 ≤ now ∧ now ≤ 16777216) ∧ ∀ e, e < S.length → 0 ≤ S.getD e 0 ∧ S.getD e 0 ≤ 1099511627776 ∧ (now < (e : Int) → S.getD e 0 = 0) := by
  unfold stH
  rw [Bool.and_eq_true, Bool.and_eq_true, decide_eq_true_eq, decide_eq_true_eq, List.all_eq_true]
  constructor
  · rintro ⟨⟨h1, h2⟩, h3⟩
    exact ⟨h1, h2, fun e he => of_decide_eq_true (h3 e (List.mem_range.2 he))⟩
  · rintro ⟨h1, h2, h3⟩
    exact ⟨⟨h1, h2⟩, fun e he => decide_eq_true (h3 e (List.mem_range.1 he))⟩
/-- What Advance by d ticks, Add and Merge make of the sums. -/
def avH (d : Nat) (S : List Int) : List Int := byL S.length (fun e => if d ≤ e then S.getD (e - d) 0 else 0)
def anH (v : Int) (S : List Int) : List Int := byL S.length (fun e => if e = 0 then S.getD 0 0 + v else S.getD e 0)
theorem avH_len (d : Nat) (S : List Int) : (avH d S).length = S.length := byL_len _ _
theorem anH_len (v : Int) (S : List Int) : (anH v S).length = S.length := byL_len _ _
/-- The weighted sum of the first n places. -/
def asF (a : Nat) (f : Nat → Int) : Nat → Int
  | 0 => 0
  | n + 1 => asF a f n + f n * 2 ^ (a - 1 - n)
def asH (S : List Int) : Int := asF S.length (fun e => S.getD e 0) S.length
theorem two_pow_nn (n : Nat) : (1 : Int) ≤ 2 ^ n := by
  induction n with
  | zero => decide
  | succ n ih => rw [Int.pow_succ]; omega
theorem two_pow_le {m n : Nat} (h : m ≤ n) : (2 : Int) ^ m ≤ 2 ^ n := by
  induction n with
  | zero => rw [show m = 0 by omega]; exact Int.le_refl _
  | succ n ih =>
    by_cases e : m = n + 1
    · subst e; exact Int.le_refl _
    · have := ih (by omega); have := two_pow_nn n; rw [Int.pow_succ]; omega
end Go.Proofs.Ytegaeaonoggmkaa
