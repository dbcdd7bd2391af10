/- Texts of these claims, one after the other. -/
import Derived.Test.YtafkoddgefcpnaaRows
import Derived.Test.YtafkoddgefcpnaaZWMathq0
namespace Go.Proofs.Ytafkoddgefcpnaa
open Go.RowKit

/-- Pairs of int64, and their cells. -/
abbrev It := Int × Int
def fl : List It → List Value
  | [] => []
  | p :: L => .int .i64 p.1 :: .int .i64 p.2 :: fl L
theorem fl_get0 (L : List It) (k : Nat) (h : k < L.length) : (fl L)[k * 2]? = some (.int .i64 (L[k]).1) := by
  induction L generalizing k with
  | nil => simp at h
  | cons p L ih =>
    cases k with
    | zero => rfl
    | succ k => rw [show (k + 1) * 2 = k * 2 + 1 + 1 by omega]; simpa [fl] using ih k (by simpa using h)
theorem fl_set (L : List It) (k : Nat) (p : It) : ((fl L).set (k * 2) (.int .i64 p.1)).set (k * 2 + 1) (.int .i64 p.2) = fl (L.set k p) := by
  induction L generalizing k with
  | nil => simp [fl]
  | cons q L ih =>
    cases k with
    | zero => rfl
    | succ k => rw [show (k + 1) * 2 = k * 2 + 1 + 1 by omega]; simpa [fl] using ih k

/-- A slice that reads as the list L. -/
def Sl (w : World) (A : Option Addr) (n : Nat) (L : List It) : Prop :=
  L.length = n ∧ (0 < n → ∃ b o, A = some ⟨b, o, none⟩ ∧ ∀ j u, (fl L)[j]? = some u → w.cell? ⟨b, o + j, none⟩ = some u)
theorem Sl.up {w w' : World} {A : Option Addr} {n : Nat} {L : List It} (h : Sl w A n L) (hu : Up w w') : Sl w' A n L :=
  ⟨h.1, fun hn => by
    obtain ⟨b, o, e, hc⟩ := h.2 hn
    exact ⟨b, o, e, fun j u hj => hu.keep _ _ _ (hc j u hj)⟩⟩
/-- Block g is just the cells cs of element type t. -/
def Blk (w : World) (g : Nat) (t : TypeId) (cs : Array Value) : Prop := w.heap[g]? = some (.cells cs t (0, 0))
section
variable {w w' : World} {g : Nat} {t : TypeId} {cs : Array Value}
theorem Blk.lt (h : Blk w g t cs) : g < w.heap.size := by
  rcases Nat.lt_or_ge g w.heap.size with hlt | hge
  · exact hlt
  · unfold Blk at h; rw [Array.getElem?_eq_none hge] at h; cases h
theorem Blk.cell (h : Blk w g t cs) (i : Nat) : w.cell? ⟨g, i, none⟩ = cs[i]? := cell_of_row w g i cs t (0, 0) h
theorem Blk.frozen (h : Blk w g t cs) (i : Nat) : w.frozen? ⟨g, i, none⟩ = false := by
  unfold Blk at h
  simp [World.frozen?, h]
theorem Blk.drew (h : Blk w g t cs) : Blk w.drew g t cs := h
theorem Blk.alloc (h : Blk w g t cs) (o : Obj) : Blk (w.alloc o) g t cs := (Below.heap_alloc w o g h.lt).trans h
theorem Blk.set_ (h : Blk w g t cs) (i : Nat) (u : Value) : Blk (w.setCell ⟨g, i, none⟩ u) g t (cs.setIfInBounds i u) := by
  unfold Blk at h ⊢
  simp [World.setCell, Array.getElem?_modify, h]
theorem Blk.far (h : Blk w g t cs) {p : Addr} (hp : g ≠ p.block) (u : Value) : Blk (w.setCell p u) g t cs := (Below.heap_setCell w p u g hp).trans h
theorem Blk.up (h : Blk w g t cs) (hu : Up w w') : Blk w' g t cs := (hu.below.block g h.lt).trans h
end
/-- A block of items. -/
def Bi (w : World) (g : Nat) (L : List It) : Prop := Blk w g 51 (fl L).toArray
theorem Bi.up {w w' : World} {g : Nat} {L : List It} (h : Bi w g L) (hu : Up w w') : Bi w' g L := Blk.up h hu
theorem Bi.set_ {w : World} {g : Nat} {L : List It} (h : Bi w g L) (k : Nat) (a b : Int) :
    Bi ((w.setCell ⟨g, k * 2, none⟩ (.int .i64 a)).setCell ⟨g, k * 2 + 1, none⟩ (.int .i64 b)) g (L.set k (a, b)) := by
  have h1 := Blk.set_ (Blk.set_ h (k * 2) (.int .i64 a)) (k * 2 + 1) (.int .i64 b)
  unfold Bi
  rw [← fl_set]
  simpa using h1

end Go.Proofs.Ytafkoddgefcpnaa

namespace Go.Proofs.Ytafkoddgefcpnaa
open Go.RowKit

theorem fl_get1 (L : List It) (k : Nat) (h : k < L.length) : (fl L)[k * 2 + 1]? = some (.int .i64 (L[k]).2) := by
  induction L generalizing k with
  | nil => simp at h
  | cons p L ih =>
    cases k with
    | zero => rfl
    | succ k => rw [show (k + 1) * 2 + 1 = k * 2 + 1 + 1 + 1 by omega]; simpa [fl] using ih k (by simpa using h)
theorem Sl.none_ {w : World} {A : Option Addr} : Sl w A 0 [] := ⟨rfl, fun h => absurd h (by omega)⟩
theorem Sl.at_ {w : World} {A : Option Addr} {n : Nat} {L : List It} (h : Sl w A n L) {k : Nat} (hk : k < n) :
    ∃ b o, A = some ⟨b, o, none⟩ ∧ w.cell? ⟨b, o + k * 2, none⟩ = some (.int .i64 (L.getD k (0, 0)).1) ∧ w.cell? ⟨b, o + k * 2 + 1, none⟩ = some (.int .i64 (L.getD k (0, 0)).2) := by
  obtain ⟨b, o, e, hc⟩ := h.2 (by omega)
  have hl : k < L.length := by rw [h.1]; exact hk
  refine ⟨b, o, e, ?_, ?_⟩
  · rw [hc _ _ (fl_get0 L k hl)]; simp [List.getD, hl]
  · rw [Nat.add_assoc, hc _ _ (fl_get1 L k hl)]; simp [List.getD, hl]
section
variable {w w' : World} {g : Nat} {t : TypeId} {cs : Array Value}
theorem Blk.drewN (h : Blk w g t cs) (n : Nat) : Blk (w.drewN n) g t cs := h
end
theorem Bi.at_ {w : World} {g : Nat} {L : List It} (h : Bi w g L) {k : Nat} (hk : k < L.length) :
    w.cell? ⟨g, k * 2, none⟩ = some (.int .i64 (L.getD k (0, 0)).1) ∧ w.cell? ⟨g, k * 2 + 1, none⟩ = some (.int .i64 (L.getD k (0, 0)).2) := by
  refine ⟨?_, ?_⟩
  · rw [Blk.cell h]; simp [fl_get0 L k hk, List.getD, hk]
  · rw [Blk.cell h]; simp [fl_get1 L k hk, List.getD, hk]
end Go.Proofs.Ytafkoddgefcpnaa

namespace Go.Proofs.Ytafkoddgefcpnaa
open Go.ChangeShapes Go.WideShapes Go.ChangeAt Go.RowKit Go.Joins Go.Deep

theorem laid_out : laidOutB Try.prog = true := by kernel_rfl
section
variable {H : Type} {enc : TypeId × Value → H} {w : World} {base : Nat} {spare : Nat → Bool} {held : Bool}
theorem stay {t : TypeId} (hr : Try.prog.readableRec t = true) (hrow : t < Try.prog.types.size) {W W' : World} {v : Value} {d : DataW H} {ps before : List MemPlace} {sp : Nat → Bool}
    (h : DataW.Trod enc Try.prog W 0 (fun _ => true) true t v d ps) (hu : Up W W') (hlt : ∀ x ∈ before, x.block < W.heap.size) (hsub : ∀ x ∈ ps, x ∈ before) (hsp : ∀ x ∈ before, sp x.block = true) :
    DataW.Trod enc Try.prog W' 0 sp true t v d ps :=
  WideElems.Trod_stays laid_out hr hrow h (fun x hx => hu.below.same (hlt x (hsub x hx))) (fun x hx => hsp x (hsub x hx))
end
end Go.Proofs.Ytafkoddgefcpnaa

namespace Go.Proofs.Ytafkoddgefcpnaa
open Go.RowKit

/-- The size of a bucket of a level. -/
def szB (l : Int) : Int := if 0 ≤ l ∧ l ≤ 30 then 2 ^ l.toNat else 0
/-- Total. -/
def totB : List It → Int
  | [] => 0
  | p :: L => szB p.2 + totB L
theorem szB_low (l : Int) : 0 ≤ szB l := by
  unfold szB
  split
  · exact Int.le_of_lt (Int.pow_pos (by omega))
  · exact Int.le_refl _
theorem pwB1 (a : Nat) : (1 : Int) ≤ 2 ^ a := Int.pow_pos (by omega)
/-- Buckets of a level; buckets of greater levels. -/
def cn (l : Int) (X : List It) : Nat := X.countP (fun x => x.2 == l)
def Ds (X : List It) : Prop := X.Pairwise (fun x y => y.2 ≤ x.2)
def As (X : List It) : Prop := X.Pairwise (fun x y => x.1 ≤ y.1)
theorem cn_nil (l : Int) : cn l [] = 0 := rfl
theorem cn_cons (l : Int) (x : It) (X : List It) : cn l (x :: X) = cn l X + (if x.2 = l then 1 else 0) := by
  unfold cn; rw [List.countP_cons]; simp
theorem cn_zero {l : Int} {X : List It} (h : ∀ x ∈ X, x.2 ≠ l) : cn l X = 0 := by
  unfold cn; rw [List.countP_eq_zero]; intro x hx; simpa using h x hx
theorem cn_pos {l : Int} {X : List It} : 0 < cn l X ↔ ∃ x ∈ X, x.2 = l := by
  unfold cn; rw [List.countP_pos_iff]; simp
/-- Ticks and levels within their limits. -/
def Rg (X : List It) : Prop := ∀ x ∈ X, (0 ≤ x.1 ∧ x.1 ≤ 16777216) ∧ 0 ≤ x.2 ∧ x.2 ≤ 30
/-- Levels below a bucket's are full. -/
def Fl (k : Int) (X : List It) : Prop := ∀ x ∈ X, ∀ j, 0 ≤ j → j < x.2 → k ≤ (cn j X : Int)
structure Va (X : List It) (k : Int) : Prop where
  k1 : 1 ≤ k
  k2 : k ≤ 128
  rg : Rg X
  ds : Ds X
  as_ : As X
  up : ∀ j, (cn j X : Int) ≤ k + 1
  fl : Fl k X
/-- The list while buckets are merged: level l may have one more. -/
structure Iv (X : List It) (k l T t : Int) : Prop where
  k1 : 1 ≤ k
  k2 : k ≤ 128
  l0 : 0 ≤ l
  rg : Rg X
  ds : Ds X
  as_ : As X
  up : ∀ j, j ≠ l → (cn j X : Int) ≤ k + 1
  at_ : (cn l X : Int) ≤ k + 2
  fl : Fl k X
  tot : totB X = T
  last : ∀ x ∈ X, x.1 ≤ t
theorem Ds.cons {x : It} {Q : List It} : Ds (x :: Q) ↔ (∀ y ∈ Q, y.2 ≤ x.2) ∧ Ds Q := List.pairwise_cons
theorem As.cons {x : It} {Q : List It} : As (x :: Q) ↔ (∀ y ∈ Q, x.1 ≤ y.1) ∧ As Q := List.pairwise_cons
theorem cn_tot {X : List It} {l : Int} (h0 : 0 ≤ l) (h1 : l ≤ 30) : (cn l X : Int) * 2 ^ l.toNat ≤ totB X := by
  induction X with
  | nil => simp [cn, totB]
  | cons x X ih =>
    rw [cn_cons]
    simp only [totB]
    split
    next e =>
      rw [show szB x.2 = 2 ^ l.toNat by unfold szB; rw [e, if_pos ⟨h0, h1⟩], Int.natCast_add, Int.add_mul]
      omega
    next e => have := szB_low x.2; rw [Nat.add_zero]; omega
/-- At the last level nothing is merged. -/
theorem Iv.top {X : List It} {k l T t : Int} (h : Iv X k l T t) (hT : T ≤ 1073741824) (hl : l = 30) : (cn l X : Int) ≤ k + 1 := by
  subst hl
  have := cn_tot (X := X) (l := 30) (by omega) (by omega)
  rw [h.tot] at this
  have h1 := h.k1
  have e : (2 : Int) ^ (30 : Int).toNat = 1073741824 := by decide
  rw [e] at this
  omega
theorem Va.nil {k : Int} (h1 : 1 ≤ k) (h2 : k ≤ 128) : Va [] k :=
  ⟨h1, h2, fun x hx => (by cases hx), List.Pairwise.nil, List.Pairwise.nil, fun j => (by rw [cn_nil]; omega), fun x hx => (by cases hx)⟩
def vlB : List Int → Int
  | [] => 0
  | c :: cs => c + 2 * vlB cs
def smB : List Int → Int
  | [] => 0
  | c :: cs => c + smB cs
theorem pow_succ2 (f : Nat) : (2 : Int) ^ (f + 1) = 2 * 2 ^ f := by rw [Int.pow_succ]; omega
/-- The numbers of buckets of a valid list. -/
def Gd (k : Int) : List Int → Prop
  | [] => True
  | c :: cs => c ≤ k + 1 ∧ (cs ≠ [] → k ≤ c) ∧ 1 ≤ c ∧ Gd k cs
theorem Gd.low {k : Int} (_hk : 1 ≤ k) : ∀ {cs : List Int}, Gd k cs → cs ≠ [] → 2 ^ (cs.length - 1) * (1 + k) - k ≤ vlB cs := by
  intro cs
  induction cs with
  | nil => intro _ h; exact absurd rfl h
  | cons c cs ih =>
    intro h _
    obtain ⟨h1, h2, h3, h4⟩ := h
    cases cs with
    | nil => simp [vlB]; omega
    | cons d ds =>
      have g := ih h4 (by simp)
      have g2 := h2 (by simp)
      simp only [List.length_cons, Nat.add_sub_cancel] at g ⊢
      rw [pow_succ2, Int.mul_assoc]
      rw [vlB]
      omega
/-- The numbers of buckets of each level. -/
def tpB (X : List It) : Nat := (X.getD 0 (0, 0)).2.toNat
def ctL (X : List It) : List Int := if X = [] then [] else (List.range (tpB X + 1)).map (fun j : Nat => (cn (j : Int) X : Int))
theorem vlB_add (f g : Nat → Int) (R : List Nat) : vlB (R.map (fun j => f j + g j)) = vlB (R.map f) + vlB (R.map g) := by
  induction R with
  | nil => rfl
  | cons a R ih => simp only [List.map_cons, vlB, ih]; omega
theorem smB_add (f g : Nat → Int) (R : List Nat) : smB (R.map (fun j => f j + g j)) = smB (R.map f) + smB (R.map g) := by
  induction R with
  | nil => rfl
  | cons a R ih => simp only [List.map_cons, smB, ih]; omega
theorem vlB_zero (R : List Nat) : vlB (R.map (fun _ => (0 : Int))) = 0 := by
  induction R with
  | nil => rfl
  | cons a R ih => simp only [List.map_cons, vlB, ih]; omega
theorem smB_zero (R : List Nat) : smB (R.map (fun _ => (0 : Int))) = 0 := by
  induction R with
  | nil => rfl
  | cons a R ih => simp only [List.map_cons, smB, ih]; omega
theorem range_map (f : Nat → Int) (m : Nat) : (List.range (m + 1)).map f = f 0 :: (List.range m).map (fun j => f (j + 1)) := by
  rw [List.range_succ_eq_map, List.map_cons, List.map_map]
  rfl
theorem vlB_one : ∀ (m a : Nat), a < m → vlB ((List.range m).map (fun j => if a = j then (1 : Int) else 0)) = 2 ^ a := by
  intro m
  induction m with
  | zero => intro a h; omega
  | succ m ih =>
    intro a h
    rw [range_map, vlB]
    cases a with
    | zero =>
      have e : (List.range m).map (fun j => if 0 = j + 1 then (1 : Int) else 0) = (List.range m).map (fun _ => (0 : Int)) := List.map_congr_left (fun j _ => if_neg (by omega))
      rw [e, vlB_zero]; rfl
    | succ a =>
      have e : (List.range m).map (fun j => if a + 1 = j + 1 then (1 : Int) else 0) = (List.range m).map (fun j => if a = j then (1 : Int) else 0) := List.map_congr_left (fun j _ => by simp)
      rw [e, ih a (by omega), if_neg (by omega), pow_succ2]; omega
theorem smB_one : ∀ (m a : Nat), a < m → smB ((List.range m).map (fun j => if a = j then (1 : Int) else 0)) = 1 := by
  intro m
  induction m with
  | zero => intro a h; omega
  | succ m ih =>
    intro a h
    rw [range_map, smB]
    cases a with
    | zero =>
      have e : (List.range m).map (fun j => if 0 = j + 1 then (1 : Int) else 0) = (List.range m).map (fun _ => (0 : Int)) := List.map_congr_left (fun j _ => if_neg (by omega))
      rw [e, smB_zero]; rfl
    | succ a =>
      have e : (List.range m).map (fun j => if a + 1 = j + 1 then (1 : Int) else 0) = (List.range m).map (fun j => if a = j then (1 : Int) else 0) := List.map_congr_left (fun j _ => by simp)
      rw [e, ih a (by omega), if_neg (by omega)]; omega
theorem cn_split (x : It) (X : List It) (h0 : 0 ≤ x.2) (m : Nat) : (List.range m).map (fun j : Nat => (cn (j : Int) (x :: X) : Int)) = (List.range m).map (fun j : Nat => (cn (j : Int) X : Int) + (if x.2.toNat = j then (1 : Int) else 0)) := by
  refine List.map_congr_left (fun j _ => ?_)
  rw [cn_cons]
  split
  next e => rw [if_pos (by omega)]; omega
  next e => rw [if_neg (by omega)]; omega
theorem cn_val (m : Nat) (hm : m ≤ 31) : ∀ (X : List It), (∀ x ∈ X, 0 ≤ x.2 ∧ x.2 < m) → vlB ((List.range m).map (fun j : Nat => (cn (j : Int) X : Int))) = totB X ∧ smB ((List.range m).map (fun j : Nat => (cn (j : Int) X : Int))) = (X.length : Int) := by
  intro X
  induction X with
  | nil => intro _; exact ⟨vlB_zero _, smB_zero _⟩
  | cons x X ih =>
    intro h
    obtain ⟨i1, i2⟩ := ih (fun y hy => h y (List.mem_cons_of_mem _ hy))
    obtain ⟨h0, h1⟩ := h x List.mem_cons_self
    rw [cn_split x X h0 m, vlB_add, smB_add, i1, i2, vlB_one m _ (by omega), smB_one m _ (by omega)]
    refine ⟨?_, by rw [List.length_cons]; omega⟩
    simp only [totB, szB]
    rw [if_pos (by omega)]; omega
theorem Gd.of_map {k : Int} : ∀ (m : Nat) (f : Nat → Int), (∀ j, j < m → k ≤ f j) → (∀ j, j ≤ m → f j ≤ k + 1) → 1 ≤ k → 1 ≤ f m → Gd k ((List.range (m + 1)).map f) := by
  intro m
  induction m with
  | zero =>
    intro f _ h2 _ h3
    have e : (List.range (0 + 1)).map f = [f 0] := rfl
    rw [e]
    exact ⟨h2 0 (by omega), fun h => absurd rfl h, h3, trivial⟩
  | succ m ih =>
    intro f h1 h2 hk h3
    rw [range_map]
    have := h1 0 (by omega)
    refine ⟨h2 0 (by omega), fun _ => this, by omega, ih (fun j => f (j + 1)) (fun j hj => h1 (j + 1) (by omega)) (fun j hj => h2 (j + 1) (by omega)) hk h3⟩
theorem getD0_mem {X : List It} (h : X ≠ []) : X.getD 0 (0, 0) ∈ X := by
  cases X with
  | nil => exact absurd rfl h
  | cons x X => simp
theorem Ds.top {X : List It} (h : Ds X) : ∀ x ∈ X, x.2 ≤ (X.getD 0 (0, 0)).2 := by
  cases X with
  | nil => intro x hx; cases hx
  | cons y X =>
    intro x hx
    rcases List.mem_cons.1 hx with rfl | hx
    · exact Int.le_refl _
    · exact (Ds.cons.1 h).1 x hx
theorem ctL_len (X : List It) (h : X ≠ []) : (ctL X).length = tpB X + 1 := by unfold ctL; rw [if_neg h]; simp
/-- What the numbers of buckets say of a valid list. -/
theorem Va.gd {X : List It} {k : Int} (h : Va X k) : Gd k (ctL X) ∧ vlB (ctL X) = totB X ∧ smB (ctL X) = (X.length : Int) := by
  by_cases hX : X = []
  · subst hX; exact ⟨trivial, rfl, rfl⟩
  have hm := getD0_mem hX
  have ht := h.ds.top
  have hr := h.rg _ hm
  unfold ctL
  rw [if_neg hX]
  have e : ((tpB X : Nat) : Int) = (X.getD 0 (0, 0)).2 := by unfold tpB; omega
  obtain ⟨c1, c2⟩ := cn_val (tpB X + 1) (by unfold tpB; omega) X (fun x hx => ⟨(h.rg x hx).2.1, by have := ht x hx; omega⟩)
  refine ⟨Gd.of_map _ _ (fun j hj => ?_) (fun j _ => h.up j) h.k1 ?_, c1, c2⟩
  · exact h.fl _ hm j (by omega) (by omega)
  · have : 0 < cn ((tpB X : Nat) : Int) X := cn_pos.2 ⟨_, hm, e.symm⟩
    omega
theorem Va.narrow {X : List It} {k : Int} (h : Va X k) (hX : X ≠ []) : k * (szB (X.getD 0 (0, 0)).2 - 1) + 1 ≤ totB X - szB (X.getD 0 (0, 0)).2 + 1 ∧ 1 ≤ szB (X.getD 0 (0, 0)).2 ∧ szB (X.getD 0 (0, 0)).2 ≤ totB X := by
  obtain ⟨h1, h2, h3⟩ := h.gd
  have hr := h.rg _ (getD0_mem hX)
  have g := h1.low h.k1 (by intro e; have := ctL_len X hX; rw [e] at this; simp at this)
  rw [h2, ctL_len X hX, Nat.add_sub_cancel] at g
  have e : szB (X.getD 0 (0, 0)).2 = 2 ^ tpB X := by unfold szB tpB; rw [if_pos (by omega)]
  rw [e]
  have p := pwB1 (tpB X)
  generalize (2 : Int) ^ tpB X = z at *
  have hk := h.k1
  rw [Int.mul_sub]
  rw [Int.mul_add, Int.mul_comm z k] at g
  have q : k * 1 ≤ k * z := Int.mul_le_mul_of_nonneg_left p (by omega)
  omega
end Go.Proofs.Ytafkoddgefcpnaa

namespace Go.Proofs.Ytafkoddgefcpnaa
open Go.RowKit

/-- A number of three words as a value. -/
def w3 (v : Int) : Value := .agg #[.int .u64 (dg3 v 0), .int .u64 (dg3 v 1), .int .u64 (dg3 v 2)]

end Go.Proofs.Ytafkoddgefcpnaa

namespace Go.Proofs.Ytafkoddgefcpnaa
open Go.RowKit

/-- The cells that the walks of plus, minus and times hold. -/
structure Wp (w wr : World) (xs ys z : Nat → Int) : Prop where
  up : Up w wr
  x : ∀ i, i < 3 → wr.cell? ⟨w.heap.size, i, none⟩ = some (.int .u64 (xs i))
  y : ∀ i, i < 3 → wr.cell? ⟨w.heap.size + 1, i, none⟩ = some (.int .u64 (ys i))
  r : ∀ i, i < 3 → wr.cell? ⟨w.heap.size + 1 + 1, i, none⟩ = some (.int .u64 0)
  z : ∀ i, i < 3 → wr.cell? ⟨w.heap.size + 1 + 1 + 1, i, none⟩ = some (.int .u64 (z i))
theorem Wp.keep {w w1 w2 : World} {xs ys z : Nat → Int} (h : Wp w w1 xs ys z) (hu : Up w1 w2) : Wp w w2 xs ys z :=
  ⟨h.up.trans hu, fun i hi => hu.keep _ _ _ (h.x i hi), fun i hi => hu.keep _ _ _ (h.y i hi), fun i hi => hu.keep _ _ _ (h.r i hi), fun i hi => hu.keep _ _ _ (h.z i hi)⟩
end Go.Proofs.Ytafkoddgefcpnaa

namespace Go.Proofs.Ytafkoddgefcpnaa
open Go.RowKit

/-- What a copy leaves: block g has other cells. -/
structure Cp (w w' : World) (g : Nat) : Prop where
  up : ∀ w0, Up w0 w → w0.heap.size ≤ g → Up w0 w'
  far : ∀ b, b ≠ g → w'.heap[b]? = w.heap[b]?
  size : w'.heap.size = w.heap.size
  fr : ∀ a, w'.frozen? a = w.frozen? a
theorem Cp.refl (w : World) (g : Nat) : Cp w w g := ⟨fun _ h _ => h, fun _ _ => rfl, rfl, fun _ => rfl⟩
theorem Cp.keep {w w' : World} {g : Nat} (h : Cp w w' g) {b o : Nat} {v : Value} (hb : b ≠ g) (hc : w.cell? ⟨b, o, none⟩ = some v) : w'.cell? ⟨b, o, none⟩ = some v :=
  (World.cell?_of_block (a := ⟨b, o, none⟩) (h.far b hb)).trans hc
theorem Cp.set (w : World) (g : Nat) (cs cs' : Array Value) (t : TypeId) (h : Blk w g t cs) : Cp w (w.setRow g cs') g ∧ Blk (w.setRow g cs') g t cs' := by
  have hfar : ∀ b, b ≠ g → (w.setRow g cs').heap[b]? = w.heap[b]? := fun b hb => setRow_other w g b cs' hb
  have hat : Blk (w.setRow g cs') g t cs' := setRow_heap w g cs cs' t _ h
  have hsz : (w.setRow g cs').heap.size = w.heap.size := by simp [World.setRow]
  have hfr : ∀ a, (w.setRow g cs').frozen? a = w.frozen? a := fun a => by
    by_cases e : a.block = g
    · have e1 : (w.setRow g cs').heap[a.block]? = some (.cells cs' t (0, 0)) := by rw [e]; exact hat
      have e2 : w.heap[a.block]? = some (.cells cs t (0, 0)) := by rw [e]; exact h
      simp [World.frozen?, e1, e2]
    · exact World.frozen?_of_block (hfar _ e)
  refine ⟨⟨fun w0 hu hg => ?_, hfar, hsz, hfr⟩, hat⟩
  have hb : Below w0.heap.size w0 (w.setRow g cs') := hu.below.trans ⟨rfl, rfl, rfl, by rw [hsz]; exact Nat.le_refl _, fun k hk => hfar k (by omega)⟩
  refine ⟨⟨⟨hb.os, hb.output, fun i hi => ?_⟩, fun a => (hfr a).trans (hu.grown.2.1 a), hb.size⟩, hb⟩
  rw [hb.block i hi]
  cases hw : w0.heap[i]? with
  | none => rfl
  | some o => cases o with
    | cells c t fr => exact ⟨rfl, rfl, rfl, fun _ _ => rfl⟩
    | map es cl => exact Or.inr ⟨rfl, rfl⟩
    | _ => rfl

/-- A row of the call's own (made behind w0) that holds L. -/
def Own (w0 w : World) (v : Value) (n : Nat) (L : List It) : Prop := w.ownsRow w0.heap.size 51 2 v n (fl L)
theorem Own.nil (w0 w : World) : Own w0 w (.slice none 0 0) 0 [] := ⟨rfl, Or.inl ⟨rfl, rfl⟩⟩
theorem Sl.ne {w : World} {A : Option Addr} {n g : Nat} {L : List It} (h : Sl w A n L) (hn : 0 < n) (hg : w.heap.size ≤ g) : ∀ b o, A = some ⟨b, o, none⟩ → ¬ b = g := by
  rintro b o rfl rfl
  obtain ⟨b', o', e, hc⟩ := h.2 hn
  injection e with e
  injection e with e1 e2
  subst e1 e2
  have hl : 0 < L.length := by rw [h.1]; exact hn
  have := World.block_lt_of_cell? _ _ (hc _ _ (fl_get0 L 0 hl))
  simp at this
  omega

/-- What a function leaves that writes into blocks p and g alone. -/
structure Wr (w w' : World) (p g : Nat) : Prop where
  up : ∀ w0, Up w0 w → w0.heap.size ≤ p → w0.heap.size ≤ g → Up w0 w'
  far : ∀ b, b < w.heap.size → b ≠ p → b ≠ g → w'.heap[b]? = w.heap[b]?
  size : w.heap.size ≤ w'.heap.size
  fr : ∀ a, w'.frozen? a = w.frozen? a
section
variable {w w1 w2 : World} {p g : Nat}
theorem Wr.refl (w : World) (p g : Nat) : Wr w w p g := ⟨fun _ h _ _ => h, fun _ _ _ _ => rfl, Nat.le_refl _, fun _ => rfl⟩
theorem Wr.drew (h : Wr w w1 p g) : Wr w w1.drew p g := ⟨fun w0 h0 a b => (h.up w0 h0 a b).drew, h.far, h.size, h.fr⟩
theorem Wr.alloc (h : Wr w w1 p g) (c : Array Value) (t : TypeId) : Wr w (w1.alloc (.cells c t)) p g :=
  ⟨fun w0 h0 a b => (h.up w0 h0 a b).alloc c t, fun b hb hp hg => (Below.heap_alloc w1 _ b (Nat.lt_of_lt_of_le hb h.size)).trans (h.far b hb hp hg), by rw [size_alloc]; exact Nat.le_succ_of_le h.size, fun a => (frozen?_alloc_cells _ _ _ _).trans (h.fr a)⟩
theorem Wr.setG (h : Wr w w1 p g) (o : Nat) (v : Value) : Wr w (w1.setCell ⟨g, o, none⟩ v) p g :=
  ⟨fun w0 h0 a b => (h.up w0 h0 a b).setCell (by exact b) v, fun b hb hp hg => (Below.heap_setCell w1 _ v b (by exact hg)).trans (h.far b hb hp hg), by rw [size_set]; exact h.size, fun a => by rw [World.frozen?_setCell]; exact h.fr a⟩
theorem Wr.then (h : Wr w w1 p g) (hu : Up w1 w2) : Wr w w2 p g :=
  ⟨fun w0 h0 a b => (h.up w0 h0 a b).trans hu, fun b hb hp hg => (hu.below.block b (Nat.lt_of_lt_of_le hb h.size)).trans (h.far b hb hp hg), Nat.le_trans h.size hu.size, fun a => (hu.cells.2 a).trans (h.fr a)⟩
theorem Wr.trans {w3 : World} (h : Wr w w1 p g) (k : Wr w1 w3 p g) : Wr w w3 p g :=
  ⟨fun w0 h0 a b => k.up w0 (h.up w0 h0 a b) a b, fun b hb hp hg => (k.far b (Nat.lt_of_lt_of_le hb h.size) hp hg).trans (h.far b hb hp hg), Nat.le_trans h.size k.size, fun a => (k.fr a).trans (h.fr a)⟩
theorem Wr.keep (h : Wr w w1 p g) {b o : Nat} {v : Value} (hp : b ≠ p) (hg : b ≠ g) (hc : w.cell? ⟨b, o, none⟩ = some v) : w1.cell? ⟨b, o, none⟩ = some v :=
  (World.cell?_of_block (a := ⟨b, o, none⟩) (h.far b (World.block_lt_of_cell? w ⟨b, o, none⟩ hc) hp hg)).trans hc
end

/-- A buffer behind a pointer: its fields in block p, its cells in block g. -/
structure Rt (w : World) (p g c h l : Nat) (L : List It) : Prop where
  c0 : w.cell? ⟨p, 0, none⟩ = some (.int .i64 c)
  c1 : w.cell? ⟨p, 1, none⟩ = some (.int .i64 h)
  c2 : w.cell? ⟨p, 2, none⟩ = some (.int .i64 l)
  c3 : w.cell? ⟨p, 3, none⟩ = some (.slice (some ⟨g, 0, none⟩) c c)
  bi : Bi w g L
  fz : ∀ o, w.frozen? ⟨p, o, none⟩ = false
  ne : p ≠ g
  len : L.length = c
section
variable {w w' : World} {p g c h l : Nat} {L : List It}
theorem Rt.up (H : Rt w p g c h l L) (hu : Up w w') : Rt w' p g c h l L :=
  ⟨hu.keep _ _ _ H.c0, hu.keep _ _ _ H.c1, hu.keep _ _ _ H.c2, hu.keep _ _ _ H.c3, H.bi.up hu, fun o => (hu.cells.2 _).trans (H.fz o), H.ne, H.len⟩
theorem Rt.drew (H : Rt w p g c h l L) : Rt w.drew p g c h l L := ⟨H.c0, H.c1, H.c2, H.c3, H.bi, H.fz, H.ne, H.len⟩
theorem Rt.far (H : Rt w p g c h l L) {q : Nat} (hp : q ≠ p) (hg : q ≠ g) (o : Nat) (v : Value) : Rt (w.setCell ⟨q, o, none⟩ v) p g c h l L :=
  ⟨(cell_far hp).trans H.c0, (cell_far hp).trans H.c1, (cell_far hp).trans H.c2, (cell_far hp).trans H.c3, Blk.far H.bi (Ne.symm hg) _, fun o => by rw [World.frozen?_setCell]; exact H.fz o, H.ne, H.len⟩
theorem Rt.put (H : Rt w p g c h l L) (m : Nat) (a b : Int) : Rt ((w.setCell ⟨g, m * 2, none⟩ (.int .i64 a)).setCell ⟨g, m * 2 + 1, none⟩ (.int .i64 b)) p g c h l (L.set m (a, b)) := by
  have hn := Ne.symm H.ne
  have far : ∀ o v, w.cell? ⟨p, o, none⟩ = some v → ((w.setCell ⟨g, m * 2, none⟩ (.int .i64 a)).setCell ⟨g, m * 2 + 1, none⟩ (.int .i64 b)).cell? ⟨p, o, none⟩ = some v := fun o v hv => by
    rw [cell_far hn, cell_far hn]; exact hv
  exact ⟨far _ _ H.c0, far _ _ H.c1, far _ _ H.c2, far _ _ H.c3, H.bi.set_ m a b, fun o => by rw [World.frozen?_setCell, World.frozen?_setCell]; exact H.fz o, H.ne, by rw [List.length_set]; exact H.len⟩
end
end Go.Proofs.Ytafkoddgefcpnaa

namespace Go.Proofs.Ytafkoddgefcpnaa
open Go.RowKit

section
variable {w w1 w2 : World} {p g : Nat}
theorem Wr.drewN (h : Wr w w1 p g) (n : Nat) : Wr w (w1.drewN n) p g := ⟨fun w0 h0 a b => (h.up w0 h0 a b).drewN n, h.far, h.size, h.fr⟩
end

section
variable {w w' : World} {p g c h l : Nat} {L : List It}
end
end Go.Proofs.Ytafkoddgefcpnaa

namespace Go.Proofs.Ytafkoddgefcpnaa
open Go.RowKit

/-- What the walk of squares holds. -/
structure Sq (w wr : World) (v : Int) : Prop where
  up : Up w wr
  r0 : wr.cell? ⟨w.heap.size, 0, none⟩ = some (.int .u64 0)
  r1 : wr.cell? ⟨w.heap.size, 1, none⟩ = some (.int .u64 0)
  r2 : wr.cell? ⟨w.heap.size, 2, none⟩ = some (.int .u64 0)
  s0 : wr.cell? ⟨w.heap.size + 1, 0, none⟩ = some (.int .u64 (dg3 v 0))
  s1 : wr.cell? ⟨w.heap.size + 1, 1, none⟩ = some (.int .u64 (dg3 v 1))
  s2 : wr.cell? ⟨w.heap.size + 1, 2, none⟩ = some (.int .u64 (dg3 v 2))
theorem Sq.keep {w w1 w2 : World} {v : Int} (h : Sq w w1 v) (hu : Up w1 w2) : Sq w w2 v :=
  ⟨h.up.trans hu, hu.keep _ _ _ h.r0, hu.keep _ _ _ h.r1, hu.keep _ _ _ h.r2, hu.keep _ _ _ h.s0, hu.keep _ _ _ h.s1, hu.keep _ _ _ h.s2⟩
end Go.Proofs.Ytafkoddgefcpnaa

namespace Go.Proofs.Ytafkoddgefcpnaa
open Go.RowKit

/-- Items whose ticks and values are int64. -/
def InI (L : List It) : Prop := ∀ x ∈ L, In x.1 ∧ In x.2
theorem InI.at_ {L : List It} (h : InI L) {i : Nat} (hi : i < L.length) : In (L.getD i (0, 0)).1 ∧ In (L.getD i (0, 0)).2 := h _ (by simp [List.getD, hi])
end Go.Proofs.Ytafkoddgefcpnaa

namespace Go.Proofs.Ytafkoddgefcpnaa
open Go.RowKit

/-- A row of the call's own. -/
def Rw (w0 w : World) (e : TypeId) (sz : Nat) (v : Value) (n : Nat) (cs : List Value) : Prop := w.ownsRow w0.heap.size e sz v n cs
theorem Rw.nil (w0 w : World) (e : TypeId) (sz : Nat) : Rw w0 w e sz (.slice none 0 0) 0 [] := ⟨by simp, Or.inl ⟨rfl, rfl⟩⟩
theorem Rw.lt {w0 w : World} {e : TypeId} {sz n k : Nat} {B : Option Addr} {cs : List Value} (h : Rw w0 w e sz (.slice B n k) n cs) : ∀ g o, B = some ⟨g, o, none⟩ → g < w.heap.size := by
  rintro g o rfl
  rcases h.2 with ⟨h0, _⟩ | ⟨g2, cap, cur, h1, h2, h3, h4⟩
  · cases h0
  · cases h1
    exact Blk.lt (t := e) h3

end Go.Proofs.Ytafkoddgefcpnaa

namespace Go.Proofs.Ytafkoddgefcpnaa
open Go.RowKit

/-- A tick; the width of a window; the first tick of a window, or -1; whether a tick is live. -/
def tickB (t : Int) : Bool := decide (0 ≤ t ∧ t ≤ 16777216)
def winB (v : Int) : Bool := decide (1 ≤ v ∧ v ≤ 1048576)
def firZ (now v : Int) : Int := if (tickB now && winB v) = true then max 0 (now - v + 1) else -1
def liveB (now v t : Int) : Bool := tickB now && winB v && decide (firZ now v ≤ t) && decide (t ≤ now)
theorem tickB_yes {t : Int} (h : 0 ≤ t) (k : t ≤ 16777216) : tickB t = true := decide_eq_true ⟨h, k⟩
theorem tickB_true {t : Int} (h : tickB t = true) : 0 ≤ t ∧ t ≤ 16777216 := of_decide_eq_true h
theorem winB_true {t : Int} (h : winB t = true) : 1 ≤ t ∧ t ≤ 1048576 := of_decide_eq_true h
theorem firZ_yes {now v : Int} (h : (tickB now && winB v) = true) : firZ now v = max 0 (now - v + 1) := by unfold firZ; rw [if_pos h]
theorem liveB_yes {now v t : Int} (h : (tickB now && winB v) = true) : liveB now v t = (decide (firZ now v ≤ t) && decide (t ≤ now)) := by unfold liveB; rw [h]; rfl
end Go.Proofs.Ytafkoddgefcpnaa

namespace Go.Proofs.Ytafkoddgefcpnaa
open Go.RowKit

theorem tickB_low {t : Int} (h : t < 0) : tickB t = false := decide_eq_false (by omega)
theorem tickB_high {t : Int} (h : 16777216 < t) : tickB t = false := decide_eq_false (by omega)
theorem winB_yes {t : Int} (h : 1 ≤ t) (k : t ≤ 1048576) : winB t = true := decide_eq_true ⟨h, k⟩
theorem winB_false {t : Int} (h : winB t = false) : t < 1 ∨ 1048576 < t := by have := of_decide_eq_false h; omega
theorem firZ_no {now v : Int} (h : (tickB now && winB v) = false) : firZ now v = -1 := by unfold firZ; rw [h]; rfl
theorem firZ_low {now v : Int} (h : (tickB now && winB v) = true) : 0 ≤ firZ now v := by rw [firZ_yes h]; omega
theorem isTick_any (t : Int) (w : World) :
    Calls Try.prog 136 #[.int .i64 t] w fun e w' => e = .returned (.bool (tickB t)) ∧ w = w' := by
  by_cases h : 0 ≤ t
  · by_cases k : t ≤ 16777216
    · rw [tickB_yes h k]
      go_enter Try.func136, Try.ntmps136
      go_wp2
      go_ret
      exact ⟨rfl, rfl⟩
    · rw [tickB_high (by omega)]
      go_enter Try.func136, Try.ntmps136
      go_wp2
      go_ret
      exact ⟨rfl, rfl⟩
  · rw [tickB_low (by omega)]
    go_enter Try.func136, Try.ntmps136
    go_wp2
    go_ret
    exact ⟨rfl, rfl⟩
theorem first_any (now v : Int) (w : World) :
    Calls Try.prog 103 #[.int .i64 now, .int .i64 v] w fun e w' => e = .returned (.int .i64 (firZ now v)) ∧ w = w' := by
  have KT := Lib.hid (isTick_any now)
  cases ht : tickB now with
  | false =>
    have HF := Lib.hid (firZ_no (now := now) (v := v) (by rw [ht]; rfl))
    rw [ht] at KT
    rw [HF.out]
    clear ht HF
    go_enter Try.func103, Try.ntmps103
    go_wp2_with (go_at_call 136; (with_reducible refine (KT.out _).mono ?_); rintro e w' ⟨rfl, rfl⟩)
    go_ret
    exact ⟨rfl, rfl⟩
  | true =>
    rw [ht] at KT
    cases hv : winB v with
    | false =>
      have HF := Lib.hid (firZ_no (now := now) (v := v) (by rw [ht, hv]; rfl))
      rw [HF.out]
      clear ht HF
      rcases winB_false hv with h | h
      · clear hv
        go_enter Try.func103, Try.ntmps103
        go_wp2_with (go_at_call 136; (with_reducible refine (KT.out _).mono ?_); rintro e w' ⟨rfl, rfl⟩)
        go_ret
        exact ⟨rfl, rfl⟩
      · clear hv
        have h1 : 1 ≤ v := by omega
        go_enter Try.func103, Try.ntmps103
        go_wp2_with (go_at_call 136; (with_reducible refine (KT.out _).mono ?_); rintro e w' ⟨rfl, rfl⟩)
        go_ret
        exact ⟨rfl, rfl⟩
    | true =>
      have HF := Lib.hid (firZ_yes (now := now) (v := v) (by rw [ht, hv]; rfl))
      obtain ⟨n1, n2⟩ := tickB_true ht
      obtain ⟨v1, v2⟩ := winB_true hv
      clear ht hv
      rw [HF.out]
      clear HF
      generalize hx : max 0 (now - v + 1) = x
      have HX := Lib.hid hx
      clear hx
      go_enter Try.func103, Try.ntmps103
      go_wp2_with (go_at_call 136; (with_reducible refine (KT.out _).mono ?_); rintro e w' ⟨rfl, rfl⟩)
      all_goals go_ret
      all_goals exact ⟨by have hx := HX.out; first | (rw [show x = 0 by omega]; rfl) | (rw [show x = now - v + 1 by omega]; rfl), rfl⟩

end Go.Proofs.Ytafkoddgefcpnaa

namespace Go.Proofs.Ytafkoddgefcpnaa
open Go.RowKit

def kB (k : Int) : Bool := decide (1 ≤ k ∧ k ≤ 128)
def levB (l : Int) : Bool := decide (0 ≤ l ∧ l ≤ 30)
theorem kB_true {k : Int} (h : kB k = true) : 1 ≤ k ∧ k ≤ 128 := of_decide_eq_true h
theorem levB_true {k : Int} (h : levB k = true) : 0 ≤ k ∧ k ≤ 30 := of_decide_eq_true h
end Go.Proofs.Ytafkoddgefcpnaa

namespace Go.Proofs.Ytafkoddgefcpnaa
open Go.ChangeShapes Go.WideShapes Go.ChangeAt Go.RowKit Go.Joins Go.Deep

/-- A slice of int64 that reads as the list L. -/
def Sn (w : World) (A : Option Addr) (n : Nat) (L : List Int) : Prop :=
  L.length = n ∧ (0 < n → ∃ b o, A = some ⟨b, o, none⟩ ∧ ∀ j, j < n → w.cell? ⟨b, o + j, none⟩ = some (.int .i64 (L.getD j 0)))
theorem Sn.none_ {w : World} {A : Option Addr} : Sn w A 0 [] := ⟨rfl, fun h => absurd h (by omega)⟩
theorem Sn.up {w w' : World} {A : Option Addr} {n : Nat} {L : List Int} (h : Sn w A n L) (hu : Up w w') : Sn w' A n L :=
  ⟨h.1, fun hn => by
    obtain ⟨b, o, e, hc⟩ := h.2 hn
    exact ⟨b, o, e, fun j hj => hu.keep _ _ _ (hc j hj)⟩⟩
section
variable {H : Type} {enc : TypeId × Value → H} {w : World} {base : Nat} {spare : Nat → Bool} {held : Bool}
end
end Go.Proofs.Ytafkoddgefcpnaa

namespace Go.Proofs.Ytafkoddgefcpnaa
open Go.RowKit

def mayB (v c now : Int) : Bool := (tickB now && winB v) && decide (1 ≤ c ∧ c ≤ 65536)
theorem mayB_true {v c now : Int} (h : mayB v c now = true) : tickB now = true ∧ winB v = true ∧ 1 ≤ c ∧ c ≤ 65536 := by
  unfold mayB at h
  simp only [Bool.and_eq_true, decide_eq_true_eq] at h
  exact ⟨h.1.1, h.1.2, h.2⟩
end Go.Proofs.Ytafkoddgefcpnaa

namespace Go.Proofs.Ytafkoddgefcpnaa
open Go.RowKit

/-- A region that writes one item of block g at its end: what holds at every time. -/
structure Ph (w W : World) (p g m : Nat) (L : List It) : Prop where
  wr : Wr w W p g
  bi : ∃ y, Bi W g (L.set m y)
theorem Ph.keep {w W W' : World} {p g m : Nat} {L : List It} (h : Ph w W p g m L) (hu : Up W W') : Ph w W' p g m L :=
  ⟨h.wr.then hu, h.bi.choose, h.bi.choose_spec.up hu⟩
theorem Ph.put {w W : World} {p g m : Nat} {L : List It} (h : Ph w W p g m L) (a b : Int) : Bi ((W.setCell ⟨g, m * 2, none⟩ (.int .i64 a)).setCell ⟨g, m * 2 + 1, none⟩ (.int .i64 b)) g (L.set m (a, b)) := by
  obtain ⟨y, hy⟩ := h.bi
  have := hy.set_ m a b
  rwa [List.set_set] at this
theorem Ph.set {w W : World} {p g m : Nat} {L : List It} (h : Ph w W p g m L) (a b : Int) : Ph w ((W.setCell ⟨g, m * 2, none⟩ (.int .i64 a)).setCell ⟨g, m * 2 + 1, none⟩ (.int .i64 b)) p g m L :=
  ⟨(h.wr.setG _ _).setG _ _, (a, b), h.put a b⟩
theorem Bi.drew {w : World} {g : Nat} {L : List It} (h : Bi w g L) : Bi w.drew g L := h
end Go.Proofs.Ytafkoddgefcpnaa

namespace Go.Proofs.Ytafkoddgefcpnaa
open Go.RowKit

theorem Ph.at_ {w W : World} {p g m : Nat} {L : List It} (h : Ph w W p g m L) (hm : m < L.length) : ∃ q0 q1, W.cell? ⟨g, m * 2, none⟩ = some (.int .i64 q0) ∧ W.cell? ⟨g, m * 2 + 1, none⟩ = some (.int .i64 q1) := by
  obtain ⟨y, hy⟩ := h.bi
  obtain ⟨h1, h2⟩ := hy.at_ (k := m) (by simpa using hm)
  exact ⟨_, _, h1, h2⟩
end Go.Proofs.Ytafkoddgefcpnaa

namespace Go.Proofs.Ytafkoddgefcpnaa

/-- The least and the greatest value. -/
def mnL : List Int → Int
  | [] => 0
  | [x] => x
  | x :: y :: R => min x (mnL (y :: R))
def mxL : List Int → Int
  | [] => 0
  | [x] => x
  | x :: y :: R => max x (mxL (y :: R))
def suL : List Int → Int
  | [] => 0
  | x :: R => x + suL R
def sqL : List Int → Int
  | [] => 0
  | x :: R => x * x + sqL R
theorem mnL_cons (x : Int) {R : List Int} (h : R ≠ []) : mnL (x :: R) = min x (mnL R) := by
  cases R with
  | nil => exact absurd rfl h
  | cons y R => rfl
theorem mxL_cons (x : Int) {R : List Int} (h : R ≠ []) : mxL (x :: R) = max x (mxL R) := by
  cases R with
  | nil => exact absurd rfl h
  | cons y R => rfl
theorem mnL_app : ∀ {A B : List Int}, B ≠ [] → mnL (A ++ B) ≤ mnL B := by
  intro A
  induction A with
  | nil => intro B _; exact Int.le_refl _
  | cons x A ih => intro B h; rw [List.cons_append, mnL_cons x (by simp [h])]; have := ih h; omega
theorem mxL_app : ∀ {A B : List Int}, B ≠ [] → mxL B ≤ mxL (A ++ B) := by
  intro A
  induction A with
  | nil => intro B _; exact Int.le_refl _
  | cons x A ih => intro B h; rw [List.cons_append, mxL_cons x (by simp [h])]; have := ih h; omega
theorem mnL_le : ∀ {R : List Int} {x : Int}, x ∈ R → mnL R ≤ x := by
  intro R
  induction R with
  | nil => intro x h; cases h
  | cons y R ih =>
    intro x h
    by_cases hR : R = []
    · subst hR; simp only [List.mem_singleton] at h; subst h; exact Int.le_refl _
    · rw [mnL_cons y hR]
      rcases List.mem_cons.1 h with rfl | h
      · omega
      · have := ih h; omega
theorem le_mxL : ∀ {R : List Int} {x : Int}, x ∈ R → x ≤ mxL R := by
  intro R
  induction R with
  | nil => intro x h; cases h
  | cons y R ih =>
    intro x h
    by_cases hR : R = []
    · subst hR; simp only [List.mem_singleton] at h; subst h; exact Int.le_refl _
    · rw [mxL_cons y hR]
      rcases List.mem_cons.1 h with rfl | h
      · omega
      · have := ih h; omega
theorem mnL_mem : ∀ {R : List Int}, R ≠ [] → mnL R ∈ R := by
  intro R
  induction R with
  | nil => intro h; exact absurd rfl h
  | cons y R ih =>
    intro _
    by_cases hR : R = []
    · subst hR; exact List.mem_singleton.2 rfl
    · rw [mnL_cons y hR]
      by_cases h : y ≤ mnL R
      · rw [Int.min_eq_left h]; exact List.mem_cons_self
      · rw [Int.min_eq_right (by omega)]; exact List.mem_cons_of_mem _ (ih hR)
theorem mxL_mem : ∀ {R : List Int}, R ≠ [] → mxL R ∈ R := by
  intro R
  induction R with
  | nil => intro h; exact absurd rfl h
  | cons y R ih =>
    intro _
    by_cases hR : R = []
    · subst hR; exact List.mem_singleton.2 rfl
    · rw [mxL_cons y hR]
      by_cases h : mxL R ≤ y
      · rw [Int.max_eq_left h]; exact List.mem_cons_self
      · rw [Int.max_eq_right (by omega)]; exact List.mem_cons_of_mem _ (ih hR)
theorem mn_le_mx {R : List Int} (h : R ≠ []) : mnL R ≤ mxL R := Int.le_trans (mnL_le (mxL_mem h)) (Int.le_refl _)
theorem suL_app (A B : List Int) : suL (A ++ B) = suL A + suL B := by
  induction A with
  | nil => simp [suL]
  | cons x A ih => simp only [List.cons_append, suL, ih]; omega
theorem sqL_app (A B : List Int) : sqL (A ++ B) = sqL A + sqL B := by
  induction A with
  | nil => simp [sqL]
  | cons x A ih => simp only [List.cons_append, sqL, ih]; omega
theorem sq_nn (x : Int) : 0 ≤ x * x := by
  rcases Int.le_total 0 x with h | h
  · exact Int.mul_nonneg h h
  · exact Int.mul_nonneg_of_nonpos_of_nonpos h h
theorem sqL_nn (A : List Int) : 0 ≤ sqL A := by
  induction A with
  | nil => exact Int.le_refl _
  | cons x A ih => have := sq_nn x; simp only [sqL]; omega
/-- Sums of numbers from a to b lie between so many times a and b. -/
theorem suL_ge {A : List Int} {a : Int} (h : ∀ x ∈ A, a ≤ x) : (A.length : Int) * a ≤ suL A := by
  induction A with
  | nil => simp [suL]
  | cons x A ih =>
    have := h x List.mem_cons_self
    have := ih (fun y hy => h y (List.mem_cons_of_mem _ hy))
    simp only [suL, List.length_cons]
    rw [show ((A.length + 1 : Nat) : Int) = (A.length : Int) + 1 by omega, Int.add_mul, Int.one_mul]; omega
theorem suL_le {A : List Int} {b : Int} (h : ∀ x ∈ A, x ≤ b) : suL A ≤ (A.length : Int) * b := by
  induction A with
  | nil => simp [suL]
  | cons x A ih =>
    have := h x List.mem_cons_self
    have := ih (fun y hy => h y (List.mem_cons_of_mem _ hy))
    simp only [suL, List.length_cons]
    rw [show ((A.length + 1 : Nat) : Int) = (A.length : Int) + 1 by omega, Int.add_mul, Int.one_mul]; omega
theorem sq_bd {x m : Int} (h1 : -m ≤ x) (h2 : x ≤ m) : x * x ≤ m * m := by
  rcases Int.le_total 0 x with h | h
  · exact Int.mul_le_mul h2 h2 h (by omega)
  · have := Int.mul_le_mul (show -x ≤ m by omega) (show -x ≤ m by omega) (by omega) (show 0 ≤ m by omega)
    rwa [Int.neg_mul_neg] at this
theorem sqL_le {A : List Int} {m : Int} (h : ∀ x ∈ A, -m ≤ x ∧ x ≤ m) : sqL A ≤ (A.length : Int) * (m * m) := by
  induction A with
  | nil => simp [sqL]
  | cons x A ih =>
    have h1 := h x List.mem_cons_self
    have := sq_bd h1.1 h1.2
    have := ih (fun y hy => h y (List.mem_cons_of_mem _ hy))
    simp only [sqL, List.length_cons]
    rw [show ((A.length + 1 : Nat) : Int) = (A.length : Int) + 1 by omega, Int.add_mul, Int.one_mul]; omega
/-- The square of a sum is at most so many times the sum of squares. -/
theorem cauchy : ∀ A : List Int, suL A * suL A ≤ (A.length : Int) * sqL A := by
  intro A
  induction A with
  | nil => simp [suL, sqL]
  | cons x A ih =>
    have h2 : 2 * (x * suL A) ≤ (A.length : Int) * (x * x) + sqL A := by
      clear ih
      induction A with
      | nil => simp [suL, sqL]
      | cons y A ih =>
        simp only [suL, sqL, List.length_cons]
        have h3 := sq_nn (x - y)
        have e : (x - y) * (x - y) = x * x - 2 * (x * y) + y * y := by
          rw [Int.sub_mul, Int.mul_sub, Int.mul_sub, Int.mul_comm y x]; omega
        rw [show ((A.length + 1 : Nat) : Int) = (A.length : Int) + 1 by omega, Int.add_mul, Int.one_mul, Int.mul_add]
        omega
    simp only [suL, sqL, List.length_cons]
    rw [show ((A.length + 1 : Nat) : Int) = (A.length : Int) + 1 by omega]
    have e1 : (x + suL A) * (x + suL A) = x * x + 2 * (x * suL A) + suL A * suL A := by
      rw [Int.add_mul, Int.mul_add, Int.mul_add, Int.mul_comm (suL A) x]; omega
    have e2 : ((A.length : Int) + 1) * (x * x + sqL A) = (A.length : Int) * (x * x) + (A.length : Int) * sqL A + (x * x + sqL A) := by
      rw [Int.add_mul, Int.mul_add, Int.one_mul]
    rw [e1, e2]
    omega
/-- Which values there are. -/
def valG (g v : Int) : Prop := -4096 ≤ v ∧ v ≤ 4096 ∧ (0 ≤ v ∨ g = 1 ∨ g = 4)
end Go.Proofs.Ytafkoddgefcpnaa

namespace Go.Proofs.Ytafkoddgefcpnaa

/-- Every element and its successor; every element and its second successor. -/
def chn {α : Type} (r : α → α → Prop) : List α → Prop
  | [] => True
  | [_] => True
  | a :: b :: R => r a b ∧ chn r (b :: R)
def ch3 {α : Type} (r : α → α → Prop) : List α → Prop
  | [] => True
  | [_] => True
  | [_, _] => True
  | a :: b :: c :: R => r a c ∧ ch3 r (b :: c :: R)
theorem chn.tail {α : Type} {r : α → α → Prop} {a : α} {R : List α} (h : chn r (a :: R)) : chn r R := by
  cases R with
  | nil => trivial
  | cons b R => exact h.2
theorem ch3.tail {α : Type} {r : α → α → Prop} {a : α} {R : List α} (h : ch3 r (a :: R)) : ch3 r R := by
  cases R with
  | nil => trivial
  | cons b R =>
    cases R with
    | nil => trivial
    | cons c R => exact h.2
end Go.Proofs.Ytafkoddgefcpnaa

namespace Go.Proofs.Ytafkoddgefcpnaa

/-- A mark: number and tick of its first item; number, sum, sum of squares, least and greatest of the values from it on. -/
structure Mrk where
  sq : Int
  t : Int
  n : Int
  s : Int
  q : Int
  lo : Int
  hi : Int
/-- The values from a place on; the mark of a place. -/
def vlF (I : List It) (p : Nat) : List Int := (I.drop p).map (fun x => x.2)
def mrkA (I : List It) (p : Nat) : Mrk := ⟨(p : Int) + 1, (I.getD p (0, 0)).1, ((vlF I p).length : Int), suL (vlF I p), sqL (vlF I p), mnL (vlF I p), mxL (vlF I p)⟩
theorem vlF_len (I : List It) (p : Nat) : (vlF I p).length = I.length - p := by unfold vlF; rw [List.length_map, List.length_drop]
theorem vlF_ne {I : List It} {p : Nat} (h : p < I.length) : vlF I p ≠ [] := by
  intro e
  have := congrArg List.length e
  rw [vlF_len, List.length_nil] at this
  omega
theorem vlF_split (I : List It) {p q : Nat} (h : p ≤ q) : vlF I p = ((I.drop p).take (q - p)).map (fun x => x.2) ++ vlF I q := by
  unfold vlF
  rw [← List.map_append]
  congr 1
  have := List.take_append_drop (q - p) (I.drop p)
  rw [List.drop_drop, show p + (q - p) = q by omega] at this
  exact this.symm
theorem vlF_val {g : Int} {I : List It} (h : ∀ x ∈ I, valG g x.2) (p : Nat) : ∀ y ∈ vlF I p, valG g y := by
  intro y hy
  obtain ⟨x, hx, rfl⟩ := List.mem_map.1 hy
  exact h x (List.mem_of_mem_drop hx)
/-- Ticks ascend. -/
theorem asc_le {I : List It} (h : I.Pairwise (fun x y => x.1 ≤ y.1)) {i j : Nat} (hij : i ≤ j) (hj : j < I.length) : (I.getD i (0, 0)).1 ≤ (I.getD j (0, 0)).1 := by
  rw [List.getD_eq_getElem?_getD, List.getD_eq_getElem?_getD, List.getElem?_eq_getElem hj, List.getElem?_eq_getElem (by omega : i < I.length)]
  rcases Nat.eq_or_lt_of_le hij with e | e
  · subst e; exact Int.le_refl _
  · exact List.pairwise_iff_getElem.1 h i j (by omega) hj e
end Go.Proofs.Ytafkoddgefcpnaa

namespace Go.Proofs.Ytafkoddgefcpnaa

/-- Places P are the marks of the items I, at the tick now, for windows of w ticks: neighbours are near, and no mark is close to its second successor. -/
structure SnM (nr : List It → Nat → Nat → Prop) (cl : List It → Nat → Nat → Bool) (g w c now : Int) (P : List Nat) (I : List It) : Prop where
  g1 : 1 ≤ g ∧ g ≤ 4
  w1 : 1 ≤ w
  c1 : 1 ≤ c
  up : P.Pairwise (fun a b => a < b)
  lt : ∀ p ∈ P, p < I.length
  last : ∀ p, P.getLast? = some p → p + 1 = I.length
  none_ : P = [] → ∀ i, i < I.length → (I.getD i (0, 0)).1 ≤ now - w
  old : ∀ p, P.head? = some p → ∀ i, i < p → (I.getD i (0, 0)).1 ≤ now - w
  live : ∀ p ∈ P.tail, now - w < (I.getD p (0, 0)).1
  one : ∀ p, P = [p] → now - w < (I.getD p (0, 0)).1
  c6 : chn (nr I) P
  c5 : ch3 (fun a b => cl I a b = false) P
  asc : I.Pairwise (fun x y => x.1 ≤ y.1)
  rg : ∀ x ∈ I, 0 ≤ x.1 ∧ x.1 ≤ now
  vals : ∀ x ∈ I, valG g x.2
  cap : ∀ p, P.head? = some p → (I.length : Int) - p ≤ c
end Go.Proofs.Ytafkoddgefcpnaa

namespace Go.Proofs.Ytafkoddgefcpnaa

def mk0 : Mrk := ⟨0, 0, 0, 0, 0, 0, 0⟩
/-- n items with the sum s and the sum of squares q may have values from lo to hi. -/
def prtP (n s q lo hi : Int) : Prop := n * lo ≤ s ∧ s ≤ n * hi ∧ 0 ≤ q ∧ q ≤ n * 4096 * 4096 ∧ s * s ≤ n * q
/-- What chapter 13 asks of the mark at place j (conditions 1 to 4). -/
structure OkB (g w c now seq : Int) (X : List Mrk) (j : Nat) : Prop where
  sq1 : 1 ≤ (X.getD j mk0).sq
  sq2 : (X.getD j mk0).sq ≤ seq
  num : (X.getD j mk0).n = seq - (X.getD j mk0).sq + 1
  few : (X.getD j mk0).n ≤ c
  asc : 0 < j → (X.getD (j - 1) mk0).sq < (X.getD j mk0).sq
  tk : 0 ≤ (X.getD j mk0).t ∧ (X.getD j mk0).t ≤ now
  tasc : 0 < j → (X.getD (j - 1) mk0).t ≤ (X.getD j mk0).t
  live : 0 < j ∨ X.length = 1 → now - w < (X.getD j mk0).t
  lo : valG g (X.getD j mk0).lo
  hi : valG g (X.getD j mk0).hi
  lohi : (X.getD j mk0).lo ≤ (X.getD j mk0).hi
  prt : prtP (X.getD j mk0).n (X.getD j mk0).s (X.getD j mk0).q (X.getD j mk0).lo (X.getD j mk0).hi
  last : j + 1 = X.length → (X.getD j mk0).sq = seq ∧ (X.getD j mk0).lo = (X.getD j mk0).s ∧ (X.getD j mk0).hi = (X.getD j mk0).s ∧ (X.getD j mk0).q = (X.getD j mk0).s * (X.getD j mk0).s
  nlo : 0 < j → (X.getD (j - 1) mk0).lo ≤ (X.getD j mk0).lo
  nhi : 0 < j → (X.getD j mk0).hi ≤ (X.getD (j - 1) mk0).hi
  nprt : 0 < j → prtP ((X.getD (j - 1) mk0).n - (X.getD j mk0).n) ((X.getD (j - 1) mk0).s - (X.getD j mk0).s) ((X.getD (j - 1) mk0).q - (X.getD j mk0).q) (X.getD (j - 1) mk0).lo (X.getD (j - 1) mk0).hi
theorem getD_map {I : List It} {P : List Nat} {j : Nat} (h : j < P.length) : (P.map (mrkA I)).getD j mk0 = mrkA I (P.getD j 0) := by
  rw [List.getD_eq_getElem?_getD, List.getElem?_map, List.getD_eq_getElem?_getD, List.getElem?_eq_getElem h]; rfl
theorem getD_in {P : List Nat} {j : Nat} (h : j < P.length) : P.getD j 0 ∈ P := by
  rw [List.getD_eq_getElem?_getD, List.getElem?_eq_getElem h]; exact List.getElem_mem h
theorem prt_of {g : Int} {A : List Int} {lo hi : Int} (h : ∀ x ∈ A, valG g x) (h1 : ∀ x ∈ A, lo ≤ x ∧ x ≤ hi) : prtP A.length (suL A) (sqL A) lo hi := by
  refine ⟨suL_ge (fun x hx => (h1 x hx).1), suL_le (fun x hx => (h1 x hx).2), sqL_nn A, ?_, cauchy A⟩
  have := sqL_le (A := A) (m := 4096) (fun x hx => ⟨(h x hx).1, (h x hx).2.1⟩)
  omega
theorem SnM.ok {nr : List It → Nat → Nat → Prop} {cl : List It → Nat → Nat → Bool} {g w c now : Int} {P : List Nat} {I : List It} (h : SnM nr cl g w c now P I) {j : Nat} (hj : j < P.length) : OkB g w c now I.length (P.map (mrkA I)) j := by
  have e := getD_map (I := I) hj
  have hp := h.lt _ (getD_in hj)
  have hprev : 0 < j → (P.map (mrkA I)).getD (j - 1) mk0 = mrkA I (P.getD (j - 1) 0) ∧ P.getD (j - 1) 0 < P.getD j 0 := fun h0 => by
    refine ⟨getD_map (by omega), ?_⟩
    rw [List.getD_eq_getElem?_getD, List.getD_eq_getElem?_getD, List.getElem?_eq_getElem hj, List.getElem?_eq_getElem (by omega : j - 1 < P.length)]
    exact List.pairwise_iff_getElem.1 h.up (j - 1) j (by omega) hj (by omega)
  have hlen : ((vlF I (P.getD j 0)).length : Int) = I.length - P.getD j 0 := by rw [vlF_len]; omega
  have hmem : I.getD (P.getD j 0) (0, 0) ∈ I := by
    rw [List.getD_eq_getElem?_getD, List.getElem?_eq_getElem hp]; exact List.getElem_mem hp
  have hlow : (P.getD 0 0) ≤ P.getD j 0 := by
    rcases Nat.eq_zero_or_pos j with e0 | e0
    · subst e0; exact Nat.le_refl _
    · rw [List.getD_eq_getElem?_getD, List.getD_eq_getElem?_getD, List.getElem?_eq_getElem hj, List.getElem?_eq_getElem (by omega : 0 < P.length)]
      exact Nat.le_of_lt (List.pairwise_iff_getElem.1 h.up 0 j (by omega) hj e0)
  have hcap := h.cap (P.getD 0 0) (by
    cases P with
    | nil => exact absurd hj (Nat.not_lt_zero _)
    | cons a P => rfl)
  have hlive : 0 < j ∨ P.length = 1 → now - w < (I.getD (P.getD j 0) (0, 0)).1 := by
    intro h0
    cases P with
    | nil => exact absurd hj (Nat.not_lt_zero _)
    | cons a P =>
      cases j with
      | zero =>
        have : P = [] := by
          rcases h0 with h0 | h0
          · exact absurd h0 (Nat.lt_irrefl _)
          · rw [List.length_cons] at h0; exact List.length_eq_zero_iff.1 (by omega)
        subst this
        exact h.one a rfl
      | succ j =>
        refine h.live _ ?_
        show P.getD j 0 ∈ P
        exact getD_in (by rw [List.length_cons] at hj; omega)
  have hV := vlF_val h.vals (P.getD j 0)
  have hne := vlF_ne hp
  have hlast : j + 1 = P.length → (P.getD j 0) + 1 = I.length := fun h0 => h.last _ (by
    rw [List.getLast?_eq_getElem?, List.getD_eq_getElem?_getD, List.getElem?_eq_getElem hj, show P.length - 1 = j by omega, List.getElem?_eq_getElem hj]; rfl)
  have hmid : 0 < j → ∃ D : List Int, vlF I (P.getD (j - 1) 0) = D ++ vlF I (P.getD j 0) := fun h0 => ⟨_, vlF_split I (Nat.le_of_lt (hprev h0).2)⟩
  constructor
  · rw [e]; show 1 ≤ ((P.getD j 0 : Nat) : Int) + 1; omega
  · rw [e]; show ((P.getD j 0 : Nat) : Int) + 1 ≤ I.length; omega
  · rw [e]; show ((vlF I (P.getD j 0)).length : Int) = I.length - (((P.getD j 0 : Nat) : Int) + 1) + 1; omega
  · rw [e]; show ((vlF I (P.getD j 0)).length : Int) ≤ c; omega
  · intro h0; obtain ⟨e1, e2⟩ := hprev h0; rw [e, e1]; show ((P.getD (j - 1) 0 : Nat) : Int) + 1 < ((P.getD j 0 : Nat) : Int) + 1; omega
  · rw [e]; exact h.rg _ hmem
  · intro h0; obtain ⟨e1, e2⟩ := hprev h0; rw [e, e1]; exact asc_le h.asc (Nat.le_of_lt e2) hp
  · rw [List.length_map, e]; exact hlive
  · rw [e]; exact hV _ (mnL_mem hne)
  · rw [e]; exact hV _ (mxL_mem hne)
  · rw [e]; exact mn_le_mx hne
  · rw [e]; exact prt_of hV (fun x hx => ⟨mnL_le hx, le_mxL hx⟩)
  · rw [List.length_map, e]
    intro h0
    have h1 := hlast h0
    have h2 : (vlF I (P.getD j 0)).length = 1 := by rw [vlF_len]; omega
    obtain ⟨v, hv⟩ := List.length_eq_one_iff.1 h2
    refine ⟨?_, ?_, ?_, ?_⟩
    · show ((P.getD j 0 : Nat) : Int) + 1 = I.length; omega
    · show mnL (vlF I (P.getD j 0)) = suL (vlF I (P.getD j 0)); rw [hv]; simp [mnL, suL]
    · show mxL (vlF I (P.getD j 0)) = suL (vlF I (P.getD j 0)); rw [hv]; simp [mxL, suL]
    · show sqL (vlF I (P.getD j 0)) = suL (vlF I (P.getD j 0)) * suL (vlF I (P.getD j 0)); rw [hv]; simp [sqL, suL]
  · intro h0; obtain ⟨e1, e2⟩ := hprev h0; obtain ⟨D, eD⟩ := hmid h0; rw [e, e1]; show mnL (vlF I (P.getD (j - 1) 0)) ≤ mnL (vlF I (P.getD j 0)); rw [eD]; exact mnL_app hne
  · intro h0; obtain ⟨e1, e2⟩ := hprev h0; obtain ⟨D, eD⟩ := hmid h0; rw [e, e1]; show mxL (vlF I (P.getD j 0)) ≤ mxL (vlF I (P.getD (j - 1) 0)); rw [eD]; exact mxL_app hne
  · intro h0
    obtain ⟨e1, e2⟩ := hprev h0
    obtain ⟨D, eD⟩ := hmid h0
    have hV2 := vlF_val h.vals (P.getD (j - 1) 0)
    have hb : ∀ x ∈ D, mnL (vlF I (P.getD (j - 1) 0)) ≤ x ∧ x ≤ mxL (vlF I (P.getD (j - 1) 0)) := fun x hx => by
      have hx2 : x ∈ vlF I (P.getD (j - 1) 0) := by rw [eD]; exact List.mem_append_left _ hx
      exact ⟨mnL_le hx2, le_mxL hx2⟩
    have h1 := prt_of (g := g) (fun x hx => hV2 x (by rw [eD]; exact List.mem_append_left _ hx)) hb
    rw [e, e1]
    show prtP (((vlF I (P.getD (j - 1) 0)).length : Int) - ((vlF I (P.getD j 0)).length : Int)) (suL (vlF I (P.getD (j - 1) 0)) - suL (vlF I (P.getD j 0))) (sqL (vlF I (P.getD (j - 1) 0)) - sqL (vlF I (P.getD j 0))) (mnL (vlF I (P.getD (j - 1) 0))) (mxL (vlF I (P.getD (j - 1) 0)))
    have g1 : ((vlF I (P.getD (j - 1) 0)).length : Int) - ((vlF I (P.getD j 0)).length : Int) = D.length := by rw [eD, List.length_append]; omega
    have g2 : suL (vlF I (P.getD (j - 1) 0)) - suL (vlF I (P.getD j 0)) = suL D := by rw [eD, suL_app]; omega
    have g3 : sqL (vlF I (P.getD (j - 1) 0)) - sqL (vlF I (P.getD j 0)) = sqL D := by rw [eD, sqL_app]; omega
    rw [g1, g2, g3]
    exact h1
end Go.Proofs.Ytafkoddgefcpnaa
