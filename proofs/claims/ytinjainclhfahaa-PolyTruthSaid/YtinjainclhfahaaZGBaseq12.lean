/- Texts of these claims, one after the other. -/
import Derived.Test.YtinjainclhfahaaRows
import Derived.Test.YtinjainclhfahaaZWFormatq11
namespace Go.Proofs.Ytinjainclhfahaa
open Go.RowKit

theorem Up.ownGe {w w' : World} (h : Up w w') {g : Nat} (hg : w.heap.size ≤ g) (o : Nat) : w'.frozen? ⟨g, o, none⟩ = false := by
  obtain ⟨b, rfl⟩ := Nat.le.dest hg
  exact h.own b o
/-- Pairs of int64, and their cells. -/
abbrev It := Int × Int
def fl : List It → List Value
  | [] => []
  | p :: L => .int .i64 p.1 :: .int .i64 p.2 :: fl L
theorem fl_get0 (L : List It) (k : Nat) (h : k < L.length) : (fl L)[k * 2]? = some (.int .i64 (L[k]).1) := by
  induction L generalizing k with
  | nil => simp at h
  | cons p L ih =>
    cases k with
    | zero => rfl
    | succ k => rw [show (k + 1) * 2 = k * 2 + 1 + 1 by omega]; simpa [fl] using ih k (by simpa using h)
theorem fl_get1 (L : List It) (k : Nat) (h : k < L.length) : (fl L)[k * 2 + 1]? = some (.int .i64 (L[k]).2) := by
  induction L generalizing k with
  | nil => simp at h
  | cons p L ih =>
    cases k with
    | zero => rfl
    | succ k => rw [show (k + 1) * 2 + 1 = k * 2 + 1 + 1 + 1 by omega]; simpa [fl] using ih k (by simpa using h)
theorem fl_set (L : List It) (k : Nat) (p : It) : ((fl L).set (k * 2) (.int .i64 p.1)).set (k * 2 + 1) (.int .i64 p.2) = fl (L.set k p) := by
  induction L generalizing k with
  | nil => simp [fl]
  | cons q L ih =>
    cases k with
    | zero => rfl
    | succ k => rw [show (k + 1) * 2 = k * 2 + 1 + 1 by omega]; simpa [fl] using ih k

/-- A slice that reads as the list L. -/
def Sl (w : World) (A : Option Addr) (n : Nat) (L : List It) : Prop :=
  L.length = n ∧ (0 < n → ∃ b o, A = some ⟨b, o, none⟩ ∧ ∀ j u, (fl L)[j]? = some u → w.cell? ⟨b, o + j, none⟩ = some u)
theorem Sl.none_ {w : World} {A : Option Addr} : Sl w A 0 [] := ⟨rfl, fun h => absurd h (by omega)⟩
theorem Sl.at_ {w : World} {A : Option Addr} {n : Nat} {L : List It} (h : Sl w A n L) {k : Nat} (hk : k < n) :
    ∃ b o, A = some ⟨b, o, none⟩ ∧ w.cell? ⟨b, o + k * 2, none⟩ = some (.int .i64 (L.getD k (0, 0)).1) ∧ w.cell? ⟨b, o + k * 2 + 1, none⟩ = some (.int .i64 (L.getD k (0, 0)).2) := by
  obtain ⟨b, o, e, hc⟩ := h.2 (by omega)
  have hl : k < L.length := by rw [h.1]; exact hk
  refine ⟨b, o, e, ?_, ?_⟩
  · rw [hc _ _ (fl_get0 L k hl)]; simp [List.getD, hl]
  · rw [Nat.add_assoc, hc _ _ (fl_get1 L k hl)]; simp [List.getD, hl]
theorem Sl.up {w w' : World} {A : Option Addr} {n : Nat} {L : List It} (h : Sl w A n L) (hu : Up w w') : Sl w' A n L :=
  ⟨h.1, fun hn => by
    obtain ⟨b, o, e, hc⟩ := h.2 hn
    exact ⟨b, o, e, fun j u hj => hu.keep _ _ _ (hc j u hj)⟩⟩
/-- Block g is just the cells cs of element type t. -/
def Blk (w : World) (g : Nat) (t : TypeId) (cs : Array Value) : Prop := w.heap[g]? = some (.cells cs t (0, 0))
section
variable {w w' : World} {g : Nat} {t : TypeId} {cs : Array Value}
theorem Blk.lt (h : Blk w g t cs) : g < w.heap.size := by
  rcases Nat.lt_or_ge g w.heap.size with hlt | hge
  · exact hlt
  · unfold Blk at h; rw [Array.getElem?_eq_none hge] at h; cases h
theorem Blk.cell (h : Blk w g t cs) (i : Nat) : w.cell? ⟨g, i, none⟩ = cs[i]? := cell_of_row w g i cs t (0, 0) h
theorem Blk.frozen (h : Blk w g t cs) (i : Nat) : w.frozen? ⟨g, i, none⟩ = false := by
  unfold Blk at h
  simp [World.frozen?, h]
theorem Blk.new (w : World) (t : TypeId) (cs : Array Value) : Blk (w.alloc (.cells cs t)) w.heap.size t cs := heap_alloc_new w _
theorem Blk.drew (h : Blk w g t cs) : Blk w.drew g t cs := h
theorem Blk.drewN (h : Blk w g t cs) (n : Nat) : Blk (w.drewN n) g t cs := h
theorem Blk.alloc (h : Blk w g t cs) (o : Obj) : Blk (w.alloc o) g t cs := (Below.heap_alloc w o g h.lt).trans h
theorem Blk.set_ (h : Blk w g t cs) (i : Nat) (u : Value) : Blk (w.setCell ⟨g, i, none⟩ u) g t (cs.setIfInBounds i u) := by
  unfold Blk at h ⊢
  simp [World.setCell, Array.getElem?_modify, h]
theorem Blk.far (h : Blk w g t cs) {p : Addr} (hp : g ≠ p.block) (u : Value) : Blk (w.setCell p u) g t cs := (Below.heap_setCell w p u g hp).trans h
theorem Blk.up (h : Blk w g t cs) (hu : Up w w') : Blk w' g t cs := (hu.below.block g h.lt).trans h
end
/-- A block of items. -/
def Bi (w : World) (g : Nat) (L : List It) : Prop := Blk w g 53 (fl L).toArray
theorem Bi.up {w w' : World} {g : Nat} {L : List It} (h : Bi w g L) (hu : Up w w') : Bi w' g L := Blk.up h hu
theorem Bi.at_ {w : World} {g : Nat} {L : List It} (h : Bi w g L) {k : Nat} (hk : k < L.length) :
    w.cell? ⟨g, k * 2, none⟩ = some (.int .i64 (L.getD k (0, 0)).1) ∧ w.cell? ⟨g, k * 2 + 1, none⟩ = some (.int .i64 (L.getD k (0, 0)).2) := by
  refine ⟨?_, ?_⟩
  · rw [Blk.cell h]; simp [fl_get0 L k hk, List.getD, hk]
  · rw [Blk.cell h]; simp [fl_get1 L k hk, List.getD, hk]
theorem Bi.set_ {w : World} {g : Nat} {L : List It} (h : Bi w g L) (k : Nat) (a b : Int) :
    Bi ((w.setCell ⟨g, k * 2, none⟩ (.int .i64 a)).setCell ⟨g, k * 2 + 1, none⟩ (.int .i64 b)) g (L.set k (a, b)) := by
  have h1 := Blk.set_ (Blk.set_ h (k * 2) (.int .i64 a)) (k * 2 + 1) (.int .i64 b)
  unfold Bi
  rw [← fl_set]
  simpa using h1

end Go.Proofs.Ytinjainclhfahaa

namespace Go.Proofs.Ytinjainclhfahaa
open Go.RowKit

theorem fl_take (L : List It) (k : Nat) : (fl L).take (k * 2) = fl (L.take k) := by
  induction L generalizing k with
  | nil => simp [fl]
  | cons p L ih =>
    cases k with
    | zero => rfl
    | succ k => rw [show (k + 1) * 2 = k * 2 + 1 + 1 by omega]; simpa [fl] using ih k
theorem Sl.first {w : World} {A : Option Addr} {n : Nat} {L : List It} (h : Sl w A n L) {k : Nat} (hk : k ≤ n) : Sl w A k (L.take k) := by
  refine ⟨by rw [List.length_take, h.1]; omega, fun hn => ?_⟩
  obtain ⟨b, o, rfl, hcell⟩ := h.2 (by omega)
  refine ⟨b, o, rfl, fun j u hu => hcell j u ?_⟩
  rw [← fl_take, List.getElem?_take] at hu
  split at hu
  · exact hu
  · cases hu

section
variable {w w' : World} {g : Nat} {t : TypeId} {cs : Array Value}
end
end Go.Proofs.Ytinjainclhfahaa

namespace Go.Proofs.Ytinjainclhfahaa
open Go.ChangeShapes Go.WideShapes Go.ChangeAt Go.RowKit Go.Joins Go.Deep

theorem laid_out : laidOutB Try.prog = true := by kernel_rfl
section
variable {H : Type} {enc : TypeId × Value → H} {w : World} {base : Nat} {spare : Nat → Bool} {held : Bool}
theorem stay {t : TypeId} (hr : Try.prog.readableRec t = true) (hrow : t < Try.prog.types.size) {W W' : World} {v : Value} {d : DataW H} {ps before : List MemPlace} {sp : Nat → Bool}
    (h : DataW.Trod enc Try.prog W 0 (fun _ => true) true t v d ps) (hu : Up W W') (hlt : ∀ x ∈ before, x.block < W.heap.size) (hsub : ∀ x ∈ ps, x ∈ before) (hsp : ∀ x ∈ before, sp x.block = true) :
    DataW.Trod enc Try.prog W' 0 sp true t v d ps :=
  WideElems.Trod_stays laid_out hr hrow h (fun x hx => hu.below.same (hlt x (hsub x hx))) (fun x hx => hsp x (hsub x hx))
end
end Go.Proofs.Ytinjainclhfahaa

namespace Go.Proofs.Ytinjainclhfahaa
open Go.RowKit

/-- The size of a bucket of a level. -/
def szB (l : Int) : Int := if 0 ≤ l ∧ l ≤ 30 then 2 ^ l.toNat else 0
/-- Total. -/
def totB : List It → Int
  | [] => 0
  | p :: L => szB p.2 + totB L
theorem totB_app (L M : List It) : totB (L ++ M) = totB L + totB M := by
  induction L with
  | nil => simp [totB]
  | cons p L ih => simp only [List.cons_append, totB, ih]; omega
theorem szB_low (l : Int) : 0 ≤ szB l := by
  unfold szB
  split
  · exact Int.le_of_lt (Int.pow_pos (by omega))
  · exact Int.le_refl _
theorem pwB1 (a : Nat) : (1 : Int) ≤ 2 ^ a := Int.pow_pos (by omega)
/-- Buckets of a level; buckets of greater levels. -/
def cn (l : Int) (X : List It) : Nat := X.countP (fun x => x.2 == l)
def gt (l : Int) (X : List It) : Nat := X.countP (fun x => decide (l < x.2))
def Ds (X : List It) : Prop := X.Pairwise (fun x y => y.2 ≤ x.2)
def As (X : List It) : Prop := X.Pairwise (fun x y => x.1 ≤ y.1)
theorem cn_nil (l : Int) : cn l [] = 0 := rfl
theorem cn_cons (l : Int) (x : It) (X : List It) : cn l (x :: X) = cn l X + (if x.2 = l then 1 else 0) := by
  unfold cn; rw [List.countP_cons]; simp
theorem gt_cons (l : Int) (x : It) (X : List It) : gt l (x :: X) = gt l X + (if l < x.2 then 1 else 0) := by
  unfold gt; rw [List.countP_cons]; simp
theorem cn_app (l : Int) (X Y : List It) : cn l (X ++ Y) = cn l X + cn l Y := List.countP_append
theorem cn_zero {l : Int} {X : List It} (h : ∀ x ∈ X, x.2 ≠ l) : cn l X = 0 := by
  unfold cn; rw [List.countP_eq_zero]; intro x hx; simpa using h x hx
theorem gt_zero {l : Int} {X : List It} (h : ∀ x ∈ X, x.2 ≤ l) : gt l X = 0 := by
  unfold gt; rw [List.countP_eq_zero]; intro x hx; have := h x hx; simp; omega
theorem cn_pos {l : Int} {X : List It} : 0 < cn l X ↔ ∃ x ∈ X, x.2 = l := by
  unfold cn; rw [List.countP_pos_iff]; simp
/-- Where two buckets of a level are, the list falls into parts. -/
theorem split2 {l : Int} : ∀ {X : List It}, Ds X → 2 ≤ cn l X → ∃ P a b Q, X = P ++ (a, l) :: (b, l) :: Q ∧ P.length = gt l X ∧ (∀ x ∈ P, l < x.2) ∧ (∀ x ∈ Q, x.2 ≤ l) := by
  intro X
  induction X with
  | nil => intro _ h; simp [cn] at h
  | cons x X ih =>
    intro hd hc
    unfold Ds at hd
    rw [List.pairwise_cons] at hd
    obtain ⟨h1, h2⟩ := hd
    rw [cn_cons] at hc
    rcases Int.lt_trichotomy l x.2 with g | g | g
    · rw [if_neg (by omega)] at hc
      obtain ⟨P, a, b, Q, e, e2, e3, e4⟩ := ih h2 (by omega)
      refine ⟨x :: P, a, b, Q, by rw [e]; rfl, ?_, ?_, e4⟩
      · rw [gt_cons, if_pos g, List.length_cons, e2]
      · intro y hy
        rcases List.mem_cons.1 hy with rfl | hy
        · exact g
        · exact e3 y hy
    · rw [if_pos g.symm] at hc
      cases X with
      | nil => simp [cn] at hc
      | cons y Y =>
        have hy : y.2 = l := by
          have hyl := h1 y List.mem_cons_self
          rcases Int.lt_or_eq_of_le hyl with g2 | g2
          · exfalso
            have : cn l (y :: Y) = 0 := cn_zero (fun z hz => by
              rcases List.mem_cons.1 hz with rfl | hz
              · omega
              · have := (List.pairwise_cons.1 h2).1 z hz; omega)
            omega
          · omega
        obtain ⟨x1, x2⟩ := x
        obtain ⟨y1, y2⟩ := y
        simp only at g hy h1
        subst g hy
        refine ⟨[], x1, y1, Y, rfl, ?_, fun z hz => by simp at hz, fun z hz => h1 z (List.mem_cons_of_mem _ hz)⟩
        rw [gt_zero]
        · rfl
        · intro z hz
          rcases List.mem_cons.1 hz with rfl | hz
          · exact Int.le_refl _
          · exact h1 z hz
    · exfalso
      rw [if_neg (by omega)] at hc
      have : cn l X = 0 := cn_zero (fun z hz => by have := h1 z hz; omega)
      omega
/-- The two oldest buckets of a level become one of the next. -/
def mgB (X : List It) (l : Int) : List It := X.take (gt l X) ++ ((X.getD (gt l X + 1) (0, 0)).1, l + 1) :: X.drop (gt l X + 2)
theorem mgB_split {l a b : Int} {P Q : List It} (h : P.length = gt l (P ++ (a, l) :: (b, l) :: Q)) : mgB (P ++ (a, l) :: (b, l) :: Q) l = P ++ (b, l + 1) :: Q := by
  unfold mgB
  rw [← h]
  simp [List.getD, List.drop_append, show P.length + 2 - P.length = 2 by omega]
def puS (k : Int) : Nat → Int → List It → List It
  | 0, _, X => X
  | n + 1, l, X => if (cn l X : Int) ≤ k + 1 then X else puS k n (l + 1) (mgB X l)
/-- The list behind one insertion. -/
def puB (k t : Int) (L : List It) : List It := puS k 31 0 (L ++ [(t, 0)])
/-- Ticks and levels within their limits. -/
def Rg (X : List It) : Prop := ∀ x ∈ X, (0 ≤ x.1 ∧ x.1 ≤ 16777216) ∧ 0 ≤ x.2 ∧ x.2 ≤ 30
/-- Levels below a bucket's are full. -/
def Fl (k : Int) (X : List It) : Prop := ∀ x ∈ X, ∀ j, 0 ≤ j → j < x.2 → k ≤ (cn j X : Int)
structure Va (X : List It) (k : Int) : Prop where
  k1 : 1 ≤ k
  k2 : k ≤ 128
  rg : Rg X
  ds : Ds X
  as_ : As X
  up : ∀ j, (cn j X : Int) ≤ k + 1
  fl : Fl k X
/-- The list while buckets are merged: level l may have one more. -/
structure Iv (X : List It) (k l T t : Int) : Prop where
  k1 : 1 ≤ k
  k2 : k ≤ 128
  l0 : 0 ≤ l
  rg : Rg X
  ds : Ds X
  as_ : As X
  up : ∀ j, j ≠ l → (cn j X : Int) ≤ k + 1
  at_ : (cn l X : Int) ≤ k + 2
  fl : Fl k X
  tot : totB X = T
  last : ∀ x ∈ X, x.1 ≤ t
theorem Ds.app {P Q : List It} : Ds (P ++ Q) ↔ Ds P ∧ Ds Q ∧ ∀ x ∈ P, ∀ y ∈ Q, y.2 ≤ x.2 := List.pairwise_append
theorem As.app {P Q : List It} : As (P ++ Q) ↔ As P ∧ As Q ∧ ∀ x ∈ P, ∀ y ∈ Q, x.1 ≤ y.1 := List.pairwise_append
theorem Ds.cons {x : It} {Q : List It} : Ds (x :: Q) ↔ (∀ y ∈ Q, y.2 ≤ x.2) ∧ Ds Q := List.pairwise_cons
theorem As.cons {x : It} {Q : List It} : As (x :: Q) ↔ (∀ y ∈ Q, x.1 ≤ y.1) ∧ As Q := List.pairwise_cons
theorem szB_two {l : Int} (h0 : 0 ≤ l) (h1 : l < 30) : szB (l + 1) = szB l + szB l := by
  unfold szB
  rw [if_pos (by omega), if_pos (by omega), show (l + 1).toNat = l.toNat + 1 by omega, Int.pow_succ]
  omega
theorem cn_parts (j l a b : Int) (P Q : List It) : cn j (P ++ (a, l) :: (b, l) :: Q) = cn j P + cn j Q + (if l = j then 2 else 0) := by
  rw [cn_app, cn_cons, cn_cons]
  simp only
  split <;> omega
theorem cn_part1 (j l b : Int) (P Q : List It) : cn j (P ++ (b, l + 1) :: Q) = cn j P + cn j Q + (if l + 1 = j then 1 else 0) := by
  rw [cn_app, cn_cons]
  simp only
  omega
/-- What one merge does to the numbers of buckets. -/
theorem mg_cn {X : List It} {l : Int} (hd : Ds X) (hc : 2 ≤ cn l X) (j : Int) : (cn j (mgB X l) : Int) = cn j X + (if j = l then -2 else if j = l + 1 then 1 else 0) := by
  obtain ⟨P, a, b, Q, rfl, e2, e3, e4⟩ := split2 hd hc
  rw [mgB_split e2, cn_parts, cn_part1]
  repeat' split
  all_goals omega
theorem mg_mem {X : List It} {l : Int} (hd : Ds X) (hc : 2 ≤ cn l X) {x : It} (hx : x ∈ mgB X l) : x ∈ X ∨ (x.2 = l + 1 ∧ (x.1, l) ∈ X) := by
  obtain ⟨P, a, b, Q, rfl, e2, e3, e4⟩ := split2 hd hc
  rw [mgB_split e2] at hx
  rcases List.mem_append.1 hx with h | h
  · exact Or.inl (List.mem_append_left _ h)
  · rcases List.mem_cons.1 h with rfl | h
    · exact Or.inr ⟨rfl, by simp⟩
    · exact Or.inl (by simp [h])
theorem mg_ds {X : List It} {l : Int} (hd : Ds X) (hc : 2 ≤ cn l X) : Ds (mgB X l) := by
  obtain ⟨P, a, b, Q, rfl, e2, e3, e4⟩ := split2 hd hc
  rw [mgB_split e2]
  rw [Ds.app, Ds.cons, Ds.cons] at hd
  rw [Ds.app, Ds.cons]
  refine ⟨hd.1, ⟨fun y hy => by have := e4 y hy; simp only; omega, hd.2.1.2.2⟩, fun x hx y hy => ?_⟩
  have h1 := e3 x hx
  rcases List.mem_cons.1 hy with rfl | hy
  · simp only; omega
  · have := e4 y hy; omega
theorem mg_as {X : List It} {l : Int} (ha : As X) (hd : Ds X) (hc : 2 ≤ cn l X) : As (mgB X l) := by
  obtain ⟨P, a, b, Q, rfl, e2, e3, e4⟩ := split2 hd hc
  rw [mgB_split e2]
  rw [As.app, As.cons, As.cons] at ha
  rw [As.app, As.cons]
  refine ⟨ha.1, ha.2.1.2, fun x hx y hy => ?_⟩
  rcases List.mem_cons.1 hy with rfl | hy
  · exact ha.2.2 x hx (b, l) (by simp)
  · exact ha.2.2 x hx y (by simp [hy])
theorem mg_tot {X : List It} {l : Int} (h0 : 0 ≤ l) (h1 : l < 30) (hd : Ds X) (hc : 2 ≤ cn l X) : totB (mgB X l) = totB X := by
  obtain ⟨P, a, b, Q, rfl, e2, e3, e4⟩ := split2 hd hc
  rw [mgB_split e2, totB_app, totB_app]
  simp only [totB]
  rw [szB_two h0 h1]
  omega
theorem cn_tot {X : List It} {l : Int} (h0 : 0 ≤ l) (h1 : l ≤ 30) : (cn l X : Int) * 2 ^ l.toNat ≤ totB X := by
  induction X with
  | nil => simp [cn, totB]
  | cons x X ih =>
    rw [cn_cons]
    simp only [totB]
    split
    next e =>
      rw [show szB x.2 = 2 ^ l.toNat by unfold szB; rw [e, if_pos ⟨h0, h1⟩], Int.natCast_add, Int.add_mul]
      omega
    next e => have := szB_low x.2; rw [Nat.add_zero]; omega
/-- At the last level nothing is merged. -/
theorem Iv.top {X : List It} {k l T t : Int} (h : Iv X k l T t) (hT : T ≤ 1073741824) (hl : l = 30) : (cn l X : Int) ≤ k + 1 := by
  subst hl
  have := cn_tot (X := X) (l := 30) (by omega) (by omega)
  rw [h.tot] at this
  have h1 := h.k1
  have e : (2 : Int) ^ (30 : Int).toNat = 1073741824 := by decide
  rw [e] at this
  omega
theorem Iv.next {X : List It} {k l T t : Int} (h : Iv X k l T t) (hT : T ≤ 1073741824) (hl : l ≤ 30) (hc : ¬ (cn l X : Int) ≤ k + 1) : l < 30 ∧ (cn l X : Int) = k + 2 ∧ 2 ≤ cn l X ∧ Iv (mgB X l) k (l + 1) T t := by
  have hlt : l < 30 := by
    rcases Int.lt_or_eq_of_le hl with g | g
    · exact g
    · exact absurd (h.top hT g) hc
  have h1 := h.k1
  have h2 := h.at_
  have hc2 : 2 ≤ cn l X := by omega
  have hcn := mg_cn h.ds hc2
  refine ⟨hlt, by omega, hc2, ⟨h.k1, h.k2, by have := h.l0; omega, ?_, mg_ds h.ds hc2, mg_as h.as_ h.ds hc2, ?_, ?_, ?_, (mg_tot h.l0 hlt h.ds hc2).trans h.tot, ?_⟩⟩
  · intro x hx
    rcases mg_mem h.ds hc2 hx with g | ⟨g, g2⟩
    · exact h.rg x g
    · have q := (h.rg _ g2).1
      have := h.l0
      exact ⟨q, by omega, by omega⟩
  · intro j hj
    rw [hcn]
    by_cases e : j = l
    · rw [if_pos e]; subst e; omega
    · rw [if_neg e, if_neg hj]
      have := h.up j e
      omega
  · rw [hcn, if_neg (by omega), if_pos rfl]
    have := h.up (l + 1) (by omega)
    omega
  · intro x hx j hj hjx
    rw [hcn]
    by_cases e : j = l
    · rw [if_pos e]; subst e; omega
    · rw [if_neg e]
      have hk : k ≤ (cn j X : Int) := by
        rcases mg_mem h.ds hc2 hx with g | ⟨g, g2⟩
        · exact h.fl x g j hj hjx
        · exact h.fl _ g2 j hj (by simp only; omega)
      split <;> omega
  · intro x hx
    rcases mg_mem h.ds hc2 hx with g | ⟨_, g2⟩
    · exact h.last x g
    · exact h.last (x.1, l) g2
theorem Iv.done {X : List It} {k l T t : Int} (h : Iv X k l T t) (hc : (cn l X : Int) ≤ k + 1) : Va X k :=
  ⟨h.k1, h.k2, h.rg, h.ds, h.as_, fun j => by
    by_cases e : j = l
    · rw [e]; exact hc
    · exact h.up j e, h.fl⟩
theorem puS_at {k : Int} {n : Nat} {l : Int} {X : List It} (h : (cn l X : Int) ≤ k + 1) : puS k n l X = X := by
  cases n with
  | zero => rfl
  | succ n => unfold puS; rw [if_pos h]
theorem puS_step {k : Int} {n : Nat} {l : Int} {X : List It} (h : ¬ (cn l X : Int) ≤ k + 1) : puS k (n + 1) l X = puS k n (l + 1) (mgB X l) := by
  rw [puS, if_neg h]
theorem puS_va {k T t : Int} (hT : T ≤ 1073741824) : ∀ {n : Nat} {l : Int} {X : List It}, Iv X k l T t → l + n = 31 → 0 < n → Va (puS k n l X) k ∧ totB (puS k n l X) = T ∧ ∀ x ∈ puS k n l X, x.1 ≤ t := by
  intro n
  induction n with
  | zero => intro l X _ _ h0; exact absurd h0 (by omega)
  | succ n ih =>
    intro l X h hn _
    by_cases hc : (cn l X : Int) ≤ k + 1
    · rw [puS_at hc]; exact ⟨h.done hc, h.tot, h.last⟩
    · rw [puS_step hc]
      obtain ⟨h1, h2, h3, h4⟩ := h.next hT (by omega) hc
      exact ih h4 (by omega) (by omega)
theorem Va.start {X : List It} {k t : Int} (h : Va X k) (h0 : 0 ≤ t) (h1 : t ≤ 16777216) (hl : ∀ x ∈ X, x.1 ≤ t) : Iv (X ++ [(t, 0)]) k 0 (totB X + 1) t := by
  have hcn : ∀ j, cn j (X ++ [(t, 0)]) = cn j X + (if (0 : Int) = j then 1 else 0) := fun j => by rw [cn_app, cn_cons, cn_nil, Nat.zero_add]
  refine ⟨h.k1, h.k2, Int.le_refl _, ?_, ?_, ?_, ?_, ?_, ?_, ?_, ?_⟩
  · intro x hx
    rcases List.mem_append.1 hx with g | g
    · exact h.rg x g
    · simp only [List.mem_singleton] at g; subst g; exact ⟨⟨h0, h1⟩, Int.le_refl _, by simp only; omega⟩
  · rw [Ds.app]
    refine ⟨h.ds, List.pairwise_singleton _ _, fun x hx y hy => ?_⟩
    simp only [List.mem_singleton] at hy; subst hy
    exact (h.rg x hx).2.1
  · rw [As.app]
    refine ⟨h.as_, List.pairwise_singleton _ _, fun x hx y hy => ?_⟩
    simp only [List.mem_singleton] at hy; subst hy
    exact hl x hx
  · intro j hj
    rw [hcn, if_neg (fun e => hj e.symm)]
    exact h.up j
  · rw [hcn, if_pos rfl]
    have := h.up 0
    omega
  · intro x hx j hj hjx
    rw [hcn]
    rcases List.mem_append.1 hx with g | g
    · have := h.fl x g j hj hjx
      split <;> omega
    · simp only [List.mem_singleton] at g; subst g; simp only at hjx; omega
  · rw [totB_app]
    have : totB [(t, 0)] = 1 := by simp [totB, szB]
    omega
  · intro x hx
    rcases List.mem_append.1 hx with g | g
    · exact hl x g
    · simp only [List.mem_singleton] at g; subst g; exact Int.le_refl _
theorem puB_va {X : List It} {k t : Int} (h : Va X k) (h0 : 0 ≤ t) (h1 : t ≤ 16777216) (hl : ∀ x ∈ X, x.1 ≤ t) (hT : totB X < 1073741824) : Va (puB k t X) k ∧ totB (puB k t X) = totB X + 1 ∧ ∀ x ∈ puB k t X, x.1 ≤ t :=
  puS_va (by omega) (h.start h0 h1 hl) rfl (by omega)
theorem Va.nil {k : Int} (h1 : 1 ≤ k) (h2 : k ≤ 128) : Va [] k :=
  ⟨h1, h2, fun x hx => (by cases hx), List.Pairwise.nil, List.Pairwise.nil, fun j => (by rw [cn_nil]; omega), fun x hx => (by cases hx)⟩
def vlB : List Int → Int
  | [] => 0
  | c :: cs => c + 2 * vlB cs
def smB : List Int → Int
  | [] => 0
  | c :: cs => c + smB cs
theorem pow_succ2 (f : Nat) : (2 : Int) ^ (f + 1) = 2 * 2 ^ f := by rw [Int.pow_succ]; omega
/-- The numbers of buckets of a valid list. -/
def Gd (k : Int) : List Int → Prop
  | [] => True
  | c :: cs => c ≤ k + 1 ∧ (cs ≠ [] → k ≤ c) ∧ 1 ≤ c ∧ Gd k cs
theorem Gd.low {k : Int} (_hk : 1 ≤ k) : ∀ {cs : List Int}, Gd k cs → cs ≠ [] → 2 ^ (cs.length - 1) * (1 + k) - k ≤ vlB cs := by
  intro cs
  induction cs with
  | nil => intro _ h; exact absurd rfl h
  | cons c cs ih =>
    intro h _
    obtain ⟨h1, h2, h3, h4⟩ := h
    cases cs with
    | nil => simp [vlB]; omega
    | cons d ds =>
      have g := ih h4 (by simp)
      have g2 := h2 (by simp)
      simp only [List.length_cons, Nat.add_sub_cancel] at g ⊢
      rw [pow_succ2, Int.mul_assoc]
      rw [vlB]
      omega
/-- The numbers of buckets of each level. -/
def tpB (X : List It) : Nat := (X.getD 0 (0, 0)).2.toNat
def ctL (X : List It) : List Int := if X = [] then [] else (List.range (tpB X + 1)).map (fun j : Nat => (cn (j : Int) X : Int))
theorem vlB_add (f g : Nat → Int) (R : List Nat) : vlB (R.map (fun j => f j + g j)) = vlB (R.map f) + vlB (R.map g) := by
  induction R with
  | nil => rfl
  | cons a R ih => simp only [List.map_cons, vlB, ih]; omega
theorem smB_add (f g : Nat → Int) (R : List Nat) : smB (R.map (fun j => f j + g j)) = smB (R.map f) + smB (R.map g) := by
  induction R with
  | nil => rfl
  | cons a R ih => simp only [List.map_cons, smB, ih]; omega
theorem vlB_zero (R : List Nat) : vlB (R.map (fun _ => (0 : Int))) = 0 := by
  induction R with
  | nil => rfl
  | cons a R ih => simp only [List.map_cons, vlB, ih]; omega
theorem smB_zero (R : List Nat) : smB (R.map (fun _ => (0 : Int))) = 0 := by
  induction R with
  | nil => rfl
  | cons a R ih => simp only [List.map_cons, smB, ih]; omega
theorem range_map (f : Nat → Int) (m : Nat) : (List.range (m + 1)).map f = f 0 :: (List.range m).map (fun j => f (j + 1)) := by
  rw [List.range_succ_eq_map, List.map_cons, List.map_map]
  rfl
theorem vlB_one : ∀ (m a : Nat), a < m → vlB ((List.range m).map (fun j => if a = j then (1 : Int) else 0)) = 2 ^ a := by
  intro m
  induction m with
  | zero => intro a h; omega
  | succ m ih =>
    intro a h
    rw [range_map, vlB]
    cases a with
    | zero =>
      have e : (List.range m).map (fun j => if 0 = j + 1 then (1 : Int) else 0) = (List.range m).map (fun _ => (0 : Int)) := List.map_congr_left (fun j _ => if_neg (by omega))
      rw [e, vlB_zero]; rfl
    | succ a =>
      have e : (List.range m).map (fun j => if a + 1 = j + 1 then (1 : Int) else 0) = (List.range m).map (fun j => if a = j then (1 : Int) else 0) := List.map_congr_left (fun j _ => by simp)
      rw [e, ih a (by omega), if_neg (by omega), pow_succ2]; omega
theorem smB_one : ∀ (m a : Nat), a < m → smB ((List.range m).map (fun j => if a = j then (1 : Int) else 0)) = 1 := by
  intro m
  induction m with
  | zero => intro a h; omega
  | succ m ih =>
    intro a h
    rw [range_map, smB]
    cases a with
    | zero =>
      have e : (List.range m).map (fun j => if 0 = j + 1 then (1 : Int) else 0) = (List.range m).map (fun _ => (0 : Int)) := List.map_congr_left (fun j _ => if_neg (by omega))
      rw [e, smB_zero]; rfl
    | succ a =>
      have e : (List.range m).map (fun j => if a + 1 = j + 1 then (1 : Int) else 0) = (List.range m).map (fun j => if a = j then (1 : Int) else 0) := List.map_congr_left (fun j _ => by simp)
      rw [e, ih a (by omega), if_neg (by omega)]; omega
theorem cn_split (x : It) (X : List It) (h0 : 0 ≤ x.2) (m : Nat) : (List.range m).map (fun j : Nat => (cn (j : Int) (x :: X) : Int)) = (List.range m).map (fun j : Nat => (cn (j : Int) X : Int) + (if x.2.toNat = j then (1 : Int) else 0)) := by
  refine List.map_congr_left (fun j _ => ?_)
  rw [cn_cons]
  split
  next e => rw [if_pos (by omega)]; omega
  next e => rw [if_neg (by omega)]; omega
theorem cn_val (m : Nat) (hm : m ≤ 31) : ∀ (X : List It), (∀ x ∈ X, 0 ≤ x.2 ∧ x.2 < m) → vlB ((List.range m).map (fun j : Nat => (cn (j : Int) X : Int))) = totB X ∧ smB ((List.range m).map (fun j : Nat => (cn (j : Int) X : Int))) = (X.length : Int) := by
  intro X
  induction X with
  | nil => intro _; exact ⟨vlB_zero _, smB_zero _⟩
  | cons x X ih =>
    intro h
    obtain ⟨i1, i2⟩ := ih (fun y hy => h y (List.mem_cons_of_mem _ hy))
    obtain ⟨h0, h1⟩ := h x List.mem_cons_self
    rw [cn_split x X h0 m, vlB_add, smB_add, i1, i2, vlB_one m _ (by omega), smB_one m _ (by omega)]
    refine ⟨?_, by rw [List.length_cons]; omega⟩
    simp only [totB, szB]
    rw [if_pos (by omega)]; omega
theorem Gd.of_map {k : Int} : ∀ (m : Nat) (f : Nat → Int), (∀ j, j < m → k ≤ f j) → (∀ j, j ≤ m → f j ≤ k + 1) → 1 ≤ k → 1 ≤ f m → Gd k ((List.range (m + 1)).map f) := by
  intro m
  induction m with
  | zero =>
    intro f _ h2 _ h3
    have e : (List.range (0 + 1)).map f = [f 0] := rfl
    rw [e]
    exact ⟨h2 0 (by omega), fun h => absurd rfl h, h3, trivial⟩
  | succ m ih =>
    intro f h1 h2 hk h3
    rw [range_map]
    have := h1 0 (by omega)
    refine ⟨h2 0 (by omega), fun _ => this, by omega, ih (fun j => f (j + 1)) (fun j hj => h1 (j + 1) (by omega)) (fun j hj => h2 (j + 1) (by omega)) hk h3⟩
theorem getD0_mem {X : List It} (h : X ≠ []) : X.getD 0 (0, 0) ∈ X := by
  cases X with
  | nil => exact absurd rfl h
  | cons x X => simp
theorem Ds.top {X : List It} (h : Ds X) : ∀ x ∈ X, x.2 ≤ (X.getD 0 (0, 0)).2 := by
  cases X with
  | nil => intro x hx; cases hx
  | cons y X =>
    intro x hx
    rcases List.mem_cons.1 hx with rfl | hx
    · exact Int.le_refl _
    · exact (Ds.cons.1 h).1 x hx
theorem ctL_len (X : List It) (h : X ≠ []) : (ctL X).length = tpB X + 1 := by unfold ctL; rw [if_neg h]; simp
/-- What the numbers of buckets say of a valid list. -/
theorem Va.gd {X : List It} {k : Int} (h : Va X k) : Gd k (ctL X) ∧ vlB (ctL X) = totB X ∧ smB (ctL X) = (X.length : Int) := by
  by_cases hX : X = []
  · subst hX; exact ⟨trivial, rfl, rfl⟩
  have hm := getD0_mem hX
  have ht := h.ds.top
  have hr := h.rg _ hm
  unfold ctL
  rw [if_neg hX]
  have e : ((tpB X : Nat) : Int) = (X.getD 0 (0, 0)).2 := by unfold tpB; omega
  obtain ⟨c1, c2⟩ := cn_val (tpB X + 1) (by unfold tpB; omega) X (fun x hx => ⟨(h.rg x hx).2.1, by have := ht x hx; omega⟩)
  refine ⟨Gd.of_map _ _ (fun j hj => ?_) (fun j _ => h.up j) h.k1 ?_, c1, c2⟩
  · exact h.fl _ hm j (by omega) (by omega)
  · have : 0 < cn ((tpB X : Nat) : Int) X := cn_pos.2 ⟨_, hm, e.symm⟩
    omega
theorem Va.narrow {X : List It} {k : Int} (h : Va X k) (hX : X ≠ []) : k * (szB (X.getD 0 (0, 0)).2 - 1) + 1 ≤ totB X - szB (X.getD 0 (0, 0)).2 + 1 ∧ 1 ≤ szB (X.getD 0 (0, 0)).2 ∧ szB (X.getD 0 (0, 0)).2 ≤ totB X := by
  obtain ⟨h1, h2, h3⟩ := h.gd
  have hr := h.rg _ (getD0_mem hX)
  have g := h1.low h.k1 (by intro e; have := ctL_len X hX; rw [e] at this; simp at this)
  rw [h2, ctL_len X hX, Nat.add_sub_cancel] at g
  have e : szB (X.getD 0 (0, 0)).2 = 2 ^ tpB X := by unfold szB tpB; rw [if_pos (by omega)]
  rw [e]
  have p := pwB1 (tpB X)
  generalize (2 : Int) ^ tpB X = z at *
  have hk := h.k1
  rw [Int.mul_sub]
  rw [Int.mul_add, Int.mul_comm z k] at g
  have q : k * 1 ≤ k * z := Int.mul_le_mul_of_nonneg_left p (by omega)
  omega
end Go.Proofs.Ytinjainclhfahaa

namespace Go.Proofs.Ytinjainclhfahaa
open Go.RowKit

/-- A number of three words as a value. -/
def w3 (v : Int) : Value := .agg #[.int .u64 (dg3 v 0), .int .u64 (dg3 v 1), .int .u64 (dg3 v 2)]

end Go.Proofs.Ytinjainclhfahaa

namespace Go.Proofs.Ytinjainclhfahaa
open Go.RowKit

/-- What a copy leaves: block g has other cells. -/
structure Cp (w w' : World) (g : Nat) : Prop where
  up : ∀ w0, Up w0 w → w0.heap.size ≤ g → Up w0 w'
  far : ∀ b, b ≠ g → w'.heap[b]? = w.heap[b]?
  size : w'.heap.size = w.heap.size
  fr : ∀ a, w'.frozen? a = w.frozen? a
theorem Cp.refl (w : World) (g : Nat) : Cp w w g := ⟨fun _ h _ => h, fun _ _ => rfl, rfl, fun _ => rfl⟩
theorem Cp.keep {w w' : World} {g : Nat} (h : Cp w w' g) {b o : Nat} {v : Value} (hb : b ≠ g) (hc : w.cell? ⟨b, o, none⟩ = some v) : w'.cell? ⟨b, o, none⟩ = some v :=
  (World.cell?_of_block (a := ⟨b, o, none⟩) (h.far b hb)).trans hc
theorem Cp.set (w : World) (g : Nat) (cs cs' : Array Value) (t : TypeId) (h : Blk w g t cs) : Cp w (w.setRow g cs') g ∧ Blk (w.setRow g cs') g t cs' := by
  have hfar : ∀ b, b ≠ g → (w.setRow g cs').heap[b]? = w.heap[b]? := fun b hb => setRow_other w g b cs' hb
  have hat : Blk (w.setRow g cs') g t cs' := setRow_heap w g cs cs' t _ h
  have hsz : (w.setRow g cs').heap.size = w.heap.size := by simp [World.setRow]
  have hfr : ∀ a, (w.setRow g cs').frozen? a = w.frozen? a := fun a => by
    by_cases e : a.block = g
    · have e1 : (w.setRow g cs').heap[a.block]? = some (.cells cs' t (0, 0)) := by rw [e]; exact hat
      have e2 : w.heap[a.block]? = some (.cells cs t (0, 0)) := by rw [e]; exact h
      simp [World.frozen?, e1, e2]
    · exact World.frozen?_of_block (hfar _ e)
  refine ⟨⟨fun w0 hu hg => ?_, hfar, hsz, hfr⟩, hat⟩
  have hb : Below w0.heap.size w0 (w.setRow g cs') := hu.below.trans ⟨rfl, rfl, rfl, by rw [hsz]; exact Nat.le_refl _, fun k hk => hfar k (by omega)⟩
  refine ⟨⟨⟨hb.os, hb.output, fun i hi => ?_⟩, fun a => (hfr a).trans (hu.grown.2.1 a), hb.size⟩, hb⟩
  rw [hb.block i hi]
  cases hw : w0.heap[i]? with
  | none => rfl
  | some o => cases o with
    | cells c t fr => exact ⟨rfl, rfl, rfl, fun _ _ => rfl⟩
    | map es cl => exact Or.inr ⟨rfl, rfl⟩
    | _ => rfl

/-- A row of the call's own (made behind w0) that holds L. -/
def Own (w0 w : World) (v : Value) (n : Nat) (L : List It) : Prop := w.ownsRow w0.heap.size 53 2 v n (fl L)
theorem Own.nil (w0 w : World) : Own w0 w (.slice none 0 0) 0 [] := ⟨rfl, Or.inl ⟨rfl, rfl⟩⟩
theorem wpList_append_run {P : Program} {w : World} {ops : Array Oper} {rest : List Oper} {o : Oper} {a : Act} {Q : Exit → Act → World → Prop} (hgd : o.guard = none) (s x : Operand) (t : TypeId)
    (ho : o.op = .call { callee := .builtin .append, args := #[s, x], argTypes := #[t, t] }) (v u : Value) (hs : a.eval s = v) (hx : a.eval x = u) (v' : Value) (w' : World)
    (hr : (Builtin.append_ #[t, t] o.type #[v, u]).run P w = .ok v' w') (h : wpList P ops Q rest (a.put o.dst v') w') : wpList P ops Q (o :: rest) a w := by
  refine wpList_plain hgd fun K hK => ?_
  unfold Oper.wp
  simp only [execOp, ho, resolve, invoke, builtin, Sem.run_bind, Sem.run_pure, Result.andThen_ok, List.map_toArray, List.map_cons, List.map_nil, hs, hx, hr]
  exact hK _ _ h
theorem Own.of_up {w0 w w' : World} {v : Value} {n : Nat} {L : List It} (h : Own w0 w v n L) (hu : Up w w') : Own w0 w' v n L := by
  refine ⟨h.1, ?_⟩
  rcases h.2 with h0 | ⟨g, cap, cur, h1, h2, h3, h4⟩
  · exact Or.inl h0
  · exact Or.inr ⟨g, cap, cur, h1, h2, Blk.up (t := 53) h3 hu, h4⟩
theorem Sl.ne {w : World} {A : Option Addr} {n g : Nat} {L : List It} (h : Sl w A n L) (hn : 0 < n) (hg : w.heap.size ≤ g) : ∀ b o, A = some ⟨b, o, none⟩ → ¬ b = g := by
  rintro b o rfl rfl
  obtain ⟨b', o', e, hc⟩ := h.2 hn
  injection e with e
  injection e with e1 e2
  subst e1 e2
  have hl : 0 < L.length := by rw [h.1]; exact hn
  have := World.block_lt_of_cell? _ _ (hc _ _ (fl_get0 L 0 hl))
  simp at this
  omega

/-- What a function leaves that writes into blocks p and g alone. -/
structure Wr (w w' : World) (p g : Nat) : Prop where
  up : ∀ w0, Up w0 w → w0.heap.size ≤ p → w0.heap.size ≤ g → Up w0 w'
  far : ∀ b, b < w.heap.size → b ≠ p → b ≠ g → w'.heap[b]? = w.heap[b]?
  size : w.heap.size ≤ w'.heap.size
  fr : ∀ a, w'.frozen? a = w.frozen? a
section
variable {w w1 w2 : World} {p g : Nat}
theorem Wr.refl (w : World) (p g : Nat) : Wr w w p g := ⟨fun _ h _ _ => h, fun _ _ _ _ => rfl, Nat.le_refl _, fun _ => rfl⟩
theorem Wr.drew (h : Wr w w1 p g) : Wr w w1.drew p g := ⟨fun w0 h0 a b => (h.up w0 h0 a b).drew, h.far, h.size, h.fr⟩
theorem Wr.drewN (h : Wr w w1 p g) (n : Nat) : Wr w (w1.drewN n) p g := ⟨fun w0 h0 a b => (h.up w0 h0 a b).drewN n, h.far, h.size, h.fr⟩
theorem Wr.alloc (h : Wr w w1 p g) (c : Array Value) (t : TypeId) : Wr w (w1.alloc (.cells c t)) p g :=
  ⟨fun w0 h0 a b => (h.up w0 h0 a b).alloc c t, fun b hb hp hg => (Below.heap_alloc w1 _ b (Nat.lt_of_lt_of_le hb h.size)).trans (h.far b hb hp hg), by rw [size_alloc]; exact Nat.le_succ_of_le h.size, fun a => (frozen?_alloc_cells _ _ _ _).trans (h.fr a)⟩
theorem Wr.setG (h : Wr w w1 p g) (o : Nat) (v : Value) : Wr w (w1.setCell ⟨g, o, none⟩ v) p g :=
  ⟨fun w0 h0 a b => (h.up w0 h0 a b).setCell (by exact b) v, fun b hb hp hg => (Below.heap_setCell w1 _ v b (by exact hg)).trans (h.far b hb hp hg), by rw [size_set]; exact h.size, fun a => by rw [World.frozen?_setCell]; exact h.fr a⟩
theorem Wr.then (h : Wr w w1 p g) (hu : Up w1 w2) : Wr w w2 p g :=
  ⟨fun w0 h0 a b => (h.up w0 h0 a b).trans hu, fun b hb hp hg => (hu.below.block b (Nat.lt_of_lt_of_le hb h.size)).trans (h.far b hb hp hg), Nat.le_trans h.size hu.size, fun a => (hu.cells.2 a).trans (h.fr a)⟩
theorem Wr.trans {w3 : World} (h : Wr w w1 p g) (k : Wr w1 w3 p g) : Wr w w3 p g :=
  ⟨fun w0 h0 a b => k.up w0 (h.up w0 h0 a b) a b, fun b hb hp hg => (k.far b (Nat.lt_of_lt_of_le hb h.size) hp hg).trans (h.far b hb hp hg), Nat.le_trans h.size k.size, fun a => (k.fr a).trans (h.fr a)⟩
theorem Wr.keep (h : Wr w w1 p g) {b o : Nat} {v : Value} (hp : b ≠ p) (hg : b ≠ g) (hc : w.cell? ⟨b, o, none⟩ = some v) : w1.cell? ⟨b, o, none⟩ = some v :=
  (World.cell?_of_block (a := ⟨b, o, none⟩) (h.far b (World.block_lt_of_cell? w ⟨b, o, none⟩ hc) hp hg)).trans hc
end

/-- A buffer behind a pointer: its fields in block p, its cells in block g. -/
structure Rt (w : World) (p g c h l : Nat) (L : List It) : Prop where
  c0 : w.cell? ⟨p, 0, none⟩ = some (.int .i64 c)
  c1 : w.cell? ⟨p, 1, none⟩ = some (.int .i64 h)
  c2 : w.cell? ⟨p, 2, none⟩ = some (.int .i64 l)
  c3 : w.cell? ⟨p, 3, none⟩ = some (.slice (some ⟨g, 0, none⟩) c c)
  bi : Bi w g L
  fz : ∀ o, w.frozen? ⟨p, o, none⟩ = false
  ne : p ≠ g
  len : L.length = c
section
variable {w w' : World} {p g c h l : Nat} {L : List It}
theorem Rt.up (H : Rt w p g c h l L) (hu : Up w w') : Rt w' p g c h l L :=
  ⟨hu.keep _ _ _ H.c0, hu.keep _ _ _ H.c1, hu.keep _ _ _ H.c2, hu.keep _ _ _ H.c3, H.bi.up hu, fun o => (hu.cells.2 _).trans (H.fz o), H.ne, H.len⟩
theorem Rt.drew (H : Rt w p g c h l L) : Rt w.drew p g c h l L := ⟨H.c0, H.c1, H.c2, H.c3, H.bi, H.fz, H.ne, H.len⟩
theorem Rt.far (H : Rt w p g c h l L) {q : Nat} (hp : q ≠ p) (hg : q ≠ g) (o : Nat) (v : Value) : Rt (w.setCell ⟨q, o, none⟩ v) p g c h l L :=
  ⟨(cell_far hp).trans H.c0, (cell_far hp).trans H.c1, (cell_far hp).trans H.c2, (cell_far hp).trans H.c3, Blk.far H.bi (Ne.symm hg) _, fun o => by rw [World.frozen?_setCell]; exact H.fz o, H.ne, H.len⟩
theorem Rt.put (H : Rt w p g c h l L) (m : Nat) (a b : Int) : Rt ((w.setCell ⟨g, m * 2, none⟩ (.int .i64 a)).setCell ⟨g, m * 2 + 1, none⟩ (.int .i64 b)) p g c h l (L.set m (a, b)) := by
  have hn := Ne.symm H.ne
  have far : ∀ o v, w.cell? ⟨p, o, none⟩ = some v → ((w.setCell ⟨g, m * 2, none⟩ (.int .i64 a)).setCell ⟨g, m * 2 + 1, none⟩ (.int .i64 b)).cell? ⟨p, o, none⟩ = some v := fun o v hv => by
    rw [cell_far hn, cell_far hn]; exact hv
  exact ⟨far _ _ H.c0, far _ _ H.c1, far _ _ H.c2, far _ _ H.c3, H.bi.set_ m a b, fun o => by rw [World.frozen?_setCell, World.frozen?_setCell]; exact H.fz o, H.ne, by rw [List.length_set]; exact H.len⟩
end
end Go.Proofs.Ytinjainclhfahaa

namespace Go.Proofs.Ytinjainclhfahaa
open Go.RowKit

section
variable {w w1 w2 : World} {p g : Nat}
end

section
variable {w w' : World} {p g c h l : Nat} {L : List It}
theorem Up.set4 {w0 w : World} {p : Nat} {v0 v1 v2 v3 : Value} (h : Up w0 w) (hp : w0.heap.size ≤ p) : Up w0 ((((w.setCell ⟨p, 0, none⟩ v0).setCell ⟨p, 1, none⟩ v1).setCell ⟨p, 2, none⟩ v2).setCell ⟨p, 3, none⟩ v3) :=
  (((h.setCell hp _).setCell hp _).setCell hp _).setCell hp _
end
end Go.Proofs.Ytinjainclhfahaa

namespace Go.Proofs.Ytinjainclhfahaa
open Go.RowKit

/-- A row of the call's own. -/
def Rw (w0 w : World) (e : TypeId) (sz : Nat) (v : Value) (n : Nat) (cs : List Value) : Prop := w.ownsRow w0.heap.size e sz v n cs
theorem Rw.nil (w0 w : World) (e : TypeId) (sz : Nat) : Rw w0 w e sz (.slice none 0 0) 0 [] := ⟨by simp, Or.inl ⟨rfl, rfl⟩⟩
theorem Rw.of_up {w0 w w' : World} {e : TypeId} {sz n : Nat} {v : Value} {cs : List Value} (h : Rw w0 w e sz v n cs) (hu : Up w w') : Rw w0 w' e sz v n cs := by
  refine ⟨h.1, ?_⟩
  rcases h.2 with h0 | ⟨g, cap, cur, h1, h2, h3, h4⟩
  · exact Or.inl h0
  · exact Or.inr ⟨g, cap, cur, h1, h2, Blk.up (t := e) h3 hu, h4⟩
/-- Two addresses in different blocks. -/
def Apt (A B : Option Addr) : Prop := ∀ g o o', A = some ⟨g, o, none⟩ → B = some ⟨g, o', none⟩ → False
theorem Apt.symm {A B : Option Addr} (h : Apt A B) : Apt B A := fun g o o' h1 h2 => h g o' o h2 h1
theorem Rw.lt {w0 w : World} {e : TypeId} {sz n k : Nat} {B : Option Addr} {cs : List Value} (h : Rw w0 w e sz (.slice B n k) n cs) : ∀ g o, B = some ⟨g, o, none⟩ → g < w.heap.size := by
  rintro g o rfl
  rcases h.2 with ⟨h0, _⟩ | ⟨g2, cap, cur, h1, h2, h3, h4⟩
  · cases h0
  · cases h1
    exact Blk.lt (t := e) h3

end Go.Proofs.Ytinjainclhfahaa

namespace Go.Proofs.Ytinjainclhfahaa
open Go.RowKit

/-- A tick; the width of a window; the first tick of a window, or -1; whether a tick is live. -/
def tickB (t : Int) : Bool := decide (0 ≤ t ∧ t ≤ 16777216)
def winB (v : Int) : Bool := decide (1 ≤ v ∧ v ≤ 1048576)
def firZ (now v : Int) : Int := if (tickB now && winB v) = true then max 0 (now - v + 1) else -1
def liveB (now v t : Int) : Bool := tickB now && winB v && decide (firZ now v ≤ t) && decide (t ≤ now)
theorem tickB_yes {t : Int} (h : 0 ≤ t) (k : t ≤ 16777216) : tickB t = true := decide_eq_true ⟨h, k⟩
theorem tickB_low {t : Int} (h : t < 0) : tickB t = false := decide_eq_false (by omega)
theorem tickB_high {t : Int} (h : 16777216 < t) : tickB t = false := decide_eq_false (by omega)
theorem tickB_true {t : Int} (h : tickB t = true) : 0 ≤ t ∧ t ≤ 16777216 := of_decide_eq_true h
theorem winB_true {t : Int} (h : winB t = true) : 1 ≤ t ∧ t ≤ 1048576 := of_decide_eq_true h
theorem firZ_yes {now v : Int} (h : (tickB now && winB v) = true) : firZ now v = max 0 (now - v + 1) := by unfold firZ; rw [if_pos h]
theorem isTick_any (t : Int) (w : World) :
    Calls Try.prog 54 #[.int .i64 t] w fun e w' => e = .returned (.bool (tickB t)) ∧ w = w' := by
  by_cases h : 0 ≤ t
  · by_cases k : t ≤ 16777216
    · rw [tickB_yes h k]
      go_enter Try.func54, Try.ntmps54
      go_wp2
      go_ret
      exact ⟨rfl, rfl⟩
    · rw [tickB_high (by omega)]
      go_enter Try.func54, Try.ntmps54
      go_wp2
      go_ret
      exact ⟨rfl, rfl⟩
  · rw [tickB_low (by omega)]
    go_enter Try.func54, Try.ntmps54
    go_wp2
    go_ret
    exact ⟨rfl, rfl⟩
theorem rtick_any (t : Int) (w : World) :
    Calls Try.prog 33 #[.int .i64 t] w fun e w' => e = .returned (.bool (tickB t)) ∧ w = w' := by
  by_cases h : 0 ≤ t
  · by_cases k : t ≤ 16777216
    · rw [tickB_yes h k]
      go_enter Try.func33, Try.ntmps33
      go_wp2
      go_ret
      exact ⟨rfl, rfl⟩
    · rw [tickB_high (by omega)]
      go_enter Try.func33, Try.ntmps33
      go_wp2
      go_ret
      exact ⟨rfl, rfl⟩
  · rw [tickB_low (by omega)]
    go_enter Try.func33, Try.ntmps33
    go_wp2
    go_ret
    exact ⟨rfl, rfl⟩
theorem advance_any (now td x e : Int) (hx : (if tickB now = true then (if td < now ∨ 16777216 < td then (0, 3) else (td, 0)) else (0, 1)) = (x, e)) (w : World) :
    Calls Try.prog 35 #[.int .i64 now, .int .i64 td] w fun r w' => r = .returned (.tuple #[.int .i64 x, .int .i64 e]) ∧ w = w' := by
  have KT := Lib.hid (isTick_any now)
  cases ht : tickB now with
  | false =>
    rw [ht] at KT hx
    simp only [Bool.false_eq_true, if_false, Prod.mk.injEq] at hx
    obtain ⟨rfl, rfl⟩ := hx
    clear ht
    go_enter Try.func35, Try.ntmps35
    go_wp2_with (go_at_call 54; (with_reducible refine (KT.out _).mono ?_); rintro e w' ⟨rfl, rfl⟩)
    go_ret2
    exact ⟨rfl, rfl⟩
  | true =>
    rw [ht] at KT hx
    clear ht
    rw [if_pos rfl] at hx
    by_cases h : td < now
    · rw [if_pos (Or.inl h), Prod.mk.injEq] at hx
      obtain ⟨rfl, rfl⟩ := hx
      go_enter Try.func35, Try.ntmps35
      go_wp2_with (go_at_call 54; (with_reducible refine (KT.out _).mono ?_); rintro e w' ⟨rfl, rfl⟩)
      go_ret2
      exact ⟨rfl, rfl⟩
    · by_cases k : 16777216 < td
      · rw [if_pos (Or.inr k), Prod.mk.injEq] at hx
        obtain ⟨rfl, rfl⟩ := hx
        go_enter Try.func35, Try.ntmps35
        go_wp2_with (go_at_call 54; (with_reducible refine (KT.out _).mono ?_); rintro e w' ⟨rfl, rfl⟩)
        go_ret2
        exact ⟨rfl, rfl⟩
      · rw [if_neg (by omega), Prod.mk.injEq] at hx
        obtain ⟨rfl, rfl⟩ := hx
        go_enter Try.func35, Try.ntmps35
        go_wp2_with (go_at_call 54; (with_reducible refine (KT.out _).mono ?_); rintro e w' ⟨rfl, rfl⟩)
        go_ret2
        exact ⟨rfl, rfl⟩

theorem liveB_yes {now v t : Int} (h : (tickB now && winB v) = true) : liveB now v t = (decide (firZ now v ≤ t) && decide (t ≤ now)) := by unfold liveB; rw [h]; rfl
end Go.Proofs.Ytinjainclhfahaa

namespace Go.Proofs.Ytinjainclhfahaa
open Go.ChangeShapes Go.WideShapes Go.ChangeAt Go.RowKit Go.Joins Go.Deep

/-- A slice of int64 that reads as the list L. -/
def Sn (w : World) (A : Option Addr) (n : Nat) (L : List Int) : Prop :=
  L.length = n ∧ (0 < n → ∃ b o, A = some ⟨b, o, none⟩ ∧ ∀ j, j < n → w.cell? ⟨b, o + j, none⟩ = some (.int .i64 (L.getD j 0)))
theorem Sn.none_ {w : World} {A : Option Addr} : Sn w A 0 [] := ⟨rfl, fun h => absurd h (by omega)⟩
theorem Sn.up {w w' : World} {A : Option Addr} {n : Nat} {L : List Int} (h : Sn w A n L) (hu : Up w w') : Sn w' A n L :=
  ⟨h.1, fun hn => by
    obtain ⟨b, o, e, hc⟩ := h.2 hn
    exact ⟨b, o, e, fun j hj => hu.keep _ _ _ (hc j hj)⟩⟩
section
variable {H : Type} {enc : TypeId × Value → H} {w : World} {base : Nat} {spare : Nat → Bool} {held : Bool}
end
end Go.Proofs.Ytinjainclhfahaa

namespace Go.Proofs.Ytinjainclhfahaa

theorem pow_le_p {a b : Int} (h : 0 ≤ a) (h1 : a ≤ b) : ∀ j : Nat, a ^ j ≤ b ^ j := by
  intro j
  induction j with
  | zero => simp
  | succ j ih => rw [Int.pow_succ, Int.pow_succ]; exact Int.mul_le_mul ih h1 h (by
      have : 0 ≤ b := by omega
      exact Int.pow_nonneg this)
end Go.Proofs.Ytinjainclhfahaa
