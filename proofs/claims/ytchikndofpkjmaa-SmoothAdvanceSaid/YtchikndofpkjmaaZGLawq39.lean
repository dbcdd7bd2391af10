/- Texts of these claims, one after the other. -/
import Derived.Test.YtchikndofpkjmaaRows
import Derived.Test.YtchikndofpkjmaaZGBaseq18
namespace Go.Proofs.Ytchikndofpkjmaa
open Go.RowKit

/-- What a copy leaves: block g has other cells. -/
structure Cp (w w' : World) (g : Nat) : Prop where
  up : ∀ w0, Up w0 w → w0.heap.size ≤ g → Up w0 w'
  far : ∀ b, b ≠ g → w'.heap[b]? = w.heap[b]?
  size : w'.heap.size = w.heap.size
  fr : ∀ a, w'.frozen? a = w.frozen? a
theorem Cp.refl (w : World) (g : Nat) : Cp w w g := ⟨fun _ h _ => h, fun _ _ => rfl, rfl, fun _ => rfl⟩
theorem Cp.keep {w w' : World} {g : Nat} (h : Cp w w' g) {b o : Nat} {v : Value} (hb : b ≠ g) (hc : w.cell? ⟨b, o, none⟩ = some v) : w'.cell? ⟨b, o, none⟩ = some v :=
  (World.cell?_of_block (a := ⟨b, o, none⟩) (h.far b hb)).trans hc
theorem Cp.set (w : World) (g : Nat) (cs cs' : Array Value) (t : TypeId) (h : Blk w g t cs) : Cp w (w.setRow g cs') g ∧ Blk (w.setRow g cs') g t cs' := by
  have hfar : ∀ b, b ≠ g → (w.setRow g cs').heap[b]? = w.heap[b]? := fun b hb => setRow_other w g b cs' hb
  have hat : Blk (w.setRow g cs') g t cs' := setRow_heap w g cs cs' t _ h
  have hsz : (w.setRow g cs').heap.size = w.heap.size := by simp [World.setRow]
  have hfr : ∀ a, (w.setRow g cs').frozen? a = w.frozen? a := fun a => by
    by_cases e : a.block = g
    · have e1 : (w.setRow g cs').heap[a.block]? = some (.cells cs' t (0, 0)) := by rw [e]; exact hat
      have e2 : w.heap[a.block]? = some (.cells cs t (0, 0)) := by rw [e]; exact h
      simp [World.frozen?, e1, e2]
    · exact World.frozen?_of_block (hfar _ e)
  refine ⟨⟨fun w0 hu hg => ?_, hfar, hsz, hfr⟩, hat⟩
  have hb : Below w0.heap.size w0 (w.setRow g cs') := hu.below.trans ⟨rfl, rfl, rfl, by rw [hsz]; exact Nat.le_refl _, fun k hk => hfar k (by omega)⟩
  refine ⟨⟨⟨hb.os, hb.output, fun i hi => ?_⟩, fun a => (hfr a).trans (hu.grown.2.1 a), hb.size⟩, hb⟩
  rw [hb.block i hi]
  cases hw : w0.heap[i]? with
  | none => rfl
  | some o => cases o with
    | cells c t fr => exact ⟨rfl, rfl, rfl, fun _ _ => rfl⟩
    | map es cl => exact Or.inr ⟨rfl, rfl⟩
    | _ => rfl

/-- A row of the call's own (made behind w0) that holds L. -/
def Own (w0 w : World) (v : Value) (n : Nat) (L : List It) : Prop := w.ownsRow w0.heap.size 51 2 v n (fl L)
theorem Own.nil (w0 w : World) : Own w0 w (.slice none 0 0) 0 [] := ⟨rfl, Or.inl ⟨rfl, rfl⟩⟩
theorem wpList_append_run {P : Program} {w : World} {ops : Array Oper} {rest : List Oper} {o : Oper} {a : Act} {Q : Exit → Act → World → Prop} (hgd : o.guard = none) (s x : Operand) (t : TypeId)
    (ho : o.op = .call { callee := .builtin .append, args := #[s, x], argTypes := #[t, t] }) (v u : Value) (hs : a.eval s = v) (hx : a.eval x = u) (v' : Value) (w' : World)
    (hr : (Builtin.append_ #[t, t] o.type #[v, u]).run P w = .ok v' w') (h : wpList P ops Q rest (a.put o.dst v') w') : wpList P ops Q (o :: rest) a w := by
  refine wpList_plain hgd fun K hK => ?_
  unfold Oper.wp
  simp only [execOp, ho, resolve, invoke, builtin, Sem.run_bind, Sem.run_pure, Result.andThen_ok, List.map_toArray, List.map_cons, List.map_nil, hs, hx, hr]
  exact hK _ _ h
theorem Own.of_up {w0 w w' : World} {v : Value} {n : Nat} {L : List It} (h : Own w0 w v n L) (hu : Up w w') : Own w0 w' v n L := by
  refine ⟨h.1, ?_⟩
  rcases h.2 with h0 | ⟨g, cap, cur, h1, h2, h3, h4⟩
  · exact Or.inl h0
  · exact Or.inr ⟨g, cap, cur, h1, h2, Blk.up (t := 51) h3 hu, h4⟩
theorem Sl.ne {w : World} {A : Option Addr} {n g : Nat} {L : List It} (h : Sl w A n L) (hn : 0 < n) (hg : w.heap.size ≤ g) : ∀ b o, A = some ⟨b, o, none⟩ → ¬ b = g := by
  rintro b o rfl rfl
  obtain ⟨b', o', e, hc⟩ := h.2 hn
  injection e with e
  injection e with e1 e2
  subst e1 e2
  have hl : 0 < L.length := by rw [h.1]; exact hn
  have := World.block_lt_of_cell? _ _ (hc _ _ (fl_get0 L 0 hl))
  simp at this
  omega

/-- What a function leaves that writes into blocks p and g alone. -/
structure Wr (w w' : World) (p g : Nat) : Prop where
  up : ∀ w0, Up w0 w → w0.heap.size ≤ p → w0.heap.size ≤ g → Up w0 w'
  far : ∀ b, b < w.heap.size → b ≠ p → b ≠ g → w'.heap[b]? = w.heap[b]?
  size : w.heap.size ≤ w'.heap.size
  fr : ∀ a, w'.frozen? a = w.frozen? a
section
variable {w w1 w2 : World} {p g : Nat}
theorem Wr.refl (w : World) (p g : Nat) : Wr w w p g := ⟨fun _ h _ _ => h, fun _ _ _ _ => rfl, Nat.le_refl _, fun _ => rfl⟩
theorem Wr.drew (h : Wr w w1 p g) : Wr w w1.drew p g := ⟨fun w0 h0 a b => (h.up w0 h0 a b).drew, h.far, h.size, h.fr⟩
theorem Wr.drewN (h : Wr w w1 p g) (n : Nat) : Wr w (w1.drewN n) p g := ⟨fun w0 h0 a b => (h.up w0 h0 a b).drewN n, h.far, h.size, h.fr⟩
theorem Wr.alloc (h : Wr w w1 p g) (c : Array Value) (t : TypeId) : Wr w (w1.alloc (.cells c t)) p g :=
  ⟨fun w0 h0 a b => (h.up w0 h0 a b).alloc c t, fun b hb hp hg => (Below.heap_alloc w1 _ b (Nat.lt_of_lt_of_le hb h.size)).trans (h.far b hb hp hg), by rw [size_alloc]; exact Nat.le_succ_of_le h.size, fun a => (frozen?_alloc_cells _ _ _ _).trans (h.fr a)⟩
theorem Wr.setG (h : Wr w w1 p g) (o : Nat) (v : Value) : Wr w (w1.setCell ⟨g, o, none⟩ v) p g :=
  ⟨fun w0 h0 a b => (h.up w0 h0 a b).setCell (by exact b) v, fun b hb hp hg => (Below.heap_setCell w1 _ v b (by exact hg)).trans (h.far b hb hp hg), by rw [size_set]; exact h.size, fun a => by rw [World.frozen?_setCell]; exact h.fr a⟩
theorem Wr.then (h : Wr w w1 p g) (hu : Up w1 w2) : Wr w w2 p g :=
  ⟨fun w0 h0 a b => (h.up w0 h0 a b).trans hu, fun b hb hp hg => (hu.below.block b (Nat.lt_of_lt_of_le hb h.size)).trans (h.far b hb hp hg), Nat.le_trans h.size hu.size, fun a => (hu.cells.2 a).trans (h.fr a)⟩
theorem Wr.trans {w3 : World} (h : Wr w w1 p g) (k : Wr w1 w3 p g) : Wr w w3 p g :=
  ⟨fun w0 h0 a b => k.up w0 (h.up w0 h0 a b) a b, fun b hb hp hg => (k.far b (Nat.lt_of_lt_of_le hb h.size) hp hg).trans (h.far b hb hp hg), Nat.le_trans h.size k.size, fun a => (k.fr a).trans (h.fr a)⟩
theorem Wr.keep (h : Wr w w1 p g) {b o : Nat} {v : Value} (hp : b ≠ p) (hg : b ≠ g) (hc : w.cell? ⟨b, o, none⟩ = some v) : w1.cell? ⟨b, o, none⟩ = some v :=
  (World.cell?_of_block (a := ⟨b, o, none⟩) (h.far b (World.block_lt_of_cell? w ⟨b, o, none⟩ hc) hp hg)).trans hc
end

/-- A buffer behind a pointer: its fields in block p, its cells in block g. -/
structure Rt (w : World) (p g c h l : Nat) (L : List It) : Prop where
  c0 : w.cell? ⟨p, 0, none⟩ = some (.int .i64 c)
  c1 : w.cell? ⟨p, 1, none⟩ = some (.int .i64 h)
  c2 : w.cell? ⟨p, 2, none⟩ = some (.int .i64 l)
  c3 : w.cell? ⟨p, 3, none⟩ = some (.slice (some ⟨g, 0, none⟩) c c)
  bi : Bi w g L
  fz : ∀ o, w.frozen? ⟨p, o, none⟩ = false
  ne : p ≠ g
  len : L.length = c
section
variable {w w' : World} {p g c h l : Nat} {L : List It}
theorem Rt.up (H : Rt w p g c h l L) (hu : Up w w') : Rt w' p g c h l L :=
  ⟨hu.keep _ _ _ H.c0, hu.keep _ _ _ H.c1, hu.keep _ _ _ H.c2, hu.keep _ _ _ H.c3, H.bi.up hu, fun o => (hu.cells.2 _).trans (H.fz o), H.ne, H.len⟩
theorem Rt.drew (H : Rt w p g c h l L) : Rt w.drew p g c h l L := ⟨H.c0, H.c1, H.c2, H.c3, H.bi, H.fz, H.ne, H.len⟩
theorem Rt.far (H : Rt w p g c h l L) {q : Nat} (hp : q ≠ p) (hg : q ≠ g) (o : Nat) (v : Value) : Rt (w.setCell ⟨q, o, none⟩ v) p g c h l L :=
  ⟨(cell_far hp).trans H.c0, (cell_far hp).trans H.c1, (cell_far hp).trans H.c2, (cell_far hp).trans H.c3, Blk.far H.bi (Ne.symm hg) _, fun o => by rw [World.frozen?_setCell]; exact H.fz o, H.ne, H.len⟩
theorem Rt.put (H : Rt w p g c h l L) (m : Nat) (a b : Int) : Rt ((w.setCell ⟨g, m * 2, none⟩ (.int .i64 a)).setCell ⟨g, m * 2 + 1, none⟩ (.int .i64 b)) p g c h l (L.set m (a, b)) := by
  have hn := Ne.symm H.ne
  have far : ∀ o v, w.cell? ⟨p, o, none⟩ = some v → ((w.setCell ⟨g, m * 2, none⟩ (.int .i64 a)).setCell ⟨g, m * 2 + 1, none⟩ (.int .i64 b)).cell? ⟨p, o, none⟩ = some v := fun o v hv => by
    rw [cell_far hn, cell_far hn]; exact hv
  exact ⟨far _ _ H.c0, far _ _ H.c1, far _ _ H.c2, far _ _ H.c3, H.bi.set_ m a b, fun o => by rw [World.frozen?_setCell, World.frozen?_setCell]; exact H.fz o, H.ne, by rw [List.length_set]; exact H.len⟩
end
end Go.Proofs.Ytchikndofpkjmaa

namespace Go.Proofs.Ytchikndofpkjmaa
open Go.RowKit

/-- An append whose run is known, as one step of a region, and in a plain one. -/
theorem step_append_run {P : Program} {w : World} {ops : Array Oper} {o : Oper} {a : Act} {K : Act → World → Prop} {Q : Exit → Act → World → Prop} {E : Prop} (hgd : o.guard = none) (s x : Operand) (t : TypeId)
    (ho : o.op = .call { callee := .builtin .append, args := #[s, x], argTypes := #[t, t] }) (v u : Value) (hs : a.eval s = v) (hx : a.eval x = u) (v' : Value) (w' : World)
    (hr : (Builtin.append_ #[t, t] o.type #[v, u]).run P w = .ok v' w') (h : K (a.put o.dst v') w') :
    if Region.wanted o (yielded ops a.tmps) = true then Oper.wp P o a w K Q else E := by
  have hw : Region.wanted o (yielded ops a.tmps) = true := by simp [Region.wanted, hgd]
  rw [if_pos hw]
  unfold Oper.wp
  simp only [execOp, ho, resolve, invoke, builtin, Sem.run_bind, Sem.run_pure, Result.andThen_ok, List.map_toArray, List.map_cons, List.map_nil, hs, hx, hr]
  exact h
section
variable {w w1 w2 : World} {p g : Nat}
end

section
variable {w w' : World} {p g c h l : Nat} {L : List It}
end
end Go.Proofs.Ytchikndofpkjmaa

namespace Go.Proofs.Ytchikndofpkjmaa
open Go.RowKit

/-- Items whose ticks and values are int64. -/
def InI (L : List It) : Prop := ∀ x ∈ L, In x.1 ∧ In x.2
theorem InI.at_ {L : List It} (h : InI L) {i : Nat} (hi : i < L.length) : In (L.getD i (0, 0)).1 ∧ In (L.getD i (0, 0)).2 := h _ (by simp [List.getD, hi])
/-- What the walk of squares holds. -/
structure Sq (w wr : World) (v : Int) : Prop where
  up : Up w wr
  r0 : wr.cell? ⟨w.heap.size, 0, none⟩ = some (.int .u64 0)
  r1 : wr.cell? ⟨w.heap.size, 1, none⟩ = some (.int .u64 0)
  r2 : wr.cell? ⟨w.heap.size, 2, none⟩ = some (.int .u64 0)
  s0 : wr.cell? ⟨w.heap.size + 1, 0, none⟩ = some (.int .u64 (dg3 v 0))
  s1 : wr.cell? ⟨w.heap.size + 1, 1, none⟩ = some (.int .u64 (dg3 v 1))
  s2 : wr.cell? ⟨w.heap.size + 1, 2, none⟩ = some (.int .u64 (dg3 v 2))
theorem Sq.keep {w w1 w2 : World} {v : Int} (h : Sq w w1 v) (hu : Up w1 w2) : Sq w w2 v :=
  ⟨h.up.trans hu, hu.keep _ _ _ h.r0, hu.keep _ _ _ h.r1, hu.keep _ _ _ h.r2, hu.keep _ _ _ h.s0, hu.keep _ _ _ h.s1, hu.keep _ _ _ h.s2⟩
theorem Sq.set {w w1 : World} {v u : Int} (h : Sq w w1 v) : Sq w (((w1.setCell ⟨w.heap.size + 1, 0, none⟩ (.int .u64 (dg3 u 0))).setCell ⟨w.heap.size + 1, 1, none⟩ (.int .u64 (dg3 u 1))).setCell ⟨w.heap.size + 1, 2, none⟩ (.int .u64 (dg3 u 2))) u := by
  have far : ∀ (W : World) (i : Nat) (x : Value) (q : Nat) (y : Value), W.cell? ⟨w.heap.size, q, none⟩ = some y → (W.setCell ⟨w.heap.size + 1, i, none⟩ x).cell? ⟨w.heap.size, q, none⟩ = some y := fun W i x q y hy => (cell_far (by show w.heap.size + 1 ≠ w.heap.size; omega)).trans hy
  refine ⟨((h.up.setCell (by show w.heap.size ≤ w.heap.size + 1; omega) _).setCell (by show w.heap.size ≤ w.heap.size + 1; omega) _).setCell (by show w.heap.size ≤ w.heap.size + 1; omega) _, far _ _ _ _ _ (far _ _ _ _ _ (far _ _ _ _ _ h.r0)), far _ _ _ _ _ (far _ _ _ _ _ (far _ _ _ _ _ h.r1)), far _ _ _ _ _ (far _ _ _ _ _ (far _ _ _ _ _ h.r2)), ?_, ?_, ?_⟩
  · rw [cell_set (cell_set (cell_set h.s0))]; rfl
  · rw [cell_set (cell_set (cell_set h.s1))]; rfl
  · rw [cell_set (cell_set (cell_set h.s2))]; rfl

end Go.Proofs.Ytchikndofpkjmaa

namespace Go.Proofs.Ytchikndofpkjmaa
open Go.RowKit

/-- A row of the call's own. -/
def Rw (w0 w : World) (e : TypeId) (sz : Nat) (v : Value) (n : Nat) (cs : List Value) : Prop := w.ownsRow w0.heap.size e sz v n cs
theorem Rw.nil (w0 w : World) (e : TypeId) (sz : Nat) : Rw w0 w e sz (.slice none 0 0) 0 [] := ⟨by simp, Or.inl ⟨rfl, rfl⟩⟩
theorem Rw.of_up {w0 w w' : World} {e : TypeId} {sz n : Nat} {v : Value} {cs : List Value} (h : Rw w0 w e sz v n cs) (hu : Up w w') : Rw w0 w' e sz v n cs := by
  refine ⟨h.1, ?_⟩
  rcases h.2 with h0 | ⟨g, cap, cur, h1, h2, h3, h4⟩
  · exact Or.inl h0
  · exact Or.inr ⟨g, cap, cur, h1, h2, Blk.up (t := e) h3 hu, h4⟩
/-- Two addresses in different blocks. -/
def Apt (A B : Option Addr) : Prop := ∀ g o o', A = some ⟨g, o, none⟩ → B = some ⟨g, o', none⟩ → False
theorem Apt.symm {A B : Option Addr} (h : Apt A B) : Apt B A := fun g o o' h1 h2 => h g o' o h2 h1
theorem Rw.lt {w0 w : World} {e : TypeId} {sz n k : Nat} {B : Option Addr} {cs : List Value} (h : Rw w0 w e sz (.slice B n k) n cs) : ∀ g o, B = some ⟨g, o, none⟩ → g < w.heap.size := by
  rintro g o rfl
  rcases h.2 with ⟨h0, _⟩ | ⟨g2, cap, cur, h1, h2, h3, h4⟩
  · cases h0
  · cases h1
    exact Blk.lt (t := e) h3

end Go.Proofs.Ytchikndofpkjmaa

namespace Go.Proofs.Ytchikndofpkjmaa
open Go.RowKit

/-- A region that writes one item of block g at its end: what holds at every time. -/
structure Ph (w W : World) (p g m : Nat) (L : List It) : Prop where
  wr : Wr w W p g
  bi : ∃ y, Bi W g (L.set m y)
theorem Ph.keep {w W W' : World} {p g m : Nat} {L : List It} (h : Ph w W p g m L) (hu : Up W W') : Ph w W' p g m L :=
  ⟨h.wr.then hu, h.bi.choose, h.bi.choose_spec.up hu⟩
theorem Ph.at_ {w W : World} {p g m : Nat} {L : List It} (h : Ph w W p g m L) (hm : m < L.length) : ∃ q0 q1, W.cell? ⟨g, m * 2, none⟩ = some (.int .i64 q0) ∧ W.cell? ⟨g, m * 2 + 1, none⟩ = some (.int .i64 q1) := by
  obtain ⟨y, hy⟩ := h.bi
  obtain ⟨h1, h2⟩ := hy.at_ (k := m) (by simpa using hm)
  exact ⟨_, _, h1, h2⟩
theorem Ph.put {w W : World} {p g m : Nat} {L : List It} (h : Ph w W p g m L) (a b : Int) : Bi ((W.setCell ⟨g, m * 2, none⟩ (.int .i64 a)).setCell ⟨g, m * 2 + 1, none⟩ (.int .i64 b)) g (L.set m (a, b)) := by
  obtain ⟨y, hy⟩ := h.bi
  have := hy.set_ m a b
  rwa [List.set_set] at this
theorem Ph.set {w W : World} {p g m : Nat} {L : List It} (h : Ph w W p g m L) (a b : Int) : Ph w ((W.setCell ⟨g, m * 2, none⟩ (.int .i64 a)).setCell ⟨g, m * 2 + 1, none⟩ (.int .i64 b)) p g m L :=
  ⟨(h.wr.setG _ _).setG _ _, (a, b), h.put a b⟩
theorem Bi.drew {w : World} {g : Nat} {L : List It} (h : Bi w g L) : Bi w.drew g L := h
end Go.Proofs.Ytchikndofpkjmaa

namespace Go.Proofs.Ytchikndofpkjmaa

/-- A mark: number and tick of its first item; number, sum, sum of squares, least and greatest of the values from it on. -/
structure Mrk where
  sq : Int
  t : Int
  n : Int
  s : Int
  q : Int
  lo : Int
  hi : Int
def incM (v : Int) (m : Mrk) : Mrk := ⟨m.sq, m.t, m.n + 1, m.s + v, m.q + v * v, min m.lo v, max m.hi v⟩
def oneM (sq t v : Int) : Mrk := ⟨sq, t, 1, v, v * v, v, v⟩
def fit64 (x : Int) : Bool := decide (-9223372036854775808 ≤ x ∧ x ≤ 9223372036854775807)
/-- The aggregate of a mark. -/
def ofZ (g : Int) (m : Mrk) : Int := if g = 1 then m.n else if g = 2 then m.s else if g = 3 then m.q else if g = 4 then (if fit64 (m.hi - m.lo) = true then m.hi - m.lo else 0) else 0
/-- The values from a place on; the mark of a place. -/
def vlF (I : List It) (p : Nat) : List Int := (I.drop p).map (fun x => x.2)
def mrkA (I : List It) (p : Nat) : Mrk := ⟨(p : Int) + 1, (I.getD p (0, 0)).1, ((vlF I p).length : Int), suL (vlF I p), sqL (vlF I p), mnL (vlF I p), mxL (vlF I p)⟩
theorem vlF_len (I : List It) (p : Nat) : (vlF I p).length = I.length - p := by unfold vlF; rw [List.length_map, List.length_drop]
theorem vlF_ne {I : List It} {p : Nat} (h : p < I.length) : vlF I p ≠ [] := by
  intro e
  have := congrArg List.length e
  rw [vlF_len, List.length_nil] at this
  omega
theorem vlF_split (I : List It) {p q : Nat} (h : p ≤ q) : vlF I p = ((I.drop p).take (q - p)).map (fun x => x.2) ++ vlF I q := by
  unfold vlF
  rw [← List.map_append]
  congr 1
  have := List.take_append_drop (q - p) (I.drop p)
  rw [List.drop_drop, show p + (q - p) = q by omega] at this
  exact this.symm
theorem vlF_val {g : Int} {I : List It} (h : ∀ x ∈ I, valG g x.2) (p : Nat) : ∀ y ∈ vlF I p, valG g y := by
  intro y hy
  obtain ⟨x, hx, rfl⟩ := List.mem_map.1 hy
  exact h x (List.mem_of_mem_drop hx)
/-- Ticks ascend. -/
theorem asc_le {I : List It} (h : I.Pairwise (fun x y => x.1 ≤ y.1)) {i j : Nat} (hij : i ≤ j) (hj : j < I.length) : (I.getD i (0, 0)).1 ≤ (I.getD j (0, 0)).1 := by
  rw [List.getD_eq_getElem?_getD, List.getD_eq_getElem?_getD, List.getElem?_eq_getElem hj, List.getElem?_eq_getElem (by omega : i < I.length)]
  rcases Nat.eq_or_lt_of_le hij with e | e
  · subst e; exact Int.le_refl _
  · exact List.pairwise_iff_getElem.1 h i j (by omega) hj e
end Go.Proofs.Ytchikndofpkjmaa

namespace Go.Proofs.Ytchikndofpkjmaa

def agP (g : Int) (I : List It) (p : Nat) : Int := agZ g (vlF I p)
theorem vlF_push (I : List It) (t v : Int) {p : Nat} (h : p ≤ I.length) : vlF (I ++ [(t, v)]) p = vlF I p ++ [v] := by
  unfold vlF
  rw [List.drop_append_of_le_length h, List.map_append]
  rfl
theorem agP_mono {g : Int} {I : List It} (hg : 1 ≤ g ∧ g ≤ 4) (h : ∀ x ∈ I, valG g x.2) {p q : Nat} (hpq : p ≤ q) : agP g I q ≤ agP g I p := by
  unfold agP
  have h2 := vlF_val h p
  rw [vlF_split I hpq] at h2 ⊢
  exact ag_mono hg h2
theorem agP_nn {g : Int} {I : List It} (hg : 1 ≤ g ∧ g ≤ 4) (h : ∀ x ∈ I, valG g x.2) (p : Nat) : 0 ≤ agP g I p := ag_nn hg (vlF_val h p)
/-- What is close stays close. -/
theorem agP_close {g k t v : Int} {I : List It} (hg : 1 ≤ g ∧ g ≤ 4) (hk : 1 ≤ k) (h : ∀ x ∈ I, valG g x.2) (hv : valG g v) {p q : Nat} (hp : p < I.length) (hq : q < I.length) (hc : k * agP g I p ≤ (k + 1) * agP g I q) : k * agP g (I ++ [(t, v)]) p ≤ (k + 1) * agP g (I ++ [(t, v)]) q := by
  have h' : ∀ x ∈ I ++ [(t, v)], valG g x.2 := by
    intro x hx
    rcases List.mem_append.1 hx with hx | hx
    · exact h x hx
    · simp only [List.mem_singleton] at hx; subst hx; exact hv
  rcases Nat.le_total p q with hpq | hpq
  · unfold agP at hc ⊢
    rw [vlF_push I t v (by omega), vlF_push I t v (by omega)]
    have h2 := vlF_val h p
    rw [vlF_split I hpq] at hc h2 ⊢
    exact ag_close hg hk (vlF_ne hq) h2 hv hc
  · have h1 := agP_mono hg h' hpq
    have h2 := agP_nn hg h' q
    have h3 : k * agP g (I ++ [(t, v)]) p ≤ k * agP g (I ++ [(t, v)]) q := Int.mul_le_mul_of_nonneg_left h1 (by omega)
    rw [Int.add_mul, Int.one_mul]; omega
end Go.Proofs.Ytchikndofpkjmaa

namespace Go.Proofs.Ytchikndofpkjmaa

/-- Places P are the marks of the items I, at the tick now, for windows of w ticks: neighbours are near, and no mark is close to its second successor. -/
structure SnM (nr : List It → Nat → Nat → Prop) (cl : List It → Nat → Nat → Bool) (g w c now : Int) (P : List Nat) (I : List It) : Prop where
  g1 : 1 ≤ g ∧ g ≤ 4
  w1 : 1 ≤ w
  c1 : 1 ≤ c
  up : P.Pairwise (fun a b => a < b)
  lt : ∀ p ∈ P, p < I.length
  last : ∀ p, P.getLast? = some p → p + 1 = I.length
  none_ : P = [] → ∀ i, i < I.length → (I.getD i (0, 0)).1 ≤ now - w
  old : ∀ p, P.head? = some p → ∀ i, i < p → (I.getD i (0, 0)).1 ≤ now - w
  live : ∀ p ∈ P.tail, now - w < (I.getD p (0, 0)).1
  one : ∀ p, P = [p] → now - w < (I.getD p (0, 0)).1
  c6 : chn (nr I) P
  c5 : ch3 (fun a b => cl I a b = false) P
  asc : I.Pairwise (fun x y => x.1 ≤ y.1)
  rg : ∀ x ∈ I, 0 ≤ x.1 ∧ x.1 ≤ now
  vals : ∀ x ∈ I, valG g x.2
  cap : ∀ p, P.head? = some p → (I.length : Int) - p ≤ c
theorem chn.suffix {α : Type} {r : α → α → Prop} {R : List α} : ∀ {Q : List α}, chn r (Q ++ R) → chn r R := by
  intro Q
  induction Q with
  | nil => exact fun h => h
  | cons q Q ih => exact fun h => ih h.tail
theorem ch3.suffix {α : Type} {r : α → α → Prop} {R : List α} : ∀ {Q : List α}, ch3 r (Q ++ R) → ch3 r R := by
  intro Q
  induction Q with
  | nil => exact fun h => h
  | cons q Q ih => exact fun h => ih h.tail
theorem ch3.drop {α : Type} {r : α → α → Prop} {P : List α} (n : Nat) (h : ch3 r P) : ch3 r (P.drop n) := by
  rw [← List.take_append_drop n P] at h
  exact h.suffix
end Go.Proofs.Ytchikndofpkjmaa

namespace Go.Proofs.Ytchikndofpkjmaa

theorem SnM.add {nr : List It → Nat → Nat → Prop} {cl : List It → Nat → Nat → Bool} {g w c now v : Int} {P : List Nat} {I : List It} {n : Nat} (h : SnM nr cl g w c now P I) (h0 : 0 ≤ now) (hv : valG g v) (hc : ∀ p, P.head? = some p → (I.length : Int) - p < c) (hn : P.length + 1 ≤ n)
    (ncl : ∀ a b, a ∈ P ++ [I.length] → b ∈ P ++ [I.length] → cl (I ++ [(now, v)]) a b = true → nr (I ++ [(now, v)]) a b) (nadj : ∀ a, nr (I ++ [(now, v)]) a (a + 1)) (nst : ∀ a b, a ∈ P → b ∈ P → nr I a b → nr (I ++ [(now, v)]) a b) :
    SnM nr cl g w c now (prL (cl (I ++ [(now, v)])) n (P ++ [I.length])) (I ++ [(now, v)]) := by
  have hI : ∀ {i : Nat}, i < I.length → (I ++ [(now, v)]).getD i (0, 0) = I.getD i (0, 0) := fun hi => by
    rw [List.getD_eq_getElem?_getD, List.getD_eq_getElem?_getD, List.getElem?_append_left hi]
  have hnew : (I ++ [(now, v)]).getD I.length (0, 0) = (now, v) := by
    rw [List.getD_eq_getElem?_getD, List.getElem?_append_right (Nat.le_refl _)]; simp
  have hlen : (I ++ [(now, v)]).length = I.length + 1 := by rw [List.length_append, List.length_singleton]
  have hv' : ∀ x ∈ I ++ [(now, v)], valG g x.2 := by
    intro x hx
    rcases List.mem_append.1 hx with hx | hx
    · exact h.vals x hx
    · simp only [List.mem_singleton] at hx; subst hx; exact hv
  have hup : (P ++ [I.length]).Pairwise (fun a b => a < b) := by
    rw [List.pairwise_append]
    refine ⟨h.up, List.pairwise_singleton _ _, fun a ha b hb => ?_⟩
    simp only [List.mem_singleton] at hb
    subst hb
    exact h.lt a ha
  have hlt : ∀ p ∈ P ++ [I.length], p < I.length + 1 := by
    intro p hp
    rcases List.mem_append.1 hp with hp | hp
    · have := h.lt p hp; omega
    · simp only [List.mem_singleton] at hp; omega
  have hsub := prL_sub (cl (I ++ [(now, v)])) n (P ++ [I.length])
  have hlast := prL_last (cl (I ++ [(now, v)])) n (P ++ [I.length])
  have hl2 : (P ++ [I.length]).getLast? = some I.length := by rw [List.getLast?_append]; rfl
  rw [hl2] at hlast
  have h6 := prL_chn (cl (I ++ [(now, v)])) (nr (I ++ [(now, v)])) (P ++ [I.length]) ncl n (P ++ [I.length]) (fun x hx => hx) (by
    refine chn.push (chn.imp (fun a ha b hb hab => nst a b ha hb hab) h.c6) (fun a ha => ?_)
    rw [← h.last a ha]
    exact nadj a)
  have h5' := prL_ch3 (cl (I ++ [(now, v)])) n (P ++ [I.length]) (by rw [List.length_append, List.length_singleton]; exact hn)
  -- the first one stays
  have hhead : ∃ p T, prL (cl (I ++ [(now, v)])) n (P ++ [I.length]) = p :: T ∧ (P ++ [I.length]).head? = some p ∧ (∀ x ∈ T, x ∈ (P ++ [I.length]).tail) := by
    cases P with
    | nil =>
      obtain ⟨T, e, hT⟩ := prL_head (cl (I ++ [(now, v)])) n I.length []
      exact ⟨_, T, e, rfl, hT⟩
    | cons a R =>
      obtain ⟨T, e, hT⟩ := prL_head (cl (I ++ [(now, v)])) n a (R ++ [I.length])
      exact ⟨a, T, e, rfl, hT⟩
  obtain ⟨p, T, eD, hp, hT⟩ := hhead
  have hw := h.w1
  have hlive : ∀ x ∈ (P ++ [I.length]).tail, now - w < ((I ++ [(now, v)]).getD x (0, 0)).1 := by
    intro x hx
    cases P with
    | nil => cases hx
    | cons a R =>
      rcases List.mem_append.1 hx with g1 | g1
      · rw [hI (h.lt x (List.mem_cons_of_mem _ g1))]; exact h.live x g1
      · simp only [List.mem_singleton] at g1; subst g1; rw [hnew]; show now - w < now; omega
  generalize prL (cl (I ++ [(now, v)])) n (P ++ [I.length]) = D at *
  subst eD
  refine ⟨h.g1, h.w1, h.c1, hup.sublist hsub, fun q hq => by rw [hlen]; exact hlt q (hsub.subset hq), fun q hq => ?_, fun e => (by cases e), fun q hq i hi => ?_, fun q hq => hlive q (hT q hq), fun q hq => ?_, h6, h5', ?_, ?_, hv', fun q hq => ?_⟩
  · rw [hlast] at hq; injection hq with e; omega
  · injection hq with e
    subst e
    cases P with
    | nil =>
      injection hp with e
      subst e
      rw [hI hi]
      exact h.none_ rfl i hi
    | cons a R =>
      injection hp with e
      subst e
      rw [hI (by have := h.lt a List.mem_cons_self; omega)]
      exact h.old a rfl i hi
  · injection hq with e1 e2
    subst e1 e2
    injection hlast with e
    subst e
    rw [hnew]; show now - w < now; omega
  · rw [List.pairwise_append]
    refine ⟨h.asc, List.pairwise_singleton _ _, fun a ha b hb => ?_⟩
    simp only [List.mem_singleton] at hb
    subst hb
    exact (h.rg a ha).2
  · intro x hx
    rcases List.mem_append.1 hx with hx | hx
    · exact h.rg x hx
    · simp only [List.mem_singleton] at hx; subst hx; exact ⟨h0, Int.le_refl _⟩
  · injection hq with e
    subst e
    rw [hlen]
    cases P with
    | nil =>
      injection hp with e
      have := h.c1
      omega
    | cons a R =>
      injection hp with e
      subst e
      have := hc a rfl
      omega
/-- Are two marks close; neighbours: adjacent by number, or close. -/
def clP (g k : Int) (I : List It) (a b : Nat) : Bool := decide (k * agP g I a ≤ (k + 1) * agP g I b)
def nrP (g k : Int) (I : List It) (a b : Nat) : Prop := b = a + 1 ∨ k * agP g I a ≤ (k + 1) * agP g I b
/-- The state of chapter 13. -/
abbrev Sv (g w k c now : Int) (P : List Nat) (I : List It) : Prop := SnM (nrP g k) (clP g k) g w c now P I
theorem Sv.add {g w k c now v : Int} {P : List Nat} {I : List It} {n : Nat} (h : Sv g w k c now P I) (hk : 1 ≤ k) (h0 : 0 ≤ now) (hv : valG g v) (hc : ∀ p, P.head? = some p → (I.length : Int) - p < c) (hn : P.length + 1 ≤ n) : Sv g w k c now (prL (clP g k (I ++ [(now, v)])) n (P ++ [I.length])) (I ++ [(now, v)]) :=
  SnM.add h h0 hv hc hn (fun a b _ _ hab => Or.inr (of_decide_eq_true hab)) (fun a => Or.inl rfl) (fun a b ha hb hab => by
    rcases hab with e | e
    · exact Or.inl e
    · exact Or.inr (agP_close h.g1 hk h.vals hv (h.lt a ha) (h.lt b hb) e))
end Go.Proofs.Ytchikndofpkjmaa

namespace Go.Proofs.Ytchikndofpkjmaa

def mk0 : Mrk := ⟨0, 0, 0, 0, 0, 0, 0⟩
/-- n items with the sum s and the sum of squares q may have values from lo to hi. -/
def prtP (n s q lo hi : Int) : Prop := n * lo ≤ s ∧ s ≤ n * hi ∧ 0 ≤ q ∧ q ≤ n * 4096 * 4096 ∧ s * s ≤ n * q
/-- What chapter 13 asks of the mark at place j (conditions 1 to 4). -/
structure OkB (g w c now seq : Int) (X : List Mrk) (j : Nat) : Prop where
  sq1 : 1 ≤ (X.getD j mk0).sq
  sq2 : (X.getD j mk0).sq ≤ seq
  num : (X.getD j mk0).n = seq - (X.getD j mk0).sq + 1
  few : (X.getD j mk0).n ≤ c
  asc : 0 < j → (X.getD (j - 1) mk0).sq < (X.getD j mk0).sq
  tk : 0 ≤ (X.getD j mk0).t ∧ (X.getD j mk0).t ≤ now
  tasc : 0 < j → (X.getD (j - 1) mk0).t ≤ (X.getD j mk0).t
  live : 0 < j ∨ X.length = 1 → now - w < (X.getD j mk0).t
  lo : valG g (X.getD j mk0).lo
  hi : valG g (X.getD j mk0).hi
  lohi : (X.getD j mk0).lo ≤ (X.getD j mk0).hi
  prt : prtP (X.getD j mk0).n (X.getD j mk0).s (X.getD j mk0).q (X.getD j mk0).lo (X.getD j mk0).hi
  last : j + 1 = X.length → (X.getD j mk0).sq = seq ∧ (X.getD j mk0).lo = (X.getD j mk0).s ∧ (X.getD j mk0).hi = (X.getD j mk0).s ∧ (X.getD j mk0).q = (X.getD j mk0).s * (X.getD j mk0).s
  nlo : 0 < j → (X.getD (j - 1) mk0).lo ≤ (X.getD j mk0).lo
  nhi : 0 < j → (X.getD j mk0).hi ≤ (X.getD (j - 1) mk0).hi
  nprt : 0 < j → prtP ((X.getD (j - 1) mk0).n - (X.getD j mk0).n) ((X.getD (j - 1) mk0).s - (X.getD j mk0).s) ((X.getD (j - 1) mk0).q - (X.getD j mk0).q) (X.getD (j - 1) mk0).lo (X.getD (j - 1) mk0).hi
theorem getD_map {I : List It} {P : List Nat} {j : Nat} (h : j < P.length) : (P.map (mrkA I)).getD j mk0 = mrkA I (P.getD j 0) := by
  rw [List.getD_eq_getElem?_getD, List.getElem?_map, List.getD_eq_getElem?_getD, List.getElem?_eq_getElem h]; rfl
theorem getD_in {P : List Nat} {j : Nat} (h : j < P.length) : P.getD j 0 ∈ P := by
  rw [List.getD_eq_getElem?_getD, List.getElem?_eq_getElem h]; exact List.getElem_mem h
theorem prt_of {g : Int} {A : List Int} {lo hi : Int} (h : ∀ x ∈ A, valG g x) (h1 : ∀ x ∈ A, lo ≤ x ∧ x ≤ hi) : prtP A.length (suL A) (sqL A) lo hi := by
  refine ⟨suL_ge (fun x hx => (h1 x hx).1), suL_le (fun x hx => (h1 x hx).2), sqL_nn A, ?_, cauchy A⟩
  have := sqL_le (A := A) (m := 4096) (fun x hx => ⟨(h x hx).1, (h x hx).2.1⟩)
  omega
theorem SnM.ok {nr : List It → Nat → Nat → Prop} {cl : List It → Nat → Nat → Bool} {g w c now : Int} {P : List Nat} {I : List It} (h : SnM nr cl g w c now P I) {j : Nat} (hj : j < P.length) : OkB g w c now I.length (P.map (mrkA I)) j := by
  have e := getD_map (I := I) hj
  have hp := h.lt _ (getD_in hj)
  have hprev : 0 < j → (P.map (mrkA I)).getD (j - 1) mk0 = mrkA I (P.getD (j - 1) 0) ∧ P.getD (j - 1) 0 < P.getD j 0 := fun h0 => by
    refine ⟨getD_map (by omega), ?_⟩
    rw [List.getD_eq_getElem?_getD, List.getD_eq_getElem?_getD, List.getElem?_eq_getElem hj, List.getElem?_eq_getElem (by omega : j - 1 < P.length)]
    exact List.pairwise_iff_getElem.1 h.up (j - 1) j (by omega) hj (by omega)
  have hlen : ((vlF I (P.getD j 0)).length : Int) = I.length - P.getD j 0 := by rw [vlF_len]; omega
  have hmem : I.getD (P.getD j 0) (0, 0) ∈ I := by
    rw [List.getD_eq_getElem?_getD, List.getElem?_eq_getElem hp]; exact List.getElem_mem hp
  have hlow : (P.getD 0 0) ≤ P.getD j 0 := by
    rcases Nat.eq_zero_or_pos j with e0 | e0
    · subst e0; exact Nat.le_refl _
    · rw [List.getD_eq_getElem?_getD, List.getD_eq_getElem?_getD, List.getElem?_eq_getElem hj, List.getElem?_eq_getElem (by omega : 0 < P.length)]
      exact Nat.le_of_lt (List.pairwise_iff_getElem.1 h.up 0 j (by omega) hj e0)
  have hcap := h.cap (P.getD 0 0) (by
    cases P with
    | nil => exact absurd hj (Nat.not_lt_zero _)
    | cons a P => rfl)
  have hlive : 0 < j ∨ P.length = 1 → now - w < (I.getD (P.getD j 0) (0, 0)).1 := by
    intro h0
    cases P with
    | nil => exact absurd hj (Nat.not_lt_zero _)
    | cons a P =>
      cases j with
      | zero =>
        have : P = [] := by
          rcases h0 with h0 | h0
          · exact absurd h0 (Nat.lt_irrefl _)
          · rw [List.length_cons] at h0; exact List.length_eq_zero_iff.1 (by omega)
        subst this
        exact h.one a rfl
      | succ j =>
        refine h.live _ ?_
        show P.getD j 0 ∈ P
        exact getD_in (by rw [List.length_cons] at hj; omega)
  have hV := vlF_val h.vals (P.getD j 0)
  have hne := vlF_ne hp
  have hlast : j + 1 = P.length → (P.getD j 0) + 1 = I.length := fun h0 => h.last _ (by
    rw [List.getLast?_eq_getElem?, List.getD_eq_getElem?_getD, List.getElem?_eq_getElem hj, show P.length - 1 = j by omega, List.getElem?_eq_getElem hj]; rfl)
  have hmid : 0 < j → ∃ D : List Int, vlF I (P.getD (j - 1) 0) = D ++ vlF I (P.getD j 0) := fun h0 => ⟨_, vlF_split I (Nat.le_of_lt (hprev h0).2)⟩
  constructor
  · rw [e]; show 1 ≤ ((P.getD j 0 : Nat) : Int) + 1; omega
  · rw [e]; show ((P.getD j 0 : Nat) : Int) + 1 ≤ I.length; omega
  · rw [e]; show ((vlF I (P.getD j 0)).length : Int) = I.length - (((P.getD j 0 : Nat) : Int) + 1) + 1; omega
  · rw [e]; show ((vlF I (P.getD j 0)).length : Int) ≤ c; omega
  · intro h0; obtain ⟨e1, e2⟩ := hprev h0; rw [e, e1]; show ((P.getD (j - 1) 0 : Nat) : Int) + 1 < ((P.getD j 0 : Nat) : Int) + 1; omega
  · rw [e]; exact h.rg _ hmem
  · intro h0; obtain ⟨e1, e2⟩ := hprev h0; rw [e, e1]; exact asc_le h.asc (Nat.le_of_lt e2) hp
  · rw [List.length_map, e]; exact hlive
  · rw [e]; exact hV _ (mnL_mem hne)
  · rw [e]; exact hV _ (mxL_mem hne)
  · rw [e]; exact mn_le_mx hne
  · rw [e]; exact prt_of hV (fun x hx => ⟨mnL_le hx, le_mxL hx⟩)
  · rw [List.length_map, e]
    intro h0
    have h1 := hlast h0
    have h2 : (vlF I (P.getD j 0)).length = 1 := by rw [vlF_len]; omega
    obtain ⟨v, hv⟩ := List.length_eq_one_iff.1 h2
    refine ⟨?_, ?_, ?_, ?_⟩
    · show ((P.getD j 0 : Nat) : Int) + 1 = I.length; omega
    · show mnL (vlF I (P.getD j 0)) = suL (vlF I (P.getD j 0)); rw [hv]; simp [mnL, suL]
    · show mxL (vlF I (P.getD j 0)) = suL (vlF I (P.getD j 0)); rw [hv]; simp [mxL, suL]
    · show sqL (vlF I (P.getD j 0)) = suL (vlF I (P.getD j 0)) * suL (vlF I (P.getD j 0)); rw [hv]; simp [sqL, suL]
  · intro h0; obtain ⟨e1, e2⟩ := hprev h0; obtain ⟨D, eD⟩ := hmid h0; rw [e, e1]; show mnL (vlF I (P.getD (j - 1) 0)) ≤ mnL (vlF I (P.getD j 0)); rw [eD]; exact mnL_app hne
  · intro h0; obtain ⟨e1, e2⟩ := hprev h0; obtain ⟨D, eD⟩ := hmid h0; rw [e, e1]; show mxL (vlF I (P.getD j 0)) ≤ mxL (vlF I (P.getD (j - 1) 0)); rw [eD]; exact mxL_app hne
  · intro h0
    obtain ⟨e1, e2⟩ := hprev h0
    obtain ⟨D, eD⟩ := hmid h0
    have hV2 := vlF_val h.vals (P.getD (j - 1) 0)
    have hb : ∀ x ∈ D, mnL (vlF I (P.getD (j - 1) 0)) ≤ x ∧ x ≤ mxL (vlF I (P.getD (j - 1) 0)) := fun x hx => by
      have hx2 : x ∈ vlF I (P.getD (j - 1) 0) := by rw [eD]; exact List.mem_append_left _ hx
      exact ⟨mnL_le hx2, le_mxL hx2⟩
    have h1 := prt_of (g := g) (fun x hx => hV2 x (by rw [eD]; exact List.mem_append_left _ hx)) hb
    rw [e, e1]
    show prtP (((vlF I (P.getD (j - 1) 0)).length : Int) - ((vlF I (P.getD j 0)).length : Int)) (suL (vlF I (P.getD (j - 1) 0)) - suL (vlF I (P.getD j 0))) (sqL (vlF I (P.getD (j - 1) 0)) - sqL (vlF I (P.getD j 0))) (mnL (vlF I (P.getD (j - 1) 0))) (mxL (vlF I (P.getD (j - 1) 0)))
    have g1 : ((vlF I (P.getD (j - 1) 0)).length : Int) - ((vlF I (P.getD j 0)).length : Int) = D.length := by rw [eD, List.length_append]; omega
    have g2 : suL (vlF I (P.getD (j - 1) 0)) - suL (vlF I (P.getD j 0)) = suL D := by rw [eD, suL_app]; omega
    have g3 : sqL (vlF I (P.getD (j - 1) 0)) - sqL (vlF I (P.getD j 0)) = sqL D := by rw [eD, sqL_app]; omega
    rw [g1, g2, g3]
    exact h1
end Go.Proofs.Ytchikndofpkjmaa
