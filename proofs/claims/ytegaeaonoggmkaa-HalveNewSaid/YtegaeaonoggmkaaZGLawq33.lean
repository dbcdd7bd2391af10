/- make, copy and append of slices of items: run equations, and laws for a walk. -/
import Derived.Test.YtegaeaonoggmkaaRows
import Derived.Test.YtegaeaonoggmkaaZWFormatq9
namespace Go.Proofs.Ytegaeaonoggmkaa
open Go.RowKit

/-- What a copy leaves: block g has other cells. -/
structure Cp (w w' : World) (g : Nat) : Prop where
  up : ∀ w0, Up w0 w → w0.heap.size ≤ g → Up w0 w'
  far : ∀ b, b ≠ g → w'.heap[b]? = w.heap[b]?
  size : w'.heap.size = w.heap.size
  fr : ∀ a, w'.frozen? a = w.frozen? a
theorem Cp.refl (w : World) (g : Nat) : Cp w w g := ⟨fun _ h _ => h, fun _ _ => rfl, rfl, fun _ => rfl⟩
theorem Cp.keep {w w' : World} {g : Nat} (h : Cp w w' g) {b o : Nat} {v : Value} (hb : b ≠ g) (hc : w.cell? ⟨b, o, none⟩ = some v) : w'.cell? ⟨b, o, none⟩ = some v :=
  (World.cell?_of_block (a := ⟨b, o, none⟩) (h.far b hb)).trans hc
theorem Cp.set (w : World) (g : Nat) (cs cs' : Array Value) (t : TypeId) (h : Blk w g t cs) : Cp w (w.setRow g cs') g ∧ Blk (w.setRow g cs') g t cs' := by
  have hfar : ∀ b, b ≠ g → (w.setRow g cs').heap[b]? = w.heap[b]? := fun b hb => setRow_other w g b cs' hb
  have hat : Blk (w.setRow g cs') g t cs' := setRow_heap w g cs cs' t _ h
  have hsz : (w.setRow g cs').heap.size = w.heap.size := by simp [World.setRow]
  have hfr : ∀ a, (w.setRow g cs').frozen? a = w.frozen? a := fun a => by
    by_cases e : a.block = g
    · have e1 : (w.setRow g cs').heap[a.block]? = some (.cells cs' t (0, 0)) := by rw [e]; exact hat
      have e2 : w.heap[a.block]? = some (.cells cs t (0, 0)) := by rw [e]; exact h
      simp [World.frozen?, e1, e2]
    · exact World.frozen?_of_block (hfar _ e)
  refine ⟨⟨fun w0 hu hg => ?_, hfar, hsz, hfr⟩, hat⟩
  have hb : Below w0.heap.size w0 (w.setRow g cs') := hu.below.trans ⟨rfl, rfl, rfl, by rw [hsz]; exact Nat.le_refl _, fun k hk => hfar k (by omega)⟩
  refine ⟨⟨⟨hb.os, hb.output, fun i hi => ?_⟩, fun a => (hfr a).trans (hu.grown.2.1 a), hb.size⟩, hb⟩
  rw [hb.block i hi]
  cases hw : w0.heap[i]? with
  | none => rfl
  | some o => cases o with
    | cells c t fr => exact ⟨rfl, rfl, rfl, fun _ _ => rfl⟩
    | map es cl => exact Or.inr ⟨rfl, rfl⟩
    | _ => rfl

/-- A row of the call's own (made behind w0) that holds L. -/
def Own (w0 w : World) (v : Value) (n : Nat) (L : List It) : Prop := w.ownsRow w0.heap.size 69 2 v n (fl L)
theorem Own.nil (w0 w : World) : Own w0 w (.slice none 0 0) 0 [] := ⟨rfl, Or.inl ⟨rfl, rfl⟩⟩
theorem wpList_append_run {P : Program} {w : World} {ops : Array Oper} {rest : List Oper} {o : Oper} {a : Act} {Q : Exit → Act → World → Prop} (hgd : o.guard = none) (s x : Operand) (t : TypeId)
    (ho : o.op = .call { callee := .builtin .append, args := #[s, x], argTypes := #[t, t] }) (v u : Value) (hs : a.eval s = v) (hx : a.eval x = u) (v' : Value) (w' : World)
    (hr : (Builtin.append_ #[t, t] o.type #[v, u]).run P w = .ok v' w') (h : wpList P ops Q rest (a.put o.dst v') w') : wpList P ops Q (o :: rest) a w := by
  refine wpList_plain hgd fun K hK => ?_
  unfold Oper.wp
  simp only [execOp, ho, resolve, invoke, builtin, Sem.run_bind, Sem.run_pure, Result.andThen_ok, List.map_toArray, List.map_cons, List.map_nil, hs, hx, hr]
  exact hK _ _ h
theorem Sl.ne {w : World} {A : Option Addr} {n g : Nat} {L : List It} (h : Sl w A n L) (hn : 0 < n) (hg : w.heap.size ≤ g) : ∀ b o, A = some ⟨b, o, none⟩ → ¬ b = g := by
  rintro b o rfl rfl
  obtain ⟨b', o', e, hc⟩ := h.2 hn
  injection e with e
  injection e with e1 e2
  subst e1 e2
  have hl : 0 < L.length := by rw [h.1]; exact hn
  have := World.block_lt_of_cell? _ _ (hc _ _ (fl_get0 L 0 hl))
  simp at this
  omega

/-- What a function leaves that writes into blocks p and g alone. -/
structure Wr (w w' : World) (p g : Nat) : Prop where
  up : ∀ w0, Up w0 w → w0.heap.size ≤ p → w0.heap.size ≤ g → Up w0 w'
  far : ∀ b, b < w.heap.size → b ≠ p → b ≠ g → w'.heap[b]? = w.heap[b]?
  size : w.heap.size ≤ w'.heap.size
  fr : ∀ a, w'.frozen? a = w.frozen? a
section
variable {w w1 w2 : World} {p g : Nat}
theorem Wr.refl (w : World) (p g : Nat) : Wr w w p g := ⟨fun _ h _ _ => h, fun _ _ _ _ => rfl, Nat.le_refl _, fun _ => rfl⟩
theorem Wr.drew (h : Wr w w1 p g) : Wr w w1.drew p g := ⟨fun w0 h0 a b => (h.up w0 h0 a b).drew, h.far, h.size, h.fr⟩
theorem Wr.drewN (h : Wr w w1 p g) (n : Nat) : Wr w (w1.drewN n) p g := ⟨fun w0 h0 a b => (h.up w0 h0 a b).drewN n, h.far, h.size, h.fr⟩
theorem Wr.alloc (h : Wr w w1 p g) (c : Array Value) (t : TypeId) : Wr w (w1.alloc (.cells c t)) p g :=
  ⟨fun w0 h0 a b => (h.up w0 h0 a b).alloc c t, fun b hb hp hg => (Below.heap_alloc w1 _ b (Nat.lt_of_lt_of_le hb h.size)).trans (h.far b hb hp hg), by rw [size_alloc]; exact Nat.le_succ_of_le h.size, fun a => (frozen?_alloc_cells _ _ _ _).trans (h.fr a)⟩
theorem Wr.setG (h : Wr w w1 p g) (o : Nat) (v : Value) : Wr w (w1.setCell ⟨g, o, none⟩ v) p g :=
  ⟨fun w0 h0 a b => (h.up w0 h0 a b).setCell (by exact b) v, fun b hb hp hg => (Below.heap_setCell w1 _ v b (by exact hg)).trans (h.far b hb hp hg), by rw [size_set]; exact h.size, fun a => by rw [World.frozen?_setCell]; exact h.fr a⟩
theorem Wr.then (h : Wr w w1 p g) (hu : Up w1 w2) : Wr w w2 p g :=
  ⟨fun w0 h0 a b => (h.up w0 h0 a b).trans hu, fun b hb hp hg => (hu.below.block b (Nat.lt_of_lt_of_le hb h.size)).trans (h.far b hb hp hg), Nat.le_trans h.size hu.size, fun a => (hu.cells.2 a).trans (h.fr a)⟩
theorem Wr.trans {w3 : World} (h : Wr w w1 p g) (k : Wr w1 w3 p g) : Wr w w3 p g :=
  ⟨fun w0 h0 a b => k.up w0 (h.up w0 h0 a b) a b, fun b hb hp hg => (k.far b (Nat.lt_of_lt_of_le hb h.size) hp hg).trans (h.far b hb hp hg), Nat.le_trans h.size k.size, fun a => (k.fr a).trans (h.fr a)⟩
theorem Wr.keep (h : Wr w w1 p g) {b o : Nat} {v : Value} (hp : b ≠ p) (hg : b ≠ g) (hc : w.cell? ⟨b, o, none⟩ = some v) : w1.cell? ⟨b, o, none⟩ = some v :=
  (World.cell?_of_block (a := ⟨b, o, none⟩) (h.far b (World.block_lt_of_cell? w ⟨b, o, none⟩ hc) hp hg)).trans hc
end

/-- A buffer behind a pointer: its fields in block p, its cells in block g. -/
structure Rt (w : World) (p g c h l : Nat) (L : List It) : Prop where
  c0 : w.cell? ⟨p, 0, none⟩ = some (.int .i64 c)
  c1 : w.cell? ⟨p, 1, none⟩ = some (.int .i64 h)
  c2 : w.cell? ⟨p, 2, none⟩ = some (.int .i64 l)
  c3 : w.cell? ⟨p, 3, none⟩ = some (.slice (some ⟨g, 0, none⟩) c c)
  bi : Bi w g L
  fz : ∀ o, w.frozen? ⟨p, o, none⟩ = false
  ne : p ≠ g
  len : L.length = c
section
variable {w w' : World} {p g c h l : Nat} {L : List It}
theorem Rt.up (H : Rt w p g c h l L) (hu : Up w w') : Rt w' p g c h l L :=
  ⟨hu.keep _ _ _ H.c0, hu.keep _ _ _ H.c1, hu.keep _ _ _ H.c2, hu.keep _ _ _ H.c3, H.bi.up hu, fun o => (hu.cells.2 _).trans (H.fz o), H.ne, H.len⟩
theorem Rt.drew (H : Rt w p g c h l L) : Rt w.drew p g c h l L := ⟨H.c0, H.c1, H.c2, H.c3, H.bi, H.fz, H.ne, H.len⟩
theorem Rt.far (H : Rt w p g c h l L) {q : Nat} (hp : q ≠ p) (hg : q ≠ g) (o : Nat) (v : Value) : Rt (w.setCell ⟨q, o, none⟩ v) p g c h l L :=
  ⟨(cell_far hp).trans H.c0, (cell_far hp).trans H.c1, (cell_far hp).trans H.c2, (cell_far hp).trans H.c3, Blk.far H.bi (Ne.symm hg) _, fun o => by rw [World.frozen?_setCell]; exact H.fz o, H.ne, H.len⟩
theorem Rt.put (H : Rt w p g c h l L) (m : Nat) (a b : Int) : Rt ((w.setCell ⟨g, m * 2, none⟩ (.int .i64 a)).setCell ⟨g, m * 2 + 1, none⟩ (.int .i64 b)) p g c h l (L.set m (a, b)) := by
  have hn := Ne.symm H.ne
  have far : ∀ o v, w.cell? ⟨p, o, none⟩ = some v → ((w.setCell ⟨g, m * 2, none⟩ (.int .i64 a)).setCell ⟨g, m * 2 + 1, none⟩ (.int .i64 b)).cell? ⟨p, o, none⟩ = some v := fun o v hv => by
    rw [cell_far hn, cell_far hn]; exact hv
  exact ⟨far _ _ H.c0, far _ _ H.c1, far _ _ H.c2, far _ _ H.c3, H.bi.set_ m a b, fun o => by rw [World.frozen?_setCell, World.frozen?_setCell]; exact H.fz o, H.ne, by rw [List.length_set]; exact H.len⟩
end
end Go.Proofs.Ytegaeaonoggmkaa
