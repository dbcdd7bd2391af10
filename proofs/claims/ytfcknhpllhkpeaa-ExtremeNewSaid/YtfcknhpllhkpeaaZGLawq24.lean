/- Texts of these claims, one after the other. -/
import Derived.Test.YtfcknhpllhkpeaaRows
import Derived.Test.YtfcknhpllhkpeaaZGBaseq3
namespace Go.Proofs.Ytfcknhpllhkpeaa
open Go.RowKit

theorem item_info : (Try.prog.info? 41).map (fun i => (i.zero, i.size, i.bytes)) = some (some (.agg #[.int .i64 0, .int .i64 0]), 2, 16) := by kernel_rfl
/-- What a copy leaves: block g has other cells. -/
structure Cp (w w' : World) (g : Nat) : Prop where
  up : ∀ w0, Up w0 w → w0.heap.size ≤ g → Up w0 w'
  far : ∀ b, b ≠ g → w'.heap[b]? = w.heap[b]?
  size : w'.heap.size = w.heap.size
  fr : ∀ a, w'.frozen? a = w.frozen? a
theorem Cp.refl (w : World) (g : Nat) : Cp w w g := ⟨fun _ h _ => h, fun _ _ => rfl, rfl, fun _ => rfl⟩
theorem Cp.keep {w w' : World} {g : Nat} (h : Cp w w' g) {b o : Nat} {v : Value} (hb : b ≠ g) (hc : w.cell? ⟨b, o, none⟩ = some v) : w'.cell? ⟨b, o, none⟩ = some v :=
  (World.cell?_of_block (a := ⟨b, o, none⟩) (h.far b hb)).trans hc
theorem Cp.set (w : World) (g : Nat) (cs cs' : Array Value) (t : TypeId) (h : Blk w g t cs) : Cp w (w.setRow g cs') g ∧ Blk (w.setRow g cs') g t cs' := by
  have hfar : ∀ b, b ≠ g → (w.setRow g cs').heap[b]? = w.heap[b]? := fun b hb => setRow_other w g b cs' hb
  have hat : Blk (w.setRow g cs') g t cs' := setRow_heap w g cs cs' t _ h
  have hsz : (w.setRow g cs').heap.size = w.heap.size := by simp [World.setRow]
  have hfr : ∀ a, (w.setRow g cs').frozen? a = w.frozen? a := fun a => by
    by_cases e : a.block = g
    · have e1 : (w.setRow g cs').heap[a.block]? = some (.cells cs' t (0, 0)) := by rw [e]; exact hat
      have e2 : w.heap[a.block]? = some (.cells cs t (0, 0)) := by rw [e]; exact h
      simp [World.frozen?, e1, e2]
    · exact World.frozen?_of_block (hfar _ e)
  refine ⟨⟨fun w0 hu hg => ?_, hfar, hsz, hfr⟩, hat⟩
  have hb : Below w0.heap.size w0 (w.setRow g cs') := hu.below.trans ⟨rfl, rfl, rfl, by rw [hsz]; exact Nat.le_refl _, fun k hk => hfar k (by omega)⟩
  refine ⟨⟨⟨hb.os, hb.output, fun i hi => ?_⟩, fun a => (hfr a).trans (hu.grown.2.1 a), hb.size⟩, hb⟩
  rw [hb.block i hi]
  cases hw : w0.heap[i]? with
  | none => rfl
  | some o => cases o with
    | cells c t fr => exact ⟨rfl, rfl, rfl, fun _ _ => rfl⟩
    | map es cl => exact Or.inr ⟨rfl, rfl⟩
    | _ => rfl

/-- A row of the call's own (made behind w0) that holds L. -/
def Own (w0 w : World) (v : Value) (n : Nat) (L : List It) : Prop := w.ownsRow w0.heap.size 41 2 v n (fl L)
theorem Own.nil (w0 w : World) : Own w0 w (.slice none 0 0) 0 [] := ⟨rfl, Or.inl ⟨rfl, rfl⟩⟩
theorem Own.sl {w0 w : World} {v : Value} {n : Nat} {L : List It} (h : Own w0 w v n L) : ∃ A c, v = .slice A n c ∧ n ≤ c ∧ Sl w A n L := by
  have hn : L.length = n := by have := h.1; rw [fl_length] at this; omega
  rcases h.2 with ⟨rfl, rfl⟩ | ⟨g, cap, cur, rfl, _, hh, hc, _, hs, ht⟩
  · exact ⟨none, 0, rfl, Nat.le_refl _, hn, fun hx => absurd hx (by omega)⟩
  · refine ⟨some ⟨g, 0, none⟩, cap, rfl, hc, hn, fun _ => ⟨g, 0, rfl, fun j u hj => ?_⟩⟩
    rw [Nat.zero_add, cell_of_row w g j cur _ (0, 0) hh]
    rw [← ht, List.getElem?_take] at hj
    split at hj
    · simpa using hj
    · cases hj
theorem append_run (ty : TypeId) (w0 w : World) (v : Value) (n : Nat) (L : List It) (hO : Own w0 w v n L) (hu : Up w0 w) (A : Option Addr) (m c : Nat) (M : List It) (hS : Sl w A m M) (hlen : n + m ≤ 1000000) :
    ∃ v' w', (Builtin.append_ #[22, 22] ty #[v, .slice A m c]).run Try.prog w = .ok v' w' ∧ Own w0 w' v' (n + m) (L ++ M) ∧ Up w0 w' := by
  obtain ⟨i, hi, hz, hs, hb⟩ := info_parts item_info
  have ht := Try.underlying22
  have h63 : n + m ≤ maxLen := by simp only [maxLen]; omega
  have hm : M.length = m := hS.1
  have hbase := hu.size
  have hfl : (fl L ++ fl M).length = (n + m) * 2 := by rw [List.length_append, hO.1, fl_length, hm]; omega
  unfold Own
  rw [fl_append]
  by_cases h0 : m = 0
  · subst h0
    have hM : M = [] := List.eq_nil_of_length_eq_zero hm
    subst hM
    refine ⟨v, w, ?_, by have := hO; unfold Own at this; simpa [fl] using this, hu⟩
    have hl : ∀ (x : Addr), (loadCells x 0).run Try.prog w = .ok #[] w := fun x => by simpa using run_loadCells_list (P := Try.prog) w x [] (by simp)
    rcases hO.2 with ⟨rfl, rfl⟩ | ⟨g, cap, cur, rfl, _, hh, hnc, _⟩
    · cases A <;> simp [Builtin.append_, run_underlying ht, sizeOf, typeInfo, hi, Builtin.lenOf, Builtin.firstCells, hl]
    · cases A <;> simp [Builtin.append_, run_underlying ht, sizeOf, typeInfo, hi, Builtin.lenOf, Builtin.firstCells, hnc, storeCells, hl]
  · obtain ⟨b, o, rfl, hc⟩ := hS.2 (by omega)
    have hnews : ∀ j u, (fl M)[j]? = some u → w.cell? ((⟨b, o, none⟩ : Addr).add j) = some u := fun j u hj => by rw [add_at]; exact hc j u hj
    have hl : (fl M).length = m * i.size := by rw [fl_length, hm, hs]
    have grown : ∀ (old : Nat), old < n + m →
      (w.drew.alloc (.cells ((fl L).toArray ++ (fl M).toArray ++ Builtin.zeroCells #[.int .i64 0, .int .i64 0] (grownCap w (n + m) old 41 - (n + m))) 41)).ownsRow w0.heap.size 41 2
        (.slice (some ⟨w.heap.size, 0, none⟩) (n + m) (grownCap w (n + m) old 41)) (n + m) (fl L ++ fl M) := by
      intro old ho
      have hge := grownCap_ge w (n + m) old 41
      have hcm : grownCap w (n + m) old 41 ≤ maxLen := grownCap_le_maxLen w (n + m) old _ h63
      refine ⟨hfl, .inr ⟨w.heap.size, _, _, rfl, hbase, heap_alloc_new w.drew _, hge, hcm, ?_, ?_⟩⟩
      · simp only [Array.size_append, List.size_toArray, size_zeroCells, hO.1, hl, hs]
        simp only [List.length_cons, List.length_nil]
        omega
      · simp only [Array.toList_append, List.append_assoc]
        rw [← List.append_assoc, ← hfl]
        exact List.take_left
    rcases hO.2 with ⟨rfl, rfl⟩ | ⟨g, cap, cur, rfl, hbg, hg, hnc, hcm, hcs, htake⟩
    · have hx : fl L = [] := List.eq_nil_of_length_eq_zero (by simpa using hO.1)
      have hr := run_append_nil (P := Try.prog) w 22 ty 41 i _ ht hi hz ⟨b, o, none⟩ m c (fl M) hl hnews (by omega) (by omega) (by rw [hb]; omega)
      have hgr := grown 0 (by omega)
      rw [hx] at hgr ⊢
      simp only [Nat.zero_add, List.nil_append, Array.empty_append] at hgr ⊢
      exact ⟨_, _, hr, hgr, hu.drew.alloc _ _⟩
    · by_cases hroom : n + m ≤ cap
      · have hfit : n * i.size + (fl M).length ≤ cur.size := by rw [hl, hcs, hs, ← Nat.add_mul]; exact Nat.mul_le_mul_right _ hroom
        have hr := run_append_room (P := Try.prog) w 22 ty 41 i ht hi g n cap cur hg ⟨b, o, none⟩ m c (fl M) hl hnews (fl_one _) hroom hfit
        obtain ⟨h1, h2⟩ := Cp.set w g cur (cur.toList.take (n * i.size) ++ fl M ++ cur.toList.drop (n * i.size + (fl M).length)).toArray _ hg
        refine ⟨_, _, hr, ⟨hfl, .inr ⟨g, cap, _, rfl, hbg, h2, hroom, hcm, ?_, ?_⟩⟩, h1.up w0 hu hbg⟩
        · simp only [List.size_toArray, List.length_append, List.length_take, List.length_drop, Array.length_toList]
          omega
        · rw [hs, htake, ← hfl]
          exact List.take_left
      · have holds : ∀ j u, (fl L)[j]? = some u → w.cell? ((⟨g, 0, none⟩ : Addr).add j) = some u := World.ownsRow.cells (g := g) hO rfl
        have hr := run_append_grow (P := Try.prog) w 22 ty 41 i _ ht hi hz ⟨g, 0, none⟩ n cap (fl L) (by rw [hs]; exact hO.1) holds ⟨b, o, none⟩ m c (fl M) hl hnews (by omega) (by omega) (growslice_fits (by omega) (by rw [hb]; omega))
        exact ⟨_, _, hr, grown cap (by omega), hu.drew.alloc _ _⟩

/-- An append whose run is known, as one step of a region, and in a plain one. -/
theorem step_append_run {P : Program} {w : World} {ops : Array Oper} {o : Oper} {a : Act} {K : Act → World → Prop} {Q : Exit → Act → World → Prop} {E : Prop} (hgd : o.guard = none) (s x : Operand) (t : TypeId)
    (ho : o.op = .call { callee := .builtin .append, args := #[s, x], argTypes := #[t, t] }) (v u : Value) (hs : a.eval s = v) (hx : a.eval x = u) (v' : Value) (w' : World)
    (hr : (Builtin.append_ #[t, t] o.type #[v, u]).run P w = .ok v' w') (h : K (a.put o.dst v') w') :
    if Region.wanted o (yielded ops a.tmps) = true then Oper.wp P o a w K Q else E := by
  have hw : Region.wanted o (yielded ops a.tmps) = true := by simp [Region.wanted, hgd]
  rw [if_pos hw]
  unfold Oper.wp
  simp only [execOp, ho, resolve, invoke, builtin, Sem.run_bind, Sem.run_pure, Result.andThen_ok, List.map_toArray, List.map_cons, List.map_nil, hs, hx, hr]
  exact h
theorem wpList_append_run {P : Program} {w : World} {ops : Array Oper} {rest : List Oper} {o : Oper} {a : Act} {Q : Exit → Act → World → Prop} (hgd : o.guard = none) (s x : Operand) (t : TypeId)
    (ho : o.op = .call { callee := .builtin .append, args := #[s, x], argTypes := #[t, t] }) (v u : Value) (hs : a.eval s = v) (hx : a.eval x = u) (v' : Value) (w' : World)
    (hr : (Builtin.append_ #[t, t] o.type #[v, u]).run P w = .ok v' w') (h : wpList P ops Q rest (a.put o.dst v') w') : wpList P ops Q (o :: rest) a w := by
  refine wpList_plain hgd fun K hK => ?_
  unfold Oper.wp
  simp only [execOp, ho, resolve, invoke, builtin, Sem.run_bind, Sem.run_pure, Result.andThen_ok, List.map_toArray, List.map_cons, List.map_nil, hs, hx, hr]
  exact hK _ _ h
theorem Own.of_up {w0 w w' : World} {v : Value} {n : Nat} {L : List It} (h : Own w0 w v n L) (hu : Up w w') : Own w0 w' v n L := by
  refine ⟨h.1, ?_⟩
  rcases h.2 with h0 | ⟨g, cap, cur, h1, h2, h3, h4⟩
  · exact Or.inl h0
  · exact Or.inr ⟨g, cap, cur, h1, h2, Blk.up (t := 41) h3 hu, h4⟩
theorem one_new (w : World) (p0 p1 : Int) : Sl (w.alloc (.cells #[.int .i64 p0, .int .i64 p1] 41)) (some ⟨w.heap.size, 0, none⟩) 1 [(p0, p1)] :=
  Bi.sl (L := [(p0, p1)]) (Blk.new w _ _) rfl

theorem Sl.ne {w : World} {A : Option Addr} {n g : Nat} {L : List It} (h : Sl w A n L) (hn : 0 < n) (hg : w.heap.size ≤ g) : ∀ b o, A = some ⟨b, o, none⟩ → ¬ b = g := by
  rintro b o rfl rfl
  obtain ⟨b', o', e, hc⟩ := h.2 hn
  injection e with e
  injection e with e1 e2
  subst e1 e2
  have hl : 0 < L.length := by rw [h.1]; exact hn
  have := World.block_lt_of_cell? _ _ (hc _ _ (fl_get0 L 0 hl))
  simp at this
  omega

/-- What a function leaves that writes into blocks p and g alone. -/
structure Wr (w w' : World) (p g : Nat) : Prop where
  up : ∀ w0, Up w0 w → w0.heap.size ≤ p → w0.heap.size ≤ g → Up w0 w'
  far : ∀ b, b < w.heap.size → b ≠ p → b ≠ g → w'.heap[b]? = w.heap[b]?
  size : w.heap.size ≤ w'.heap.size
  fr : ∀ a, w'.frozen? a = w.frozen? a
section
variable {w w1 w2 : World} {p g : Nat}
theorem Wr.refl (w : World) (p g : Nat) : Wr w w p g := ⟨fun _ h _ _ => h, fun _ _ _ _ => rfl, Nat.le_refl _, fun _ => rfl⟩
theorem Wr.drew (h : Wr w w1 p g) : Wr w w1.drew p g := ⟨fun w0 h0 a b => (h.up w0 h0 a b).drew, h.far, h.size, h.fr⟩
theorem Wr.drewN (h : Wr w w1 p g) (n : Nat) : Wr w (w1.drewN n) p g := ⟨fun w0 h0 a b => (h.up w0 h0 a b).drewN n, h.far, h.size, h.fr⟩
theorem Wr.alloc (h : Wr w w1 p g) (c : Array Value) (t : TypeId) : Wr w (w1.alloc (.cells c t)) p g :=
  ⟨fun w0 h0 a b => (h.up w0 h0 a b).alloc c t, fun b hb hp hg => (Below.heap_alloc w1 _ b (Nat.lt_of_lt_of_le hb h.size)).trans (h.far b hb hp hg), by rw [size_alloc]; exact Nat.le_succ_of_le h.size, fun a => (frozen?_alloc_cells _ _ _ _).trans (h.fr a)⟩
theorem Wr.setG (h : Wr w w1 p g) (o : Nat) (v : Value) : Wr w (w1.setCell ⟨g, o, none⟩ v) p g :=
  ⟨fun w0 h0 a b => (h.up w0 h0 a b).setCell (by exact b) v, fun b hb hp hg => (Below.heap_setCell w1 _ v b (by exact hg)).trans (h.far b hb hp hg), by rw [size_set]; exact h.size, fun a => by rw [World.frozen?_setCell]; exact h.fr a⟩
theorem Wr.then (h : Wr w w1 p g) (hu : Up w1 w2) : Wr w w2 p g :=
  ⟨fun w0 h0 a b => (h.up w0 h0 a b).trans hu, fun b hb hp hg => (hu.below.block b (Nat.lt_of_lt_of_le hb h.size)).trans (h.far b hb hp hg), Nat.le_trans h.size hu.size, fun a => (hu.cells.2 a).trans (h.fr a)⟩
theorem Wr.trans {w3 : World} (h : Wr w w1 p g) (k : Wr w1 w3 p g) : Wr w w3 p g :=
  ⟨fun w0 h0 a b => k.up w0 (h.up w0 h0 a b) a b, fun b hb hp hg => (k.far b (Nat.lt_of_lt_of_le hb h.size) hp hg).trans (h.far b hb hp hg), Nat.le_trans h.size k.size, fun a => (k.fr a).trans (h.fr a)⟩
theorem Wr.keep (h : Wr w w1 p g) {b o : Nat} {v : Value} (hp : b ≠ p) (hg : b ≠ g) (hc : w.cell? ⟨b, o, none⟩ = some v) : w1.cell? ⟨b, o, none⟩ = some v :=
  (World.cell?_of_block (a := ⟨b, o, none⟩) (h.far b (World.block_lt_of_cell? w ⟨b, o, none⟩ hc) hp hg)).trans hc
end

/-- A buffer behind a pointer: its fields in block p, its cells in block g. -/
structure Rt (w : World) (p g c h l : Nat) (L : List It) : Prop where
  c0 : w.cell? ⟨p, 0, none⟩ = some (.int .i64 c)
  c1 : w.cell? ⟨p, 1, none⟩ = some (.int .i64 h)
  c2 : w.cell? ⟨p, 2, none⟩ = some (.int .i64 l)
  c3 : w.cell? ⟨p, 3, none⟩ = some (.slice (some ⟨g, 0, none⟩) c c)
  bi : Bi w g L
  fz : ∀ o, w.frozen? ⟨p, o, none⟩ = false
  ne : p ≠ g
  len : L.length = c
section
variable {w w' : World} {p g c h l : Nat} {L : List It}
theorem Rt.up (H : Rt w p g c h l L) (hu : Up w w') : Rt w' p g c h l L :=
  ⟨hu.keep _ _ _ H.c0, hu.keep _ _ _ H.c1, hu.keep _ _ _ H.c2, hu.keep _ _ _ H.c3, H.bi.up hu, fun o => (hu.cells.2 _).trans (H.fz o), H.ne, H.len⟩
theorem Rt.drew (H : Rt w p g c h l L) : Rt w.drew p g c h l L := ⟨H.c0, H.c1, H.c2, H.c3, H.bi, H.fz, H.ne, H.len⟩
theorem Rt.far (H : Rt w p g c h l L) {q : Nat} (hp : q ≠ p) (hg : q ≠ g) (o : Nat) (v : Value) : Rt (w.setCell ⟨q, o, none⟩ v) p g c h l L :=
  ⟨(cell_far hp).trans H.c0, (cell_far hp).trans H.c1, (cell_far hp).trans H.c2, (cell_far hp).trans H.c3, Blk.far H.bi (Ne.symm hg) _, fun o => by rw [World.frozen?_setCell]; exact H.fz o, H.ne, H.len⟩
theorem Rt.put (H : Rt w p g c h l L) (m : Nat) (a b : Int) : Rt ((w.setCell ⟨g, m * 2, none⟩ (.int .i64 a)).setCell ⟨g, m * 2 + 1, none⟩ (.int .i64 b)) p g c h l (L.set m (a, b)) := by
  have hn := Ne.symm H.ne
  have far : ∀ o v, w.cell? ⟨p, o, none⟩ = some v → ((w.setCell ⟨g, m * 2, none⟩ (.int .i64 a)).setCell ⟨g, m * 2 + 1, none⟩ (.int .i64 b)).cell? ⟨p, o, none⟩ = some v := fun o v hv => by
    rw [cell_far hn, cell_far hn]; exact hv
  exact ⟨far _ _ H.c0, far _ _ H.c1, far _ _ H.c2, far _ _ H.c3, H.bi.set_ m a b, fun o => by rw [World.frozen?_setCell, World.frozen?_setCell]; exact H.fz o, H.ne, by rw [List.length_set]; exact H.len⟩
end
end Go.Proofs.Ytfcknhpllhkpeaa

namespace Go.Proofs.Ytfcknhpllhkpeaa
open Go.RowKit

/-- A region that writes one item of block g at its end: what holds at every time. -/
structure Ph (w W : World) (p g m : Nat) (L : List It) : Prop where
  wr : Wr w W p g
  bi : ∃ y, Bi W g (L.set m y)
theorem Ph.start {w : World} {p g m : Nat} {L : List It} (hb : Bi w g L) (hm : m < L.length) : Ph w w p g m L :=
  ⟨Wr.refl _ _ _, L.getD m (0, 0), by rw [show L.set m (L.getD m (0, 0)) = L by simp [List.getD, hm]]; exact hb⟩
theorem Ph.keep {w W W' : World} {p g m : Nat} {L : List It} (h : Ph w W p g m L) (hu : Up W W') : Ph w W' p g m L :=
  ⟨h.wr.then hu, h.bi.choose, h.bi.choose_spec.up hu⟩
theorem Ph.at_ {w W : World} {p g m : Nat} {L : List It} (h : Ph w W p g m L) (hm : m < L.length) : ∃ q0 q1, W.cell? ⟨g, m * 2, none⟩ = some (.int .i64 q0) ∧ W.cell? ⟨g, m * 2 + 1, none⟩ = some (.int .i64 q1) := by
  obtain ⟨y, hy⟩ := h.bi
  obtain ⟨h1, h2⟩ := hy.at_ (k := m) (by simpa using hm)
  exact ⟨_, _, h1, h2⟩
theorem Ph.put {w W : World} {p g m : Nat} {L : List It} (h : Ph w W p g m L) (a b : Int) : Bi ((W.setCell ⟨g, m * 2, none⟩ (.int .i64 a)).setCell ⟨g, m * 2 + 1, none⟩ (.int .i64 b)) g (L.set m (a, b)) := by
  obtain ⟨y, hy⟩ := h.bi
  have := hy.set_ m a b
  rwa [List.set_set] at this
theorem Ph.set {w W : World} {p g m : Nat} {L : List It} (h : Ph w W p g m L) (a b : Int) : Ph w ((W.setCell ⟨g, m * 2, none⟩ (.int .i64 a)).setCell ⟨g, m * 2 + 1, none⟩ (.int .i64 b)) p g m L :=
  ⟨(h.wr.setG _ _).setG _ _, (a, b), h.put a b⟩
theorem Bi.drew {w : World} {g : Nat} {L : List It} (h : Bi w g L) : Bi w.drew g L := h
end Go.Proofs.Ytfcknhpllhkpeaa

namespace Go.Proofs.Ytfcknhpllhkpeaa
open Go.RowKit

/-- Two orders of an empty row and a row of one item. -/
theorem own_empty' {w0 w : World} {g : Nat} (hg : g = w.heap.size) (h : w0.heap.size ≤ w.heap.size) : Own w0 (w.alloc (.cells #[] 41)) (.slice (some ⟨g, 0, none⟩) 0 0) 0 [] := by
  subst hg
  exact ⟨rfl, Or.inr ⟨w.heap.size, 0, #[], rfl, h, Blk.new w _ _, Nat.le_refl _, Nat.zero_le _, rfl, rfl⟩⟩
theorem Own.off {w0 w : World} {A : Option Addr} {n c p : Nat} {L : List It} (h : Own w0 w (.slice A n c) n L) (hp : p < w0.heap.size) : ∀ b o, A = some ⟨b, o, none⟩ → b ≠ p := by
  intro b o e
  rcases h.2 with ⟨h1, _⟩ | ⟨g, cap, cur, h1, h2, _⟩
  · injection h1 with h1; rw [h1] at e; cases e
  · injection h1 with h1
    rw [h1] at e
    injection e with e
    injection e with e1 e2
    omega
end Go.Proofs.Ytfcknhpllhkpeaa
