/- append, and the blocks of buffers that it leaves alone. -/
import Derived.Test.YtjedcpfipebncaaGAppend
namespace Go.Proofs.Ytjedcpfipebncaa
open Go.RowKit

theorem append_run2 (ty : TypeId) (w0 w : World) (v : Value) (n : Nat) (L : List It) (hO : Own w0 w v n L) (hu : Up w0 w) (A : Option Addr) (m c : Nat) (M : List It) (hS : Sl w A m M) (hlen : n + m ≤ 1000000) :
    ∃ v' w', (Builtin.append_ #[22, 22] ty #[v, .slice A m c]).run Try.prog w = .ok v' w' ∧ Own w0 w' v' (n + m) (L ++ M) ∧ Up w0 w' ∧ ∀ b cs, Blk w b 24 cs → Blk w' b 24 cs := by
  obtain ⟨i, hi, hz, hs, hb⟩ := info_parts item_info
  have ht := Try.underlying22
  have h63 : n + m ≤ maxLen := by simp only [maxLen]; omega
  have hm : M.length = m := hS.1
  have hbase := hu.size
  have hfl : (fl L ++ fl M).length = (n + m) * 2 := by rw [List.length_append, hO.1, fl_length, hm]; omega
  unfold Own
  rw [fl_append]
  by_cases h0 : m = 0
  · subst h0
    have hM : M = [] := List.eq_nil_of_length_eq_zero hm
    subst hM
    refine ⟨v, w, ?_, by have := hO; unfold Own at this; simpa [fl] using this, hu, fun _ _ h => h⟩
    have hl : ∀ (x : Addr), (loadCells x 0).run Try.prog w = .ok #[] w := fun x => by simpa using run_loadCells_list (P := Try.prog) w x [] (by simp)
    rcases hO.2 with ⟨rfl, rfl⟩ | ⟨g, cap, cur, rfl, _, hh, hnc, _⟩
    · cases A <;> simp [Builtin.append_, run_underlying ht, sizeOf, typeInfo, hi, Builtin.lenOf, Builtin.firstCells, hl]
    · cases A <;> simp [Builtin.append_, run_underlying ht, sizeOf, typeInfo, hi, Builtin.lenOf, Builtin.firstCells, hnc, storeCells, hl]
  · obtain ⟨b, o, rfl, hc⟩ := hS.2 (by omega)
    have hnews : ∀ j u, (fl M)[j]? = some u → w.cell? ((⟨b, o, none⟩ : Addr).add j) = some u := fun j u hj => by rw [add_at]; exact hc j u hj
    have hl : (fl M).length = m * i.size := by rw [fl_length, hm, hs]
    have grown : ∀ (old : Nat), old < n + m →
      (w.drew.alloc (.cells ((fl L).toArray ++ (fl M).toArray ++ Builtin.zeroCells #[.int .i64 0, .int .i64 0] (grownCap w (n + m) old 35 - (n + m))) 35)).ownsRow w0.heap.size 35 2
        (.slice (some ⟨w.heap.size, 0, none⟩) (n + m) (grownCap w (n + m) old 35)) (n + m) (fl L ++ fl M) := by
      intro old ho
      have hge := grownCap_ge w (n + m) old 35
      have hcm : grownCap w (n + m) old 35 ≤ maxLen := grownCap_le_maxLen w (n + m) old _ h63
      refine ⟨hfl, .inr ⟨w.heap.size, _, _, rfl, hbase, heap_alloc_new w.drew _, hge, hcm, ?_, ?_⟩⟩
      · simp only [Array.size_append, List.size_toArray, size_zeroCells, hO.1, hl, hs]
        simp only [List.length_cons, List.length_nil]
        omega
      · simp only [Array.toList_append, List.append_assoc]
        rw [← List.append_assoc, ← hfl]
        exact List.take_left
    rcases hO.2 with ⟨rfl, rfl⟩ | ⟨g, cap, cur, rfl, hbg, hg, hnc, hcm, hcs, htake⟩
    · have hx : fl L = [] := List.eq_nil_of_length_eq_zero (by simpa using hO.1)
      have hr := run_append_nil (P := Try.prog) w 22 ty 35 i _ ht hi hz ⟨b, o, none⟩ m c (fl M) hl hnews (by omega) (by omega) (by rw [hb]; omega)
      have hgr := grown 0 (by omega)
      rw [hx] at hgr ⊢
      simp only [Nat.zero_add, List.nil_append, Array.empty_append] at hgr ⊢
      exact ⟨_, _, hr, hgr, hu.drew.alloc _ _, fun _ _ h => Blk.alloc (w := w.drew) h _⟩
    · by_cases hroom : n + m ≤ cap
      · have hfit : n * i.size + (fl M).length ≤ cur.size := by rw [hl, hcs, hs, ← Nat.add_mul]; exact Nat.mul_le_mul_right _ hroom
        have hr := run_append_room (P := Try.prog) w 22 ty 35 i ht hi g n cap cur hg ⟨b, o, none⟩ m c (fl M) hl hnews (fl_one _) hroom hfit
        obtain ⟨h1, h2⟩ := Cp.set w g cur (cur.toList.take (n * i.size) ++ fl M ++ cur.toList.drop (n * i.size + (fl M).length)).toArray _ hg
        refine ⟨_, _, hr, ⟨hfl, .inr ⟨g, cap, _, rfl, hbg, h2, hroom, hcm, ?_, ?_⟩⟩, h1.up w0 hu hbg, fun b cs h => (h1.far b (fun e => by subst e; unfold Blk at h; rw [hg] at h; injection h with h; injection h with _ h; exact absurd h (by decide))).trans h⟩
        · simp only [List.size_toArray, List.length_append, List.length_take, List.length_drop, Array.length_toList]
          omega
        · rw [hs, htake, ← hfl]
          exact List.take_left
      · have holds : ∀ j u, (fl L)[j]? = some u → w.cell? ((⟨g, 0, none⟩ : Addr).add j) = some u := World.ownsRow.cells (g := g) hO rfl
        have hr := run_append_grow (P := Try.prog) w 22 ty 35 i _ ht hi hz ⟨g, 0, none⟩ n cap (fl L) (by rw [hs]; exact hO.1) holds ⟨b, o, none⟩ m c (fl M) hl hnews (by omega) (by omega) (growslice_fits (by omega) (by rw [hb]; omega))
        exact ⟨_, _, hr, grown cap (by omega), hu.drew.alloc _ _, fun _ _ h => Blk.alloc (w := w.drew) h _⟩

/-- append onto an empty row, and onto any row of the call's own, as steps of a region. -/
theorem step_append0 {w : World} {ops : Array Oper} {o : Oper} {a : Act} {K : Act → World → Prop} {Q : Exit → Act → World → Prop} {E : Prop} (hgd : o.guard = none) (s x : Operand)
    (ho : o.op = .call { callee := .builtin .append, args := #[s, x], argTypes := #[22, 22] }) (w0 : World) (g m c : Nat) (A : Option Addr) (M : List It)
    (hs : a.eval s = .slice (some ⟨g, 0, none⟩) 0 0) (hx : a.eval x = .slice A m c) (hO : Own w0 w (.slice (some ⟨g, 0, none⟩) 0 0) 0 []) (hu : Up w0 w) (hS : Sl w A m M) (hlen : m ≤ 1000000)
    (h : ∀ A1 k1 w', Own w0 w' (.slice A1 m k1) m M → Up w w' → K (a.put o.dst (.slice A1 m k1)) w') :
    if Region.wanted o (yielded ops a.tmps) = true then Oper.wp Try.prog o a w K Q else E := by
  obtain ⟨v', w', hr, h1, h2⟩ := append0_run o.type w0 w g hO hu A m c M hS hlen
  obtain ⟨A1, k1, rfl, _, _⟩ := h1.sl
  exact step_append_run hgd s x _ ho _ _ hs hx _ _ hr (h A1 k1 w' h1 h2)
theorem step_append2 {w : World} {ops : Array Oper} {o : Oper} {a : Act} {K : Act → World → Prop} {Q : Exit → Act → World → Prop} {E : Prop} (hgd : o.guard = none) (s x : Operand)
    (ho : o.op = .call { callee := .builtin .append, args := #[s, x], argTypes := #[22, 22] }) (w0 : World) (n m k c : Nat) (A0 A : Option Addr) (L M : List It)
    (hs : a.eval s = .slice A0 n k) (hx : a.eval x = .slice A m c) (hO : Own w0 w (.slice A0 n k) n L) (hu : Up w0 w) (hS : Sl w A m M) (hlen : n + m ≤ 1000000) (N : Nat) (hN : n + m = N) (LM : List It) (hLM : L ++ M = LM)
    (h : ∀ A2 k2 w', Sl w' A2 N LM → Up w0 w' → (∀ b cs, Blk w b 24 cs → Blk w' b 24 cs) → K (a.put o.dst (.slice A2 N k2)) w') :
    if Region.wanted o (yielded ops a.tmps) = true then Oper.wp Try.prog o a w K Q else E := by
  subst hN hLM
  obtain ⟨v', w', hr, h1, h2, h3⟩ := append_run2 o.type w0 w (.slice A0 n k) n L hO hu A m c M hS hlen
  obtain ⟨A1, k1, rfl, _, h5⟩ := h1.sl
  exact step_append_run hgd s x _ ho _ _ hs hx _ _ hr (h A1 k1 w' h5 h2 h3)
theorem Blk.newAt {w : World} {t : TypeId} {cs : Array Value} {g : Nat} (hg : g = w.heap.size) : Blk (w.alloc (.cells cs t)) g t cs := by rw [hg]; exact Blk.new w t cs
theorem Rt.of_alloc {w : World} {g c h l : Nat} {L : List It} (hB : Bi w g L) (hl : L.length = c) :
    Rt (w.alloc (.cells #[.int .i64 c, .int .i64 h, .int .i64 l, .slice (some ⟨g, 0, none⟩) c c] 24)) w.heap.size g c h l L := by
  have hk : ∀ i, (w.alloc (.cells #[.int .i64 c, .int .i64 h, .int .i64 l, .slice (some ⟨g, 0, none⟩) c c] 24)).cell? ⟨w.heap.size, i, none⟩ = #[Value.int .i64 c, .int .i64 h, .int .i64 l, .slice (some ⟨g, 0, none⟩) c c][i]? := fun i => Blk.cell (Blk.new w _ _) i
  have hlt : g < w.heap.size := Blk.lt hB
  exact ⟨hk 0, hk 1, hk 2, hk 3, Blk.alloc hB _, fun o => Blk.frozen (Blk.new w _ _) o, by omega, hl⟩
/-- A variable that holds a buffer, made behind w4. -/
def Vb (w4 wx : World) (c h l : Nat) (L : List It) (t : Value) : Prop :=
  ∃ p g, t = .pointer (some ⟨p, 0, none⟩) ∧ w4.heap.size ≤ p ∧ w4.heap.size ≤ g ∧ Rt wx p g c h l L ∧ Up w4 wx
theorem Vb.store {w4 w8 : World} {p g c h l : Nat} {L : List It} {z0 z1 z2 z3 : Value} (e0 : w8.cell? ⟨p, 0, none⟩ = some z0) (e1 : w8.cell? ⟨p, 1, none⟩ = some z1) (e2 : w8.cell? ⟨p, 2, none⟩ = some z2) (e3 : w8.cell? ⟨p, 3, none⟩ = some z3)
    (hu : Up w4 w8) (hp : w4.heap.size ≤ p) (hg : w4.heap.size ≤ g) (hB : Bi w8 g L) (hn : p ≠ g) (hl : L.length = c) :
    Vb w4 ((((w8.setCell ⟨p, 0, none⟩ (.int .i64 c)).setCell ⟨p, 1, none⟩ (.int .i64 h)).setCell ⟨p, 2, none⟩ (.int .i64 l)).setCell ⟨p, 3, none⟩ (.slice (some ⟨g, 0, none⟩) c c)) c h l L (.pointer (some ⟨p, 0, none⟩)) :=
  ⟨p, g, rfl, hp, hg, Rt.of_store e0 e1 e2 e3 hB (fun o => hu.ownGe hp o) hn hl, hu.set4 hp⟩
theorem Vb.new {w4 w8 : World} {g c h l : Nat} {L : List It} (hu : Up w4 w8) (hg : w4.heap.size ≤ g) (hB : Bi w8 g L) (hl : L.length = c) :
    Vb w4 (w8.alloc (.cells #[.int .i64 c, .int .i64 h, .int .i64 l, .slice (some ⟨g, 0, none⟩) c c] 24)) c h l L (.pointer (some ⟨w8.heap.size, 0, none⟩)) :=
  ⟨w8.heap.size, g, rfl, hu.size, hg, Rt.of_alloc hB hl, hu.alloc _ _⟩
end Go.Proofs.Ytjedcpfipebncaa
