/- Texts of these claims, one after the other. -/
import Derived.Test.YtfdjhahnggdklaaZGBasem8
import Derived.Test.YtfdjhahnggdklaaZGLawm3
import Derived.Test.YtfdjhahnggdklaaZHOrdm2
import Derived.Test.YtfdjhahnggdklaaZHSmallm7
import Derived.Test.YtfdjhahnggdklaaZWCmpm5
import Derived.Test.YtfdjhahnggdklaaZWMathm9
namespace Go.Proofs.Ytfdjhahnggdklaa
open Go.RowKit

theorem bucket_info : (Try.prog.info? 95).map (fun i => (i.zero, i.size, i.bytes)) = some (some (.agg #[.int .i64 0, .int .i64 0]), 2, 16) := by kernel_rfl
/-- A row of the call's own (made behind w0) that holds L. -/
def OwB (w0 w : World) (v : Value) (n : Nat) (L : List It) : Prop := Rw w0 w 95 2 v n (fl L)
theorem OwB.nil (w0 w : World) : OwB w0 w (.slice none 0 0) 0 [] := Rw.nil _ _ _ _
theorem OwB.of_up {w0 w w' : World} {v : Value} {n : Nat} {L : List It} (h : OwB w0 w v n L) (hu : Up w w') : OwB w0 w' v n L := Rw.of_up h hu
theorem OwB.sl {w0 w : World} {v : Value} {n : Nat} {L : List It} (h : OwB w0 w v n L) : ∃ A c, v = .slice A n c ∧ n ≤ c ∧ Sl w A n L := by
  have hn : L.length = n := by have := h.1; rw [fl_length] at this; omega
  rcases h.2 with ⟨rfl, rfl⟩ | ⟨g, cap, cur, rfl, _, hh, hc, _, hs, ht⟩
  · exact ⟨none, 0, rfl, Nat.le_refl _, hn, fun hx => absurd hx (by omega)⟩
  · refine ⟨some ⟨g, 0, none⟩, cap, rfl, hc, hn, fun _ => ⟨g, 0, rfl, fun j u hj => ?_⟩⟩
    rw [Nat.zero_add, cell_of_row w g j cur _ (0, 0) hh]
    rw [← ht, List.getElem?_take] at hj
    split at hj
    · simpa using hj
    · cases hj
theorem OwB.weak {w0 w1 w : World} {v : Value} {n : Nat} {L : List It} (h : OwB w1 w v n L) (hs : w0.heap.size ≤ w1.heap.size) : OwB w0 w v n L := by
  refine ⟨h.1, ?_⟩
  rcases h.2 with h0 | ⟨g, cap, cur, h1, h2, h3⟩
  · exact Or.inl h0
  · exact Or.inr ⟨g, cap, cur, h1, Nat.le_trans hs h2, h3⟩
theorem OwB.empty {w0 w : World} (hu : Up w0 w) : OwB w0 (w.alloc (.cells #[] 95)) (.slice (some ⟨w.heap.size, 0, none⟩) 0 0) 0 [] :=
  ⟨by simp [fl], Or.inr ⟨w.heap.size, 0, #[], rfl, hu.size, heap_alloc_new w _, Nat.le_refl _, by simp [maxLen], by simp, by simp [fl]⟩⟩
/-- The array of numbers lies in another block than a row of buckets. -/
theorem appendB (ty : TypeId) (w0 w : World) (v : Value) (n : Nat) (L : List It) (hO : OwB w0 w v n L) (hu : Up w0 w) (A : Option Addr) (m c : Nat) (M : List It) (hS : Sl w A m M) (hlen : n + m ≤ 1000000) :
    ∃ A' k' w', (Builtin.append_ #[22, 22] ty #[v, .slice A m c]).run Try.prog w = .ok (.slice A' (n + m) k') w' ∧ OwB w0 w' (.slice A' (n + m) k') (n + m) (L ++ M) ∧ Up w0 w' ∧ ∀ x xs, Blk w x 101 xs → Blk w' x 101 xs := by
  have hm : M.length = m := hS.1
  by_cases h0 : m = 0
  · subst h0
    have hM : M = [] := List.eq_nil_of_length_eq_zero hm
    subst hM
    obtain ⟨i, hi, hz, hs, hb⟩ := info_parts bucket_info
    have ht := Try.underlying22
    have hl : ∀ (x : Addr), (loadCells x 0).run Try.prog w = .ok #[] w := fun x => by simpa using run_loadCells_list (P := Try.prog) w x [] (by simp)
    obtain ⟨A', k', rfl, _, _⟩ := hO.sl
    refine ⟨A', k', w, ?_, by simpa using hO, hu, fun _ _ h => h⟩
    rcases hO.2 with ⟨h1, rfl⟩ | ⟨g, cap, cur, h1, _, hh, hnc, _⟩
    · cases h1
      cases A <;> simp [Builtin.append_, run_underlying ht, sizeOf, typeInfo, hi, Builtin.lenOf, Builtin.firstCells, hl]
    · cases h1
      cases A <;> simp [Builtin.append_, run_underlying ht, sizeOf, typeInfo, hi, Builtin.lenOf, Builtin.firstCells, hnc, storeCells, hl]
  · obtain ⟨b, o, rfl, hc⟩ := hS.2 (by omega)
    obtain ⟨g', k', w', hr, h1, h2, h3, h4⟩ := appendR 22 95 ty _ 2 16 Try.underlying22 bucket_info rfl (by omega) w0 w v n (fl L) hO hu b o m c (fl M) (by rw [fl_length, hm]) (by omega) hc (fl_one M) hlen
    rw [← fl_append] at h1
    refine ⟨_, k', w', hr, h1, h2, fun x xs hx => h4 x _ xs hx (fun e => ?_)⟩
    subst e
    rcases h3 with h | ⟨n0, k0, rfl⟩
    · have := Blk.lt hx; omega
    · rcases hO.2 with ⟨h5, _⟩ | ⟨g, cap, cur, h5, _, hh, _⟩
      · cases h5
      · cases h5
        unfold Blk at hx
        rw [hh] at hx
        injection hx with hx
        injection hx with _ hx
        exact absurd hx (by decide)
theorem oneB (w : World) (p0 p1 : Int) : Sl (w.alloc (.cells #[.int .i64 p0, .int .i64 p1] 95)) (some ⟨w.heap.size, 0, none⟩) 1 [(p0, p1)] := by
  refine ⟨rfl, fun _ => ⟨w.heap.size, 0, rfl, fun j u hj => ?_⟩⟩
  rw [Nat.zero_add, Blk.cell (Blk.new w _ _)]
  simpa [fl] using hj

set_option maxHeartbeats 4000000 in
set_option maxRecDepth 100000 in
theorem clone_up (n k : Nat) (A : Option Addr) (L : List It) (hn : n ≤ 100000) (w : World) (hS : Sl w A n L) :
    Calls Try.prog 72 #[.slice A n k] w fun e w' => ∃ A' k', e = .returned (.slice A' n k') ∧ OwB w w' (.slice A' n k') n L ∧ Up w w' := by
  cases A with
  | none =>
    have h0 : n = 0 := by
      rcases Nat.eq_zero_or_pos n with h | h
      · exact h
      · obtain ⟨b, o, e, _⟩ := hS.2 h; cases e
    subst h0
    have e : L = [] := List.eq_nil_of_length_eq_zero hS.1
    subst e
    have hq := fun W => Lib.run_eql_slice_nil (P := Try.prog) W 22 95 none 0 k 0 0 Try.underlying22
    go_enter Try.func72, Try.ntmps72
    go_wp2_with fail
    go_ret
    exact ⟨_, _, rfl, OwB.nil _ _, Up.refl _⟩
  | some a =>
    obtain ⟨A', k', w', hr, h1, h2, _⟩ := appendB 22 w (w.alloc (.cells #[] 95)) _ 0 [] (OwB.empty (Up.refl w)) ((Up.refl w).alloc _ _) (some a) n k L (hS.up ((Up.refl w).alloc _ _)) (by omega)
    simp only [Nat.zero_add, List.nil_append] at hr h1
    have hq := fun W => Lib.run_eql_slice_nil (P := Try.prog) W 22 95 (some a) n k 0 0 Try.underlying22
    go_enter Try.func72, Try.ntmps72
    go_wp2_with (refine wpList_append_run (o := ⟨some 7, _, _, _, _, _⟩) rfl (.tmp 5) (.tmp 6) _ rfl _ _ rfl rfl _ _ hr ?_)
    go_ret
    exact ⟨_, _, rfl, h1, h2⟩

/-- Block g holds a row of room k whose first n buckets are L. -/
def Ro (w : World) (g k n : Nat) (L : List It) : Prop := ∃ cur : Array Value, Blk w g 95 cur ∧ cur.size = k * 2 ∧ n ≤ k ∧ k ≤ maxLen ∧ L.length = n ∧ cur.toList.take (n * 2) = fl L
theorem Ro.own {w0 w : World} {g k n : Nat} {L : List It} (h : Ro w g k n L) (hg : w0.heap.size ≤ g) : OwB w0 w (.slice (some ⟨g, 0, none⟩) n k) n L := by
  obtain ⟨cur, h1, h2, h3, h4, h5, h6⟩ := h
  exact ⟨by rw [fl_length, h5], Or.inr ⟨g, k, cur, rfl, hg, h1, h3, h4, h2, h6⟩⟩
theorem OwB.ro {w0 w : World} {A : Option Addr} {n k : Nat} {L : List It} (h : OwB w0 w (.slice A n k) n L) (hn : 0 < n) : ∃ g, A = some ⟨g, 0, none⟩ ∧ w0.heap.size ≤ g ∧ Ro w g k n L := by
  have hl : L.length = n := by have := h.1; rw [fl_length] at this; omega
  rcases h.2 with ⟨h0, h1⟩ | ⟨g, cap, cur, h0, h1, h2, h3, h4, h5, h6⟩
  · cases h0; omega
  · cases h0
    exact ⟨g, rfl, h1, cur, h2, h5, h3, h4, hl, h6⟩
section
variable {w w' : World} {g k n : Nat} {L : List It}
theorem Ro.sl (h : Ro w g k n L) : Sl w (some ⟨g, 0, none⟩) n L := by
  obtain ⟨cur, h1, h2, h3, h4, h5, h6⟩ := h
  refine ⟨h5, fun _ => ⟨g, 0, rfl, fun j u hj => ?_⟩⟩
  rw [Nat.zero_add, Blk.cell h1 j]
  rw [← h6, List.getElem?_take] at hj
  split at hj
  · simpa using hj
  · cases hj
theorem Ro.le (h : Ro w g k n L) : n ≤ k := by obtain ⟨cur, h1, h2, h3, h4, h5, h6⟩ := h; exact h3
theorem Ro.len (h : Ro w g k n L) : L.length = n := by obtain ⟨cur, h1, h2, h3, h4, h5, h6⟩ := h; exact h5
theorem Ro.lt (h : Ro w g k n L) : g < w.heap.size := by obtain ⟨cur, h1, _⟩ := h; exact Blk.lt h1
theorem Ro.frozen (h : Ro w g k n L) (o : Nat) : w.frozen? ⟨g, o, none⟩ = false := by obtain ⟨cur, h1, _⟩ := h; exact Blk.frozen h1 o
theorem Ro.cell (h : Ro w g k n L) {o : Nat} (ho : o < k * 2) : ∃ v, w.cell? ⟨g, o, none⟩ = some v := by
  obtain ⟨cur, h1, h2, _⟩ := h
  rw [Blk.cell h1]
  exact ⟨cur[o]'(by omega), by simp [h2, ho]⟩
theorem Ro.up (h : Ro w g k n L) (hu : Up w w') : Ro w' g k n L := by obtain ⟨cur, h1, h2⟩ := h; exact ⟨cur, Blk.up h1 hu, h2⟩
theorem Ro.drewN (h : Ro w g k n L) (m : Nat) : Ro (w.drewN m) g k n L := h
theorem Ro.far (h : Ro w g k n L) {p : Addr} (hp : g ≠ p.block) (u : Value) : Ro (w.setCell p u) g k n L := by obtain ⟨cur, h1, h2⟩ := h; exact ⟨cur, Blk.far h1 hp u, h2⟩
theorem Ro.put (h : Ro w g k n L) (i : Nat) (a b : Int) : Ro ((w.setCell ⟨g, i * 2, none⟩ (.int .i64 a)).setCell ⟨g, i * 2 + 1, none⟩ (.int .i64 b)) g k n (L.set i (a, b)) := by
  obtain ⟨cur, h1, h2, h3, h4, h5, h6⟩ := h
  refine ⟨_, Blk.set_ (Blk.set_ h1 (i * 2) (.int .i64 a)) (i * 2 + 1) (.int .i64 b), by simpa using h2, h3, h4, by rw [List.length_set]; exact h5, ?_⟩
  rw [Array.toList_setIfInBounds, Array.toList_setIfInBounds, List.take_set, List.take_set, h6]
  exact fl_set L i (a, b)
end
theorem Cp.drewN {w w' : World} {g : Nat} (h : Cp w w' g) (n : Nat) : Cp w (w'.drewN n) g := ⟨fun w0 h0 hg => (h.up w0 h0 hg).drewN n, h.far, h.size, h.fr⟩
theorem Cp.trans {w w' w2 : World} {g : Nat} (h : Cp w w' g) (h2 : Cp w' w2 g) : Cp w w2 g :=
  ⟨fun w0 h0 hg => h2.up w0 (h.up w0 h0 hg) hg, fun b hb => (h2.far b hb).trans (h.far b hb), h2.size.trans h.size, fun a => (h2.fr a).trans (h.fr a)⟩
/-- The slice expressions of Delete. -/
theorem sliceTo_run (g n k m : Nat) (h : m ≤ k) (w : World) : (Instr.slice 22 (.slice (some ⟨g, 0, none⟩) n k) none (some (.int .i64 m)) none).run Try.prog w = .ok (.slice (some ⟨g, 0, none⟩) m k) w := by
  have qs := Try.sizeOf95
  have ht := Try.underlying22
  have h1 : (m : Int) ≤ k := by omega
  simp [Instr.slice, run_underlying ht, Instr.sliceBounds, run_sliceBound, qs, h1, Int.natCast_nonneg, Addr.add]
theorem sliceFrom_run (A : Option Addr) (n k m : Nat) (h : m ≤ n) (w : World) : (Instr.slice 22 (.slice A n k) (some (.int .i64 m)) none none).run Try.prog w = .ok (.slice (if k = m then A else A.map (·.add (m * 2))) (n - m) (k - m)) w := by
  have qs := Try.sizeOf95
  have ht := Try.underlying22
  have h1 : (m : Int) ≤ n := by omega
  simp [Instr.slice, run_underlying ht, Instr.sliceBounds, run_sliceBound, qs, h1, Int.natCast_nonneg]
theorem slice3B_run (A : Option Addr) (n k i : Nat) (h2 : i + 1 ≤ n) (hk : n ≤ k) (w : World) : (Instr.slice 22 (.slice A n k) (some (.int .i64 i)) (some (.int .i64 ((i : Int) + 1))) (some (.int .i64 n))).run Try.prog w = .ok (.slice (if n = i then A else A.map (·.add (i * 2))) 1 (n - i)) w := by
  have qs := Try.sizeOf95
  have ht := Try.underlying22
  have h1 : (i : Int) ≤ (i : Int) + 1 := by omega
  have h2 : (i : Int) + 1 ≤ n := by omega
  have h3 : (n : Int) ≤ k := by omega
  have h4 : (0 : Int) ≤ (i : Int) + 1 := by omega
  simp [Instr.slice, run_underlying ht, Instr.sliceBounds, run_sliceBound, qs, h1, h2, h3, h4, Int.natCast_nonneg]
theorem sliceMid_run (g n k i j : Nat) (h : i ≤ j) (h2 : j ≤ k) (w : World) (hi : i ≠ k) : (Instr.slice 22 (.slice (some ⟨g, 0, none⟩) n k) (some (.int .i64 i)) (some (.int .i64 j)) none).run Try.prog w = .ok (.slice (some ⟨g, i * 2, none⟩) (j - i) (k - i)) w := by
  have qs := Try.sizeOf95
  have ht := Try.underlying22
  have h1 : (i : Int) ≤ j := by omega
  have h2 : (j : Int) ≤ k := by omega
  have e : ∀ x, (⟨g, 0, none⟩ : Addr).add x = ⟨g, x, none⟩ := fun x => by rw [add_at, Nat.zero_add]
  simp [Instr.slice, run_underlying ht, Instr.sliceBounds, run_sliceBound, qs, h1, h2, Int.natCast_nonneg, e, Ne.symm hi]
theorem fl_take_le {L : List It} {M : List Value} {n m : Nat} (h : M.take (n * 2) = fl L) (hm : m ≤ n) : M.take (m * 2) = fl (L.take m) := by
  rw [← fl_take, ← h, List.take_take, show min (m * 2) (n * 2) = m * 2 by omega]
/-- append(s[:i], s[i+1:]...): in its place. -/
theorem delete_append (ty : TypeId) (g k n i : Nat) (L : List It) (w : World) (h : Ro w g k n L) (hi : i + 1 < n) :
    ∃ w', (Builtin.append_ #[22, 22] ty #[.slice (some ⟨g, 0, none⟩) i k, .slice (some ⟨g, (i + 1) * 2, none⟩) (n - (i + 1)) (k - (i + 1))]).run Try.prog w = .ok (.slice (some ⟨g, 0, none⟩) (n - 1) k) w' ∧ Ro w' g k (n - 1) (L.take i ++ L.drop (i + 1)) ∧ Cp w w' g := by
  obtain ⟨cur, h1, h2, h3, h4, h5, h6⟩ := h
  obtain ⟨t, ht, hz, hs, hb⟩ := info_parts bucket_info
  have hl : (fl (L.drop (i + 1))).length = (n - (i + 1)) * t.size := by rw [fl_length, List.length_drop, h5, hs]
  have hl2 : (fl (L.drop (i + 1))).length = (n - (i + 1)) * 2 := by rw [hl, hs]
  have hcell : ∀ j u, (fl (L.drop (i + 1)))[j]? = some u → w.cell? ((⟨g, (i + 1) * 2, none⟩ : Addr).add j) = some u := fun j u hj => by
    rw [add_at, Blk.cell h1]
    rw [← fl_drop, List.getElem?_drop, ← h6, List.getElem?_take] at hj
    split at hj
    · simpa using hj
    · cases hj
  have hr := run_append_room (P := Try.prog) w 22 ty 95 t Try.underlying22 ht g i k cur h1 ⟨g, (i + 1) * 2, none⟩ (n - (i + 1)) (k - (i + 1)) (fl (L.drop (i + 1))) hl hcell (fl_one _) (by omega) (by rw [hl2, hs, h2]; omega)
  rw [show i + (n - (i + 1)) = n - 1 by omega, hs] at hr
  obtain ⟨hc, hb2⟩ := Cp.set w g cur (cur.toList.take (i * 2) ++ fl (L.drop (i + 1)) ++ cur.toList.drop (i * 2 + (fl (L.drop (i + 1))).length)).toArray _ h1
  refine ⟨_, hr, ⟨_, hb2, ?_, by omega, h4, by rw [List.length_append, List.length_take, List.length_drop]; omega, ?_⟩, hc⟩
  · simp only [List.size_toArray, List.length_append, List.length_take, List.length_drop, Array.length_toList, hl2]
    omega
  · rw [fl_append, ← fl_take_le h6 (show i ≤ n by omega)]
    have e : (cur.toList.take (i * 2) ++ fl (L.drop (i + 1))).length = (n - 1) * 2 := by
      rw [List.length_append, List.length_take, hl2, Array.length_toList]; omega
    rw [← e]
    exact List.take_left
theorem clear_run (ty : TypeId) (g k n m c : Nat) (L : List It) (w : World) (h : Ro w g k n L) (hm : n + m ≤ k) (h0 : 0 < m) :
    ∃ w', (Builtin.clear_ #[22] ty #[.slice (some ⟨g, n * 2, none⟩) m c]).run Try.prog w = .ok (.tuple #[]) w' ∧ Ro w' g k n L ∧ Cp w w' g := by
  obtain ⟨cur, h1, h2, h3, h4, h5, h6⟩ := h
  obtain ⟨t, ht, hz, hs, hb⟩ := info_parts bucket_info
  have hzl : (Builtin.zeroCells (Value.agg #[.int .i64 0, .int .i64 0]).cells m).toList.length = m * 2 := by
    rw [Array.length_toList, size_zeroCells]; rfl
  have hone : ∀ v ∈ (Builtin.zeroCells (Value.agg #[.int .i64 0, .int .i64 0]).cells m).toList, v.oneCell' = true := by
    intro v hv
    simp only [Builtin.zeroCells, Value.cells] at hv
    simp at hv
    obtain ⟨_, _, hv⟩ := hv
    subst hv
    rename_i j _
    rcases Nat.mod_two_eq_zero_or_one j with e | e <;> simp [e, Value.oneCell']
  have hst := run_storeCells_at Try.prog g (n * 2) 95 (Builtin.zeroCells (Value.agg #[.int .i64 0, .int .i64 0]).cells m).toList 0 cur w h1 (by rw [hzl, h2]; omega) hone
  obtain ⟨hc, hb2⟩ := Cp.set w g cur (cur.toList.take (n * 2 + 0) ++ (Builtin.zeroCells (Value.agg #[.int .i64 0, .int .i64 0]).cells m).toList ++ cur.toList.drop (n * 2 + 0 + (Builtin.zeroCells (Value.agg #[.int .i64 0, .int .i64 0]).cells m).toList.length)).toArray _ h1
  have hzv : (zeroValue 95).run Try.prog w = .ok (.agg #[.int .i64 0, .int .i64 0]) w := by
    simp [zeroValue, typeInfo, ht, hz]
  refine ⟨_, ?_, ⟨_, hb2, ?_, h3, h4, h5, ?_⟩, hc⟩
  · cases m with
    | zero => omega
    | succ m =>
      simp [Builtin.clear_, run_underlying Try.underlying22, hzv, hst]
  · simp only [List.size_toArray, List.length_append, List.length_take, List.length_drop, Array.length_toList, hzl] at *
    omega
  · simp only [Nat.add_zero]
    rw [List.append_assoc, List.take_append_of_le_length (by rw [List.length_take, Array.length_toList]; omega), List.take_take, Nat.min_self, h6]
end Go.Proofs.Ytfdjhahnggdklaa

namespace Go.Proofs.Ytfdjhahnggdklaa
open Go.RowKit

set_option maxHeartbeats 4000000 in
set_option maxRecDepth 100000 in
theorem delete_ro (g k n i : Nat) (L : List It) (w : World) (h : Ro w g k n L) (hi : i + 1 < n) (hn : n ≤ 1000000) :
    Calls Try.prog 101 #[.slice (some ⟨g, 0, none⟩) n k, .int .i64 i, .int .i64 ((i : Int) + 1)] w fun e w' => e = .returned (.slice (some ⟨g, 0, none⟩) (n - 1) k) ∧ Ro w' g k (n - 1) (L.take i ++ L.drop (i + 1)) ∧ Cp w w' g := by
  have hk := h.le
  obtain ⟨m, rfl⟩ : ∃ m, n = m + 1 := ⟨n - 1, by omega⟩
  rw [Nat.add_sub_cancel] at *
  have hs3 := fun W => slice3B_run (some ⟨g, 0, none⟩) (m + 1) k i (by omega) (by omega) W
  rw [Int.natCast_add, Int.natCast_one] at hs3
  have hsT := fun W => sliceTo_run g (m + 1) k i (by omega) W
  have hsF := fun W => sliceFrom_run (some ⟨g, 0, none⟩) (m + 1) k (i + 1) (by omega) W
  rw [if_neg (show ¬ k = i + 1 by omega), Option.map_some, add_at, Nat.zero_add, Int.natCast_add, Int.natCast_one] at hsF
  have hsM := fun W => sliceMid_run g m k m (m + 1) (by omega) (by omega) W (by omega)
  rw [Int.natCast_add, Int.natCast_one, show m + 1 - m = 1 by omega] at hsM
  obtain ⟨w1, hr1, hR1, hc1⟩ := delete_append 22 g k (m + 1) i L w.drew h hi
  rw [Nat.add_sub_cancel] at hR1
  rw [Nat.add_sub_cancel, show m + 1 - (i + 1) = m - i by omega] at hr1
  obtain ⟨w2, hr2, hR2, hc2⟩ := clear_run 0 g k m 1 (k - m) _ w1 hR1 (by omega) (by omega)
  have HR1 := Lib.hid hr1
  have HC : Hid (Cp w w2 g) := Lib.hid (Cp.trans ⟨fun _ h hg => hc1.up _ h.drew hg, hc1.far, hc1.size, hc1.fr⟩ hc2)
  clear hr1 hc1 hc2 hR1
  have HR := Lib.hid h
  clear h
  have t1 : ((i : Int) == (i : Int) + 1) = false := by simp; omega
  go_enter Try.func101, Try.ntmps101
  go_wp2_with fail
  go_region_held3 (fun _ => True) (exact trivial) (first | ((with_reducible refine step_append_run rfl (.tmp 22) (.tmp 25) _ rfl _ _ ?_ ?_ _ _ HR1.out ?_); rfl; rfl))
  go_wp2_with fail
  go_ret
  exact ⟨rfl, hR2, HC.out⟩
end Go.Proofs.Ytfdjhahnggdklaa

namespace Go.Proofs.Ytfdjhahnggdklaa
open Go.RowKit

/-- What a tick leaves. -/
def exL (L : List It) (f : Int) : List It := L.dropWhile (fun x => decide (x.1 < f))
theorem exL_step {L : List It} {f : Int} {i : Nat} (h : i < L.length) (hx : (L.getD i (0, 0)).1 < f) : exL (L.drop i) f = exL (L.drop (i + 1)) f := by
  unfold exL
  rw [List.drop_eq_getElem_cons h, List.dropWhile_cons, if_pos]
  rw [gD_at h] at hx
  simpa using hx
theorem exL_stop {L : List It} {f : Int} {i : Nat} (h : i < L.length) (hx : ¬ (L.getD i (0, 0)).1 < f) : exL (L.drop i) f = L.drop i := by
  unfold exL
  rw [List.drop_eq_getElem_cons h, List.dropWhile_cons, if_neg]
  rw [gD_at h] at hx
  simpa using hx
theorem exL_end {L : List It} {f : Int} {i : Nat} (h : L.length ≤ i) : exL (L.drop i) f = L.drop i := by
  rw [List.drop_eq_nil_of_le h]; rfl
theorem exL_suffix (L : List It) (f : Int) : ∃ P, P ++ exL L f = L := ⟨L.takeWhile (fun x => decide (x.1 < f)), List.takeWhile_append_dropWhile⟩

set_option maxHeartbeats 4000000 in
set_option maxRecDepth 100000 in
theorem expire_up (n k : Nat) (A : Option Addr) (L : List It) (f : Int) (hn : n ≤ 50000) (hk : n ≤ k) (w : World) (hS : Sl w A n L) :
    Calls Try.prog 40 #[.slice A n k, .int .i64 f] w fun e w' => ∃ A' n' k', e = .returned (.slice A' n' k') ∧ n' ≤ n ∧ OwB w w' (.slice A' n' k') n' (exL L f) ∧ Up w w' := by
  have HL := Lib.hid hS.1
  have HS := Lib.hid hS
  have HP : Hid (exL (L.drop 0) f = exL L f) := Lib.hid rfl
  generalize exL L f = Z at *
  clear hS
  go_enter Try.func40, Try.ntmps40
  go_wp2_with fail
  go_loopw [5] (fun t wr => ∃ i : Nat, t = .int .i64 i ∧ i ≤ n ∧ Hid (exL (L.drop i) f = Z) ∧ Hid (Up w wr)) (fun t _ => n - (intOf t).toNat)
  case atStart => exact ⟨0, rfl, Nat.zero_le _, HP, Lib.hid (Up.refl _)⟩
  case round =>
    obtain ⟨i, rfl, hi, HE, HU⟩ := hrel
    have f3 : (0 : Int) ≤ i := by omega
    have hsl := fun W => sliceFrom_run A n k i hi W
    have HC := Lib.hid (fun W (hW : Up w W) => clone_up (n - i) (k - i) _ (L.drop i) (by omega) W ((HS.out.up hW).cut hi hk))
    by_cases h : i < n
    · obtain ⟨b, o, rfl, d0, _⟩ := (HS.out.up HU.out).at_ h
      have f2 : (i : Int) < n := by omega
      have HX := Lib.hid (fun h2 => exL_step (L := L) (f := f) (i := i) (by rw [HL.out]; exact h) h2)
      have HY := Lib.hid (fun h2 => exL_stop (L := L) (f := f) (i := i) (by rw [HL.out]; exact h) h2)
      generalize (L.getD i (0, 0)).1 = p0 at *
      by_cases hx : p0 < f
      · have HE1 : Hid (exL (L.drop (i + 1)) f = Z) := Lib.hid ((HX.out hx).symm.trans HE.out)
        clear HX HY HE HC hsl
        go_wp2_with fail
        go_roundw
        case rel => exact ⟨i + 1, by go_num, by omega, HE1, HU⟩
        case measure => simp [intOf]; omega
      · obtain rfl : Z = L.drop i := by rw [← HE.out]; exact HY.out hx
        clear HX HY HE HP
        generalize hA : (if k = i then some (⟨b, o, none⟩ : Addr) else (some (⟨b, o, none⟩ : Addr)).map (·.add (i * 2))) = A2 at hsl HC
        clear hA
        go_wp2_with (go_at_call 72; (with_reducible refine (HC.out _ HU.out).mono ?_); rintro e w3 ⟨A3, k3, rfl, ho3, hu3⟩)
        go_ret
        exact ⟨_, _, _, rfl, by omega, ho3.weak HU.out.size, HU.out.trans hu3⟩
    · obtain rfl : i = n := by omega
      obtain rfl : Z = L.drop i := by rw [← HE.out]; exact exL_end (by rw [HL.out]; exact Nat.le_refl _)
      clear HE HP
      generalize hA : (if k = i then A else A.map (·.add (i * 2))) = A2 at hsl HC
      clear hA
      rw [Nat.sub_self] at hsl HC
      go_wp2_with (go_at_call 72; (with_reducible refine (HC.out _ HU.out).mono ?_); rintro e w3 ⟨A3, k3, rfl, ho3, hu3⟩)
      go_ret
      exact ⟨_, _, _, rfl, by omega, ho3.weak HU.out.size, HU.out.trans hu3⟩
end Go.Proofs.Ytfdjhahnggdklaa
