/- Lists of int64 numbers: how an argument is opened with the bounds of its elements, a block that is known whole, and make. -/
import Derived.Laws.MakeOwn
import Derived.Test.YtnhekeohbnmodaaZBFrame
import Derived.Test.YtnhekeohbnmodaaZCFrame
import Derived.Test.YtnhekeohbnmodaaZGBase
import Derived.Test.YtnhekeohbnmodaaZMath
import Derived.Test.YtnhekeohbnmodaaZNum
import Derived.Test.YtnhekeohbnmodaaZWFormat
import Derived.Test.YtnhekeohbnmodaaZWide
namespace Go.Proofs.Ytnhekeohbnmodaa
open Go.ChangeShapes Go.WideShapes Go.ChangeAt Go.RowKit Go.Joins Go.Deep

section
variable {H : Type} {enc : TypeId × Value → H} {w : World} {base : Nat} {spare : Nat → Bool} {held : Bool}
set_option maxRecDepth 100000 in
theorem open_nums2 {r : Reach} {b0 : Nat} {v : Value} {d : DataW H} {p : List MemPlace} (hv : Value.okWide Try.prog w r b0 51 v) (h : DataW.Trod enc Try.prog w 0 (fun _ => true) held 51 v d p) :
    ∃ (n k : Nat) (A : Option Addr) (L : List Int), v = .slice A n k ∧ n ≤ k ∧ Sn w A n L ∧ (∀ x ∈ L, In x) ∧
      ((∀ es sp, d = .slice es sp → (es.length + sp.length) * Try.prog.bytesOf 2 ≤ reachBytes) → n * 8 ≤ 140737488351232) := by
  obtain ⟨fuel, hf⟩ := h
  obtain ⟨a0, n, c, rfl⟩ := okWide_slice Try.underlying51 hv
  rcases open_ints Try.underlying51 Try.underlying2 int64_cells hf with ⟨hc, hx⟩ | ⟨a, len, cap, zs, hc, _, hl, hm, hzl, hx, hcell, hwf⟩
  · simp [Value.cells] at hc
    obtain ⟨rfl, rfl, rfl⟩ := hc
    exact ⟨0, 0, none, [], rfl, Nat.le_refl _, Sn.none_, fun x hx => (by cases hx), fun _ => by omega⟩
  · simp [Value.cells] at hc
    obtain ⟨rfl, rfl, rfl⟩ := hc
    simp only [if_true] at hzl
    refine ⟨n, c, some a, zs.take n, rfl, hl, ⟨by simp; omega, fun hn => ?_⟩, fun x hx => in_of_wf (hwf x (List.mem_of_mem_take hx)), fun hz => ?_⟩
    · have hsp : a.spot = none := by
        have := World.cell?_spot (hcell 0 (by omega))
        simpa [Addr.add] using this
      obtain ⟨b, o, s⟩ := a
      simp at hsp
      subst hsp
      refine ⟨b, o, rfl, fun j hj => ?_⟩
      have := hcell j (by omega)
      rw [add_at] at this
      rw [this]
      simp [List.getD, hj]
    · have e := (Prod.mk.inj hx).1
      have := hz _ _ e
      rw [bytes_int64] at this
      simp only [lits, List.length_map, List.length_take, List.length_drop, reachBytes] at this
      omega
end
theorem in_getD {L : List Int} (h : ∀ x ∈ L, In x) {j : Nat} (hj : j < L.length) : In (L.getD j 0) := h _ (by simp [List.getD, hj])

/-- A block of int64 numbers that is known whole. -/
def nl (L : List Int) : List Value := L.map (Value.int .i64)
def Bn (w : World) (g : Nat) (L : List Int) : Prop := Blk w g 2 (nl L).toArray
theorem Bn.sn {w : World} {g n : Nat} {L : List Int} (h : Bn w g L) (hn : L.length = n) : Sn w (some ⟨g, 0, none⟩) n L :=
  ⟨hn, fun _ => ⟨g, 0, rfl, fun j hj => by
    rw [Nat.zero_add, Blk.cell h j]
    have : j < L.length := by omega
    simp [nl, List.getD, this]⟩⟩
theorem Bn.up {w w' : World} {g : Nat} {L : List Int} (h : Bn w g L) (hu : Up w w') : Bn w' g L := Blk.up h hu
theorem Bn.set_ {w : World} {g : Nat} {L : List Int} (h : Bn w g L) (k : Nat) (a : Int) : Bn (w.setCell ⟨g, k, none⟩ (.int .i64 a)) g (L.set k a) := by
  have h1 := Blk.set_ h k (.int .i64 a)
  unfold Bn
  have e : (nl (L.set k a)).toArray = (nl L).toArray.setIfInBounds k (.int .i64 a) := by simp [nl, List.map_set]
  rw [e]
  exact h1
theorem Bn.at_ {w : World} {g : Nat} {L : List Int} (h : Bn w g L) {k : Nat} (hk : k < L.length) : w.cell? ⟨g, k, none⟩ = some (.int .i64 (L.getD k 0)) := by
  rw [Blk.cell h]; simp [nl, List.getD, hk]

theorem int64_info : (Try.prog.info? 2).map (fun i => (i.zero, i.size, i.bytes)) = some (some (.int .i64 0), 1, 8) := by kernel_rfl
theorem made1 (c : Nat) (z : Value) : madeCells #[z] (c * 1) = (List.replicate c z).toArray := by
  apply Array.ext'
  apply List.ext_getElem?
  intro j
  simp only [madeCells, Array.toList_map, Array.toList_range, List.getElem?_map, Nat.mul_one, List.getElem?_replicate]
  by_cases hj : j < c
  · rw [List.getElem?_range hj, if_pos hj]; simp [Nat.mod_one]
  · rw [List.getElem?_eq_none (by simp; omega), if_neg hj]; rfl
theorem makeN_run (c : Nat) (hc : c * 8 ≤ 140737488351232) (w : World) : (Instr.makeSlice 51 (.int .i64 (c : Int)) (.int .i64 (c : Int))).run Try.prog w =
    .ok (.slice (some ⟨w.heap.size, 0, none⟩) c c) (w.alloc (.cells (nl (List.replicate c 0)).toArray 2)) := by
  obtain ⟨i, hi, hz, hs, hb⟩ := info_parts int64_info
  have := run_make (P := Try.prog) w 51 2 i _ Try.underlying51 hi hz .i64 .i64 (c : Int) (c : Int) (by omega) (by omega) (by rw [hb]; omega) (by omega)
  rw [this, hs, Int.toNat_natCast]
  have e : nl (List.replicate c 0) = List.replicate c (.int .i64 0) := by simp [nl]
  rw [e, ← made1]
  rfl
theorem Bn.new (w : World) (L : List Int) (g : Nat) (hg : g = w.heap.size) : Bn (w.alloc (.cells (nl L).toArray 2)) g L := by rw [hg]; exact Blk.new w _ _
end Go.Proofs.Ytnhekeohbnmodaa
