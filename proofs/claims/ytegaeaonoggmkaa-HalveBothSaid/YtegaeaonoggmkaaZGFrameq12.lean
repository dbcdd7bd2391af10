/- Texts of these claims, one after the other. -/
import Derived.Test.YtegaeaonoggmkaaRows
import Derived.Test.YtegaeaonoggmkaaZMathq15
import Derived.Test.YtegaeaonoggmkaaZWFormatq9
namespace Go.Proofs.Ytegaeaonoggmkaa
open Go.ChangeShapes Go.WideShapes Go.ChangeAt Go.RowKit Go.Joins Go.Deep

theorem laid_out : laidOutB Try.prog = true := by kernel_rfl
section
variable {H : Type} {enc : TypeId × Value → H} {w : World} {base : Nat} {spare : Nat → Bool} {held : Bool}
theorem stay {t : TypeId} (hr : Try.prog.readableRec t = true) (hrow : t < Try.prog.types.size) {W W' : World} {v : Value} {d : DataW H} {ps before : List MemPlace} {sp : Nat → Bool}
    (h : DataW.Trod enc Try.prog W 0 (fun _ => true) true t v d ps) (hu : Up W W') (hlt : ∀ x ∈ before, x.block < W.heap.size) (hsub : ∀ x ∈ ps, x ∈ before) (hsp : ∀ x ∈ before, sp x.block = true) :
    DataW.Trod enc Try.prog W' 0 sp true t v d ps :=
  WideElems.Trod_stays laid_out hr hrow h (fun x hx => hu.below.same (hlt x (hsub x hx))) (fun x hx => hsp x (hsub x hx))
end
end Go.Proofs.Ytegaeaonoggmkaa

namespace Go.Proofs.Ytegaeaonoggmkaa
open Go.ChangeShapes Go.WideShapes Go.ChangeAt Go.RowKit Go.Joins Go.Deep

theorem int64_cells : Try.prog.cellsOf 2 = 1 := by kernel_rfl
section
variable {H : Type} {enc : TypeId × Value → H} {w : World} {base : Nat} {spare : Nat → Bool} {held : Bool}
end
end Go.Proofs.Ytegaeaonoggmkaa

namespace Go.Proofs.Ytegaeaonoggmkaa
open Go.ChangeShapes Go.WideShapes Go.ChangeAt Go.RowKit Go.Joins Go.Deep

/-- A slice of int64 that reads as the list L. -/
def Sn (w : World) (A : Option Addr) (n : Nat) (L : List Int) : Prop :=
  L.length = n ∧ (0 < n → ∃ b o, A = some ⟨b, o, none⟩ ∧ ∀ j, j < n → w.cell? ⟨b, o + j, none⟩ = some (.int .i64 (L.getD j 0)))
theorem Sn.none_ {w : World} {A : Option Addr} : Sn w A 0 [] := ⟨rfl, fun h => absurd h (by omega)⟩
theorem Sn.up {w w' : World} {A : Option Addr} {n : Nat} {L : List Int} (h : Sn w A n L) (hu : Up w w') : Sn w' A n L :=
  ⟨h.1, fun hn => by
    obtain ⟨b, o, e, hc⟩ := h.2 hn
    exact ⟨b, o, e, fun j hj => hu.keep _ _ _ (hc j hj)⟩⟩
section
variable {H : Type} {enc : TypeId × Value → H} {w : World} {base : Nat} {spare : Nat → Bool} {held : Bool}
end
end Go.Proofs.Ytegaeaonoggmkaa

namespace Go.Proofs.Ytegaeaonoggmkaa
open Go.ChangeShapes Go.WideShapes Go.ChangeAt Go.RowKit Go.Joins Go.Deep

section
variable {H : Type} {enc : TypeId × Value → H} {w : World} {base : Nat} {spare : Nat → Bool} {held : Bool}
end
/-- A block of int64 numbers that is known whole. -/
def nl (L : List Int) : List Value := L.map (Value.int .i64)
def Bn (w : World) (g : Nat) (L : List Int) : Prop := Blk w g 2 (nl L).toArray
theorem Bn.sn {w : World} {g n : Nat} {L : List Int} (h : Bn w g L) (hn : L.length = n) : Sn w (some ⟨g, 0, none⟩) n L :=
  ⟨hn, fun _ => ⟨g, 0, rfl, fun j hj => by
    rw [Nat.zero_add, Blk.cell h j]
    have : j < L.length := by omega
    simp [nl, List.getD, this]⟩⟩
theorem Bn.up {w w' : World} {g : Nat} {L : List Int} (h : Bn w g L) (hu : Up w w') : Bn w' g L := Blk.up h hu
theorem int64_info : (Try.prog.info? 2).map (fun i => (i.zero, i.size, i.bytes)) = some (some (.int .i64 0), 1, 8) := by kernel_rfl
theorem made1 (c : Nat) (z : Value) : madeCells #[z] (c * 1) = (List.replicate c z).toArray := by
  apply Array.ext'
  apply List.ext_getElem?
  intro j
  simp only [madeCells, Array.toList_map, Array.toList_range, List.getElem?_map, Nat.mul_one, List.getElem?_replicate]
  by_cases hj : j < c
  · rw [List.getElem?_range hj, if_pos hj]; simp [Nat.mod_one]
  · rw [List.getElem?_eq_none (by simp; omega), if_neg hj]; rfl
theorem makeN_run (c : Nat) (hc : c * 8 ≤ 140737488351232) (w : World) : (Instr.makeSlice 22 (.int .i64 (c : Int)) (.int .i64 (c : Int))).run Try.prog w =
    .ok (.slice (some ⟨w.heap.size, 0, none⟩) c c) (w.alloc (.cells (nl (List.replicate c 0)).toArray 2)) := by
  obtain ⟨i, hi, hz, hs, hb⟩ := info_parts int64_info
  have := run_make (P := Try.prog) w 22 2 i _ Try.underlying22 hi hz .i64 .i64 (c : Int) (c : Int) (by omega) (by omega) (by rw [hb]; omega) (by omega)
  rw [this, hs, Int.toNat_natCast]
  have e : nl (List.replicate c 0) = List.replicate c (.int .i64 0) := by simp [nl]
  rw [e, ← made1]
  rfl
theorem Bn.new (w : World) (L : List Int) (g : Nat) (hg : g = w.heap.size) : Bn (w.alloc (.cells (nl L).toArray 2)) g L := by rw [hg]; exact Blk.new w _ _
end Go.Proofs.Ytegaeaonoggmkaa
