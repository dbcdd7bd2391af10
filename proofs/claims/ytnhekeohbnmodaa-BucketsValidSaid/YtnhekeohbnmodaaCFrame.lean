/- How an argument that is a list of numbers is opened, and read again behind a call. -/
import Derived.Test.YtnhekeohbnmodaaGFrame
import Derived.ChangeSlices
import Derived.SizedLaws
namespace Go.Proofs.Ytnhekeohbnmodaa
open Go.ChangeShapes Go.WideShapes Go.ChangeAt Go.RowKit Go.Joins Go.Deep

/-- A slice of int64 that reads as the list L. -/
def Sn (w : World) (A : Option Addr) (n : Nat) (L : List Int) : Prop :=
  L.length = n ∧ (0 < n → ∃ b o, A = some ⟨b, o, none⟩ ∧ ∀ j, j < n → w.cell? ⟨b, o + j, none⟩ = some (.int .i64 (L.getD j 0)))
theorem Sn.none_ {w : World} {A : Option Addr} : Sn w A 0 [] := ⟨rfl, fun h => absurd h (by omega)⟩
theorem Sn.up {w w' : World} {A : Option Addr} {n : Nat} {L : List Int} (h : Sn w A n L) (hu : Up w w') : Sn w' A n L :=
  ⟨h.1, fun hn => by
    obtain ⟨b, o, e, hc⟩ := h.2 hn
    exact ⟨b, o, e, fun j hj => hu.keep _ _ _ (hc j hj)⟩⟩
theorem bytes_int64 : Try.prog.bytesOf 2 = 8 := by kernel_rfl
section
variable {H : Type} {enc : TypeId × Value → H} {w : World} {base : Nat} {spare : Nat → Bool} {held : Bool}
set_option maxRecDepth 100000 in
theorem open_nums {r : Reach} {b0 : Nat} {v : Value} {d : DataW H} {p : List MemPlace} (hv : Value.okWide Try.prog w r b0 51 v) (h : DataW.Trod enc Try.prog w 0 (fun _ => true) held 51 v d p) :
    ∃ (n k : Nat) (A : Option Addr) (L : List Int), v = .slice A n k ∧ n ≤ k ∧ Sn w A n L ∧
      ((∀ es sp, d = .slice es sp → (es.length + sp.length) * Try.prog.bytesOf 2 ≤ reachBytes) → n * 8 ≤ 140737488351232) := by
  obtain ⟨fuel, hf⟩ := h
  obtain ⟨a0, n, c, rfl⟩ := okWide_slice Try.underlying51 hv
  rcases open_ints Try.underlying51 Try.underlying2 int64_cells hf with ⟨hc, hx⟩ | ⟨a, len, cap, zs, hc, _, hl, hm, hzl, hx, hcell, hwf⟩
  · simp [Value.cells] at hc
    obtain ⟨rfl, rfl, rfl⟩ := hc
    exact ⟨0, 0, none, [], rfl, Nat.le_refl _, Sn.none_, fun _ => by omega⟩
  · simp [Value.cells] at hc
    obtain ⟨rfl, rfl, rfl⟩ := hc
    simp only [if_true] at hzl
    refine ⟨n, c, some a, zs.take n, rfl, hl, ⟨by simp; omega, fun hn => ?_⟩, fun hz => ?_⟩
    · have hsp : a.spot = none := by
        have := World.cell?_spot (hcell 0 (by omega))
        simpa [Addr.add] using this
      obtain ⟨b, o, s⟩ := a
      simp at hsp
      subst hsp
      refine ⟨b, o, rfl, fun j hj => ?_⟩
      have := hcell j (by omega)
      rw [add_at] at this
      rw [this]
      simp [List.getD, hj]
    · have e := (Prod.mk.inj hx).1
      have := hz _ _ e
      rw [bytes_int64] at this
      simp only [lits, List.length_map, List.length_take, List.length_drop, reachBytes] at this
      omega
end
end Go.Proofs.Ytnhekeohbnmodaa
