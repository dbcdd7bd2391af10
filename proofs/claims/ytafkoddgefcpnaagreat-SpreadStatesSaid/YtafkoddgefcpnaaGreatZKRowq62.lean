/- Texts of these claims, one after the other. -/
import Derived.Test.YtafkoddgefcpnaaGreatRows
import Derived.Test.YtafkoddgefcpnaaGreatZFBaseq52
import Derived.Test.YtafkoddgefcpnaaGreatZIMathq53
namespace Go.Proofs.YtafkoddgefcpnaaGreat
open Go.RowKit
set_option linter.unusedVariables false

section
variable {α : Type} {f : α → List Value} {s : Nat}
theorem flG_take (hf:∀ x,(f x).length=s) (L:List α):∀ k,(flG f L).take (k * s)=flG f (L.take k):=by
  induction L with
  | nil=>intro k;simp [flG]
  | cons x L ih =>
    intro k
    cases k with
    | zero=>simp [flG]
    | succ k =>
      rw [flG,List.take_append,List.take_of_length_le (by rw [hf,Nat.add_mul];omega),hf,show (k+1) * s - s=k * s by rw [Nat.add_mul];omega,ih]
      rfl
variable {w w' : World} {A : Option Addr} {n : Nat} {L : List α}
theorem SG.first (h:SG f w A n L) (hf:∀ x,(f x).length=s) {k:Nat} (hk:k≤n):SG f w A k (L.take k):=by
  refine ⟨by rw [List.length_take,h.1];omega,fun hn=>?_⟩
  obtain ⟨b,o,rfl,hcell⟩:=h.2 (by omega)
  refine ⟨b,o,rfl,fun j u hu=>hcell j u ?_⟩
  rw [← flG_take hf,List.getElem?_take] at hu
  split at hu
  · exact hu
  · cases hu
/-- An empty row of the call's own. -/
theorem OG.fresh {e:TypeId} {w0:World} (hu:w0.heap.size≤w.heap.size) (cs:Array Value) (hs:cs.size=0):OG f e s w0 (w.alloc (.cells cs e)) (.slice (some ⟨w.heap.size,0,none⟩) 0 0) 0 ([]:List α):=by
  refine ⟨rfl,by simp [flG],Or.inr ⟨w.heap.size,0,cs,rfl,hu,heap_alloc_new w _,Nat.le_refl _,by simp [maxLen],by rw [hs];simp,by simp [flG]⟩⟩
end
end Go.Proofs.YtafkoddgefcpnaaGreat

namespace Go.Proofs.YtafkoddgefcpnaaGreat
open Go.RowKit
set_option linter.unusedVariables false

theorem adv_no {now td:Int} (ht:tickB now=true) (h:td<now∨16777216<td):(if tickB now=true then (if td<now∨16777216<td then ((0:Int),(3:Int)) else (td,0)) else (0,1))=(0,3):=by rw [if_pos ht,if_pos h]
end Go.Proofs.YtafkoddgefcpnaaGreat

namespace Go.Proofs.YtafkoddgefcpnaaGreat

theorem dsB_bad {k:Int} {X:List Mrk} {j:Nat} (hj:j<X.length) (h1:1<j) (h:clQ k (X.getD (j - 2) mk0) (X.getD j mk0)=true):dsB k X=false:=decide_eq_false (fun hp=>by rw [hp j hj h1] at h;cases h)
section
variable {nr : List It → Nat → Nat → Prop} {cl : List It → Nat → Nat → Bool} {g w k c now : Int} {P : List Nat} {I : List It}
end
section
variable {w k c now : Int} {P : List Nat} {I : List It}
end
end Go.Proofs.YtafkoddgefcpnaaGreat
