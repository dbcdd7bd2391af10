/- Texts of these claims, one after the other. -/
import Derived.Test.YtafkoddgefcpnaaGreatRows
import Derived.Test.YtafkoddgefcpnaaGreatZIMathq54
import Derived.Test.YtafkoddgefcpnaaGreatZKMemq70
namespace Go.Proofs.YtafkoddgefcpnaaGreat
open Go.RowKit
set_option linter.unusedVariables false

def mostZ (g k c:Int):Int:=if agB g=true∧(1≤k∧k≤64)∧(1≤c∧c≤65536) then 2 * k * bitsZ (topG g c)+2 else 0
end Go.Proofs.YtafkoddgefcpnaaGreat

namespace Go.Proofs.YtafkoddgefcpnaaGreat

theorem bitsZ_lt:∀ (m:Nat) (n:Int),n.toNat≤m→0≤n→n<((2 ^ (bitsZ n).toNat:Nat):Int):=by
  intro m
  induction m with
  | zero => intro n h h0; obtain rfl : n = 0 := by omega
            decide
  | succ m ih =>
    intro n h h0
    rcases Int.lt_or_le 0 n with hp | hp
    · have h1:=ih (n / 2) (by omega) (by omega)
      have h2:=(bitsZ_bound (n / 2)).1
      rw [bitsZ_step n hp,show (bitsZ (n / 2)+1).toNat=(bitsZ (n / 2)).toNat+1 by omega,Nat.pow_succ]
      generalize 2 ^ (bitsZ (n / 2)).toNat=y at *
      omega
    · obtain rfl:n=0:=by omega
      decide
theorem asc_len {n:Nat}:∀ {P:List Nat} (lo:Nat),P.Pairwise (fun a b=>a<b)→(∀ p ∈ P,lo≤p∧p<n)→lo+P.length≤n∨P=[]:=by
  intro P
  induction P with
  | nil=>intro lo _ _;exact Or.inr rfl
  | cons a R ih =>
    intro lo h1 h2
    have ha:=h2 a List.mem_cons_self
    rw [List.pairwise_cons] at h1
    refine Or.inl ?_
    rcases ih (a+1) h1.2 (fun p hp=>⟨h1.1 p hp,(h2 p (List.mem_cons_of_mem _ hp)).2⟩) with h | h
    · rw [List.length_cons];omega
    · subst h;simp only [List.length_cons,List.length_nil];omega
theorem SnM.len {nr:List It→Nat→Nat→Prop} {cl:List It→Nat→Nat→Bool} {g w c now:Int} {P:List Nat} {I:List It} (h:SnM nr cl g w c now P I):P.length≤I.length:=by
  rcases asc_len 0 h.up (fun p hp=>⟨Nat.zero_le _,h.lt p hp⟩) with e | e
  · omega
  · subst e;exact Nat.zero_le _
theorem topG_nn {g c:Int} (hc:1≤c):0≤topG g c:=by
  unfold topG
  repeat' split
  all_goals omega
/-- No more marks than Most says. -/
theorem Sv.few {g w k c now:Int} {P:List Nat} {I:List It} (h:Sv g w k c now P I) (hk:1≤k∧k≤64) (hc:1≤c∧c≤65536):(P.length:Int)≤mostZ g k c:=by
  have e:mostZ g k c=2 * k * bitsZ (topG g c)+2:=if_pos ⟨decide_eq_true h.g1,hk,hc⟩
  have h1:=few_ch3 (f:=agP g I) (k:=k.toNat) (by omega) (bitsZ (topG g c)).toNat P (by
    rw [show ((k.toNat:Nat):Int)=k by omega];exact h.far) (fun p _=>agP_nn h.g1 h.vals p) (fun a ha=>by
      have h2:agP g I a≤topG g c:=ag_top h.g1 (vlF_val h.vals a) (by have:=h.cap a ha;rw [vlF_len];omega)
      exact Int.lt_of_le_of_lt h2 (bitsZ_lt _ _ (Nat.le_refl _) (topG_nn hc.1)))
  have h3:=(bitsZ_bound (topG g c)).1
  rw [e]
  generalize bitsZ (topG g c)=y at *
  have h4:(2 * k.toNat * y.toNat:Nat)=(2 * k.toNat * y.toNat:Nat):=rfl
  have h5:((2 * k.toNat * y.toNat+2:Nat):Int)=2 * k * y+2:=by
    rw [Int.natCast_add,Int.natCast_mul,Int.natCast_mul,show ((k.toNat:Nat):Int)=k by omega,show ((y.toNat:Nat):Int)=y by omega];rfl
  omega
/-- The live items as the laws take them. -/
theorem mlL_sv {nr:List It→Nat→Nat→Prop} {cl:List It→Nat→Nat→Bool} {g w c now:Int} {P:List Nat} {I:List It} (h:SnM nr cl g w c now P I):mlL I now w=I.filter (fun x=>decide (now - w<x.1)):=by
  unfold mlL
  refine List.filter_congr (fun x hx=>?_)
  rw [decide_eq_true (h.rg x hx).2,Bool.and_true]
end Go.Proofs.YtafkoddgefcpnaaGreat
