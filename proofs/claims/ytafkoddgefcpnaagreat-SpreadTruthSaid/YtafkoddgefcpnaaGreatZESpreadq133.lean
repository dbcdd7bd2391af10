/- What Spread of package exact returns. -/
import Derived.Test.YtafkoddgefcpnaaGreatRows
import Derived.Test.YtafkoddgefcpnaaGreatZEQuoq127
import Derived.Test.YtafkoddgefcpnaaGreatZREasyq131
namespace Go.Proofs.YtafkoddgefcpnaaGreat
open Go.RowKit

/-- n times the sum of the squared deviations: n Q - S S. -/
def dvZ (L:List It):Int:=(L.length:Int) * sqZ L - smZ L * smZ L
/-- The sum of the squared differences of the last value and all before it, and of all pairs. -/
def rowZ (v:Int) (L:List It):Int:=(L.map (fun x=>(v - x.2) * (v - x.2))).sum
theorem rowZ_form (v:Int) (L:List It):rowZ v L=(L.length:Int) * (v * v) - 2 * v * smZ L+sqZ L:=by
  induction L with
  | nil=>simp [rowZ,smZ,sqZ]
  | cons x L ih =>
    simp only [rowZ,smZ,sqZ,List.map_cons,List.sum_cons,List.length_cons] at *
    rw [ih]
    have e1:(v - x.2) * (v - x.2)=v * v - 2 * v * x.2+x.2 * x.2:=by
      rw [Int.sub_mul,Int.mul_sub,Int.mul_sub,Int.mul_comm x.2 v,Int.mul_assoc 2 v x.2];omega
    have e2:((L.length+1:Nat):Int) * (v * v)=(L.length:Int) * (v * v)+v * v:=by rw [Int.natCast_add,Int.add_mul];simp
    have e3:2 * v * (x.2+(L.map (fun x=>x.2)).sum)=2 * v * x.2+2 * v * (L.map (fun x=>x.2)).sum:=Int.mul_add _ _ _
    rw [e1,e2,e3]
    omega
theorem rowZ_nonneg (v:Int) (L:List It):0≤rowZ v L:=by
  induction L with
  | nil=>simp [rowZ]
  | cons x L ih =>
    have:0≤(v - x.2) * (v - x.2):=by rw [← sq_abs];exact Int.mul_nonneg (by omega) (by omega)
    simp only [rowZ,List.map_cons,List.sum_cons] at *
    omega
theorem dvZ_next (L:List It) (x:It):dvZ (L ++ [x])=dvZ L+rowZ x.2 L:=by
  rw [rowZ_form]
  unfold dvZ
  have e1:sqZ (L ++ [x])=sqZ L+x.2 * x.2:=by simp [sqZ]
  have e2:smZ (L ++ [x])=smZ L+x.2:=by simp [smZ]
  rw [e1,e2,List.length_append]
  have e3:((L.length + [x].length:Nat):Int)=(L.length:Int)+1:=by simp
  rw [e3]
  generalize (L.length:Int)=n
  generalize sqZ L=Q
  generalize smZ L=S
  generalize x.2=v
  simp only [Int.add_mul,Int.mul_add,Int.one_mul]
  rw [Int.mul_assoc 2 v S,Int.mul_comm v S]
  omega
theorem dvZ_nil:dvZ []=0:=by simp [dvZ,sqZ,smZ]
theorem dvZ_nonneg (L:List It):0≤dvZ L:=by
  have:∀ k,k≤L.length→0≤dvZ (L.take k):=by
    intro k
    induction k with
    | zero=>intro _;rw [List.take_zero,dvZ_nil];exact Int.le_refl _
    | succ k ih =>
      intro hk
      rw [take_next (by omega),dvZ_next]
      have:=ih (by omega)
      have:=rowZ_nonneg (L.getD k (0,0)).2 (L.take k)
      omega
  have h:=this L.length (Nat.le_refl _)
  rwa [List.take_of_length_le (Nat.le_refl _)] at h
/-- What Spread returns. -/
def sprN (L:List It):Int:=if L=[] then 0 else quoN (dvZ L) L.length
def sprD (L:List It):Int:=if L=[] then 1 else quoD (dvZ L) L.length
end Go.Proofs.YtafkoddgefcpnaaGreat
