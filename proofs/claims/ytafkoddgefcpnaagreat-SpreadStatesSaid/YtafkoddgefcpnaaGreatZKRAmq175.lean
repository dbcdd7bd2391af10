/- The reference of layer 13: what Add does to a list of marks, step by step; its slices. -/
import Derived.Test.YtafkoddgefcpnaaGreatRows
import Derived.Test.YtafkoddgefcpnaaGreatZKRMkq87
namespace Go.Proofs.YtafkoddgefcpnaaGreat
open Go.RowKit
set_option linter.unusedVariables false

theorem sliceFromM_run (b o n k m:Nat) (h:m≤n) (h2:m<k) (w:World):(Instr.slice 22 (.slice (some ⟨b,o,none⟩) n k) (some (.int .i64 m)) none none).run Tryz.prog w=.ok (.slice (some ⟨b,o+m * 7,none⟩) (n - m) (k - m)) w:=by
  have qs:=Tryz.sizeOf56
  have ht:=Tryz.underlying22
  have h1:(m:Int)≤n:=by omega
  have h3:¬ k=m:=by omega
  simp [Instr.slice,run_underlying ht,Instr.sliceBounds,run_sliceBound,qs,h1,h3,Int.natCast_nonneg,add_at]
theorem sliceToM_run (b o n k i:Nat) (h:i+1≤k) (w:World):(Instr.slice 22 (.slice (some ⟨b,o,none⟩) n k) none (some (.int .i64 ((i:Int)+1))) none).run Tryz.prog w=.ok (.slice (some ⟨b,o,none⟩) (i+1) k) w:=by
  have qs:=Tryz.sizeOf56
  have ht:=Tryz.underlying22
  have h1:(i:Int)+1≤k:=by omega
  have h2:(0:Int)≤(i:Int)+1:=by omega
  have h3:((i:Int)+1).toNat=i+1:=by omega
  simp [Instr.slice,run_underlying ht,Instr.sliceBounds,run_sliceBound,qs,h1,h2,h3,Addr.add]
theorem SG.cutM {w:World} {b o n k:Nat} {L:List Mrk} (h:SG cM w (some ⟨b,o,none⟩) n L) (hk:k<n):SG cM w (some ⟨b,o+k * 7,none⟩) (n - k) (L.drop k):=by
  have hc:=h.cut cM_len (k:=k) (cap:=n) (by omega) (Nat.le_refl _)
  rw [if_neg (show ¬ n=k by omega)] at hc
  simpa [add_at] using hc
theorem mem_getD {R:List Mrk} {x:Mrk} (h:x ∈ R):∃ j,j<R.length∧R.getD j mk0=x:=by
  obtain ⟨j,hj,e⟩:=List.mem_iff_getElem.1 h
  exact ⟨j,hj,by rw [List.getD_eq_getElem?_getD,List.getElem?_eq_getElem hj];exact e⟩
theorem drop_head {R:List Mrk} {i:Nat} (h:i<R.length):R.drop i=R.getD i mk0 :: R.drop (i+1):=by
  rw [List.drop_eq_getElem_cons h];simp [List.getD,h]
theorem take_last {R:List Mrk} {i:Nat} (h:i<R.length):R.take (i+1)=R.take i ++ [R.getD i mk0]:=by
  rw [List.take_succ_eq_append_getElem h];simp [List.getD,h]
theorem rprune_no {cl:Mrk→Mrk→Bool} {R Z:List Mrk} {m i:Nat} (hl:R.length=m) (hi:i<m) (h:R.take i ++ prL cl (m - i) (R.drop i)=Z) (hno:∀ p,i<p→p<m→cl (R.getD i mk0) (R.getD p mk0)=false):R.take (i+1) ++ prL cl (m - (i+1)) (R.drop (i+1))=Z:=by
  rw [drop_head (by omega),show m - i=(m - (i+1))+1 by omega] at h
  have h:=prL_go h
  rw [← take_last (by omega),cutL_none (fun y hy=>by
    obtain ⟨p,hp,e⟩:=mem_getD hy
    rw [getD_drop'] at e
    rw [List.length_drop] at hp
    rw [← e]
    exact hno (i+1+p) (by omega) (by omega))] at h
  exact h
theorem rprune_yes {cl:Mrk→Mrk→Bool} {R Z:List Mrk} {m i j:Nat} (hl:R.length=m) (hij:i<j) (hj:j<m) (h:R.take i ++ prL cl (m - i) (R.drop i)=Z) (hy:cl (R.getD i mk0) (R.getD j mk0)=true) (hno:∀ p,j<p→p<m→cl (R.getD i mk0) (R.getD p mk0)=false) :
    (R.take (i+1) ++ R.drop j).take (i+1) ++ prL cl (i+1+(m - j) - (i+1)) ((R.take (i+1) ++ R.drop j).drop (i+1))=Z:=by
  rw [drop_head (R:=R) (i:=i) (by omega),show m - i=(m - (i+1))+1 by omega] at h
  have h:=prL_go h
  have e:cutL (cl (R.getD i mk0)) (R.drop (i+1))=R.drop j:=by
    rw [cutL_at mk0 (R:=R.drop (i+1)) (m:=j - (i+1)) (by rw [List.length_drop];omega) (by rw [getD_drop',show i+1+(j - (i+1))=j by omega];exact hy) (fun n h1 h2=>by
      rw [List.length_drop] at h2
      rw [getD_drop']
      exact hno (i+1+n) (by omega) (by omega)),List.drop_drop,show i+1+(j - (i+1))=j by omega]
  rw [← take_last (by omega),e] at h
  have hlt:(R.take (i+1)).length=i+1:=by rw [List.length_take];omega
  rw [List.take_left' hlt,List.drop_left' hlt]
  rw [prL_fuel cl (i+1+(m - j) - (i+1)) (m - (i+1)) (R.drop j) (by rw [List.length_drop];omega) (by rw [List.length_drop];omega)]
  exact h
end Go.Proofs.YtafkoddgefcpnaaGreat
