/- How arguments that are states of package spread are opened. -/
import Derived.Test.YtafkoddgefcpnaaGreatRows
import Derived.Test.YtafkoddgefcpnaaGreatZKFrameq71
namespace Go.Proofs.YtafkoddgefcpnaaGreat
open Go.ChangeShapes Go.WideShapes Go.ChangeAt Go.RowKit Go.Joins Go.Deep
set_option linter.unusedVariables false

section
variable {H : Type} {enc : TypeId × Value → H} {w : World} {base : Nat} {spare : Nat → Bool} {held : Bool}
theorem array6 {α:Type} {cs:Array α} (h:cs.size=6):∃ v0 v1 v2 v3 v4 v5,cs=#[v0,v1,v2,v3,v4,v5]:=by
  obtain ⟨l⟩:=cs
  match l,h with
  | [v0,v1,v2,v3,v4,v5],_=>exact ⟨v0,v1,v2,v3,v4,v5,rfl⟩
theorem open_agg6 {P:Program} {r:Reach} {b0:Nat} {t:TypeId} {f0 f1 f2 f3 f4 f5:Field} {v:Value} {d:DataW H} {p:List MemPlace} (hs:P.underlying t=some (.struct #[f0,f1,f2,f3,f4,f5])) (hone:oneCellFields P #[f0,f1,f2,f3,f4,f5]=true) (hC:P.cellsOf t=6)
    (hv:Value.okWide P w r b0 t v) (h:DataW.Trod enc P w 0 (fun _=>true) held t v d p) :
    ∃ (v0 v1 v2 v3 v4 v5:Value) (y0 y1 y2 y3 y4 y5:DataW H × List MemPlace) (n:Nat),v=.agg #[v0,v1,v2,v3,v4,v5]∧DataW.trod enc P w 0 (fun _=>true) held n f0.type [v0]=some y0∧DataW.trod enc P w 0 (fun _=>true) held n f1.type [v1]=some y1∧DataW.trod enc P w 0 (fun _=>true) held n f2.type [v2]=some y2∧DataW.trod enc P w 0 (fun _=>true) held n f3.type [v3]=some y3∧DataW.trod enc P w 0 (fun _=>true) held n f4.type [v4]=some y4∧DataW.trod enc P w 0 (fun _=>true) held n f5.type [v5]=some y5:=by
  obtain ⟨cs,rfl,hsz⟩:=okWide_struct hs hv
  obtain ⟨v0,v1,v2,v3,v4,v5,rfl⟩:=array6 (hsz.trans hC)
  obtain ⟨fuel,hf⟩:=h
  obtain ⟨xs,n,_,hx,hl,hlen,hf⟩:=DataW.trod_struct hs hf
  obtain ⟨o0,k0⟩:=hone_of hone 0 f0 rfl
  obtain ⟨o1,k1⟩:=hone_of hone 1 f1 rfl
  obtain ⟨o2,k2⟩:=hone_of hone 2 f2 rfl
  obtain ⟨o3,k3⟩:=hone_of hone 3 f3 rfl
  obtain ⟨o4,k4⟩:=hone_of hone 4 f4 rfl
  obtain ⟨o5,k5⟩:=hone_of hone 5 f5 rfl
  match xs,hlen with
  | [y0,y1,y2,y3,y4,y5],_=>exact ⟨v0,v1,v2,v3,v4,v5,y0,y1,y2,y3,y4,y5,n,rfl,by simpa [Value.cells,o0,k0] using hf 0 f0 rfl,by simpa [Value.cells,o1,k1] using hf 1 f1 rfl,by simpa [Value.cells,o2,k2] using hf 2 f2 rfl,by simpa [Value.cells,o3,k3] using hf 3 f3 rfl,by simpa [Value.cells,o4,k4] using hf 4 f4 rfl,by simpa [Value.cells,o5,k5] using hf 5 f5 rfl⟩
theorem state14_cells:Tryz.prog.cellsOf 24=6:=by kernel_rfl
set_option maxRecDepth 100000 in
theorem open_state14 {r:Reach} {b0:Nat} {v:Value} {d:DataW H} {p:List MemPlace} (hv:Value.okWide Tryz.prog w r b0 24 v) (h:DataW.Trod enc Tryz.prog w 0 (fun _=>true) held 24 v d p) :
    ∃ (a0:Int) (a1:Int) (a2:Int) (a3:Int) (a4:Int) (n5 k5:Nat) (A5:Option Addr) (L5:List Mrk),v=.agg #[.int .i64 a0,.int .i64 a1,.int .i64 a2,.int .i64 a3,.int .i64 a4,.slice A5 n5 k5]∧n5≤k5∧SG cM w A5 n5 L5:=by
  obtain ⟨v0,v1,v2,v3,v4,v5,y0,y1,y2,y3,y4,y5,n,rfl,h0,h1,h2,h3,h4,h5⟩:=open_agg6 Tryz.underlying24 (by kernel_rfl) state14_cells hv h
  obtain ⟨a0,e0,_,_⟩:=DataW.trod_int Tryz.underlying2 h0
  obtain ⟨a1,e1,_,_⟩:=DataW.trod_int Tryz.underlying3 h1
  obtain ⟨a2,e2,_,_⟩:=DataW.trod_int Tryz.underlying3 h2
  obtain ⟨a3,e3,_,_⟩:=DataW.trod_int Tryz.underlying2 h3
  obtain ⟨a4,e4,_,_⟩:=DataW.trod_int Tryz.underlying2 h4
  obtain ⟨A5,n5,k5,L5,e5,hl5,hS5⟩:=cells_marks h5
  simp at e0 e1 e2 e3 e4 e5
  subst e0 e1 e2 e3 e4 e5
  exact ⟨a0,a1,a2,a3,a4,n5,k5,A5,L5,rfl,hl5,hS5⟩
end
end Go.Proofs.YtafkoddgefcpnaaGreat
