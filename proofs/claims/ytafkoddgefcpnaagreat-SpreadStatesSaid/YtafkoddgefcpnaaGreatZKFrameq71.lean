/- Texts of these claims, one after the other. -/
import Derived.Test.YtafkoddgefcpnaaGreatRows
import Derived.Test.YtafkoddgefcpnaaGreatZKMemq70
import Derived.Test.YtafkoddgefcpnaaGreatZKRowq62
namespace Go.Proofs.YtafkoddgefcpnaaGreat
open Go.ChangeShapes Go.WideShapes Go.ChangeAt Go.RowKit Go.Joins Go.Deep
set_option linter.unusedVariables false

section
variable {H : Type} {enc : TypeId × Value → H} {w : World} {base : Nat} {spare : Nat → Bool} {held : Bool}
/-- A slice by the cells of each of its elements. -/
theorem SG.of_each {α:Type} {f:α→List Value} {s b o len:Nat} {w:World} (hf:∀ x,(f x).length=s) (hs:0<s) (z:Nat→α) (h:∀ i,i<len→∀ j u,(f (z i))[j]?=some u→w.cell? ⟨b,o+(i * s+j),none⟩=some u):SG f w (some ⟨b,o,none⟩) len ((List.range len).map z):=by
  refine ⟨by simp,fun _=>⟨b,o,rfl,fun j u hj=>?_⟩⟩
  have hjl:j<len * s:=by
    rcases Nat.lt_or_ge j (len * s) with g | g
    · exact g
    · rw [List.getElem?_eq_none (by rw [flG_len hf];simpa using g)] at hj;cases hj
  have hk:j / s<len:=Nat.div_lt_of_lt_mul (by rw [Nat.mul_comm];exact hjl)
  have e:j / s * s+j % s=j:=Nat.div_add_mod' j s
  have hk2:j / s<((List.range len).map z).length:=by simpa using hk
  rw [← e,flG_get hf (z 0) hk2 (Nat.mod_lt _ hs)] at hj
  rw [show ((List.range len).map z).getD (j / s) (z 0)=z (j / s) by simp [List.getD,hk]] at hj
  have:=h (j / s) hk (j % s) u hj
  rwa [e] at this
theorem cells_agg7 {P:Program} {t:TypeId} {f0 f1 f2 f3 f4 f5 f6:Field} {m:Nat} {cs:List Value} {x:DataW H × List MemPlace} (hs:P.underlying t=some (.struct #[f0,f1,f2,f3,f4,f5,f6])) (hone:oneCellFields P #[f0,f1,f2,f3,f4,f5,f6]=true) (hC:P.cellsOf t=7)
    (h:DataW.trod enc P w 0 (fun _=>true) held m t cs=some x) :
    ∃ (v0 v1 v2 v3 v4 v5 v6:Value) (y0 y1 y2 y3 y4 y5 y6:DataW H × List MemPlace) (n:Nat),cs=[v0,v1,v2,v3,v4,v5,v6]∧DataW.trod enc P w 0 (fun _=>true) held n f0.type [v0]=some y0∧DataW.trod enc P w 0 (fun _=>true) held n f1.type [v1]=some y1∧DataW.trod enc P w 0 (fun _=>true) held n f2.type [v2]=some y2∧DataW.trod enc P w 0 (fun _=>true) held n f3.type [v3]=some y3∧DataW.trod enc P w 0 (fun _=>true) held n f4.type [v4]=some y4∧DataW.trod enc P w 0 (fun _=>true) held n f5.type [v5]=some y5∧DataW.trod enc P w 0 (fun _=>true) held n f6.type [v6]=some y6:=by
  obtain ⟨xs,n,_,hx,hl,hlen,hf⟩:=DataW.trod_struct hs h
  rw [hC] at hl
  obtain ⟨o0,k0⟩:=hone_of hone 0 f0 rfl
  obtain ⟨o1,k1⟩:=hone_of hone 1 f1 rfl
  obtain ⟨o2,k2⟩:=hone_of hone 2 f2 rfl
  obtain ⟨o3,k3⟩:=hone_of hone 3 f3 rfl
  obtain ⟨o4,k4⟩:=hone_of hone 4 f4 rfl
  obtain ⟨o5,k5⟩:=hone_of hone 5 f5 rfl
  obtain ⟨o6,k6⟩:=hone_of hone 6 f6 rfl
  match xs,hlen,cs,hl with
  | [y0,y1,y2,y3,y4,y5,y6],_,[v0,v1,v2,v3,v4,v5,v6],_=>exact ⟨v0,v1,v2,v3,v4,v5,v6,y0,y1,y2,y3,y4,y5,y6,n,rfl,by simpa [Value.cells,o0,k0] using hf 0 f0 rfl,by simpa [Value.cells,o1,k1] using hf 1 f1 rfl,by simpa [Value.cells,o2,k2] using hf 2 f2 rfl,by simpa [Value.cells,o3,k3] using hf 3 f3 rfl,by simpa [Value.cells,o4,k4] using hf 4 f4 rfl,by simpa [Value.cells,o5,k5] using hf 5 f5 rfl,by simpa [Value.cells,o6,k6] using hf 6 f6 rfl⟩
theorem mark_cells:Tryz.prog.cellsOf 56=7:=by kernel_rfl
set_option maxRecDepth 100000 in
theorem cells_mark {n:Nat} {cs:List Value} {x:DataW H × List MemPlace} (h:DataW.trod enc Tryz.prog w 0 (fun _=>true) held n 56 cs=some x):∃ z:Mrk,cs=cM z:=by
  obtain ⟨v0,v1,v2,v3,v4,v5,v6,y0,y1,y2,y3,y4,y5,y6,n,rfl,h0,h1,h2,h3,h4,h5,h6⟩:=cells_agg7 Tryz.underlying56 (by kernel_rfl) mark_cells h
  obtain ⟨z0,e0,_,g0⟩:=DataW.trod_int Tryz.underlying2 h0
  obtain ⟨z1,e1,_,g1⟩:=DataW.trod_int Tryz.underlying2 h1
  obtain ⟨z2,e2,_,g2⟩:=DataW.trod_int Tryz.underlying2 h2
  obtain ⟨z3,e3,_,g3⟩:=DataW.trod_int Tryz.underlying2 h3
  obtain ⟨z4,e4,_,g4⟩:=DataW.trod_int Tryz.underlying2 h4
  obtain ⟨z5,e5,_,g5⟩:=DataW.trod_int Tryz.underlying2 h5
  obtain ⟨z6,e6,_,g6⟩:=DataW.trod_int Tryz.underlying2 h6
  simp at e0 e1 e2 e3 e4 e5 e6
  subst e0 e1 e2 e3 e4 e5 e6
  exact ⟨⟨z0,z1,z2,z3,z4,z5,z6⟩,rfl⟩
set_option maxRecDepth 100000 in
theorem cells_marks {n:Nat} {cs:List Value} {x:DataW H × List MemPlace} (h:DataW.trod enc Tryz.prog w 0 (fun _=>true) held n 22 cs=some x) :
    ∃ (A:Option Addr) (len cap:Nat) (L:List Mrk),cs=[.slice A len cap]∧len≤cap∧SG cM w A len L:=by
  rcases open_slice Tryz.underlying22 h with ⟨hc,hx⟩ | ⟨a,len,cap,m,k,D,Pl,hc,_,hl,hm,hmm,hx,hall⟩
  · exact ⟨none,0,0,[],hc,Nat.le_refl _,rfl,fun h0=>absurd h0 (Nat.lt_irrefl _)⟩
  · simp only [if_true] at hmm
    subst hmm
    have each:∀ i,i<m→∃ z:Mrk,∀ j u,(cM z)[j]?=some u→w.cell? (a.add (i * 7+j))=some u:=fun i hi=>by
      obtain ⟨cs',h1,h2⟩:=hall i hi
      rw [mark_cells] at h1
      obtain ⟨_,hlen,hcell⟩:=World.cells?_some h1
      obtain ⟨z,rfl⟩:=cells_mark h2
      refine ⟨z,fun j u hj=>?_⟩
      have hj2:j<7:=by
        rcases Nat.lt_or_ge j 7 with g | g
        · exact g
        · rw [List.getElem?_eq_none (by rw [hlen];exact g)] at hj;cases hj
      have:=hcell j hj2
      rw [add_add,hj] at this
      exact this
    have inh:Inhabited Mrk:=⟨⟨0,0,0,0,0,0,0⟩⟩
    obtain ⟨z,hz⟩:=choose_lt each
    rcases Nat.eq_zero_or_pos len with h0 | h0
    · subst h0
      exact ⟨some a,0,m,[],hc,hl,rfl,fun h0=>absurd h0 (Nat.lt_irrefl _)⟩
    have hsp:a.spot=none:=by
      have:=World.cell?_spot (hz 0 (by omega) 0 _ rfl)
      simpa [Addr.add] using this
    obtain ⟨b,o,s⟩:=a
    simp at hsp
    subst hsp
    refine ⟨some ⟨b,o,none⟩,len,m,(List.range len).map z,hc,hl,SG.of_each (s:=7) (fun _=>rfl) (by omega) z (fun i hi j u hj=>?_)⟩
    have:=hz i (by omega) j u hj
    rwa [add_plain] at this
end
end Go.Proofs.YtafkoddgefcpnaaGreat

namespace Go.Proofs.YtafkoddgefcpnaaGreat
open Go.RowKit
set_option linter.unusedVariables false

set_option maxHeartbeats 4000000 in
theorem rvalue13_any (g v:Int) (w:World) :
    Calls Tryz.prog 83 #[.int .i64 g,.int .i64 v] w fun e w'=>e=.returned (.bool (decide (valG g v)))∧w=w':=by
  have KV:=Lib.hid (rvalue_any v)
  unfold valG
  cases hv:valueB v with
  | false =>
    rw [decide_eq_false (p := -4096≤v∧v≤4096∧(0≤v∨g=1∨g=4)) (fun h=>by rw [show valueB v=true from decide_eq_true ⟨h.1,h.2.1⟩] at hv;cases hv)]
    rw [hv] at KV
    clear hv
    go_enter Tryz.func83,Tryz.ntmps83
    go_wp2_with (go_at_call 33;(with_reducible refine (KV.out _).mono ?_);rintro e w' ⟨rfl,rfl⟩)
    go_ret
    exact ⟨rfl,rfl⟩
  | true =>
  rw [hv] at KV
  have hv2:-4096≤v∧v≤4096:=of_decide_eq_true hv
  clear hv
  have HB:Hid (∀ _:¬ (0≤v∨g=1∨g=4),decide (-4096≤v∧v≤4096∧(0≤v∨g=1∨g=4))=false):=Lib.hid (fun h=>decide_eq_false (fun x=>h x.2.2))
  have HT:Hid (∀ _:(0≤v∨g=1∨g=4),decide (-4096≤v∧v≤4096∧(0≤v∨g=1∨g=4))=true):=Lib.hid (fun h=>decide_eq_true ⟨hv2.1,hv2.2,h⟩)
  generalize decide (-4096≤v∧v≤4096∧(0≤v∨g=1∨g=4))=r at *
  clear hv2
  by_cases h1:0≤v
  · obtain rfl:r=true:=HT.out (Or.inl h1)
    clear HB HT
    go_enter Tryz.func83,Tryz.ntmps83
    go_wp2_with (go_at_call 33;(with_reducible refine (KV.out _).mono ?_);rintro e w' ⟨rfl,rfl⟩)
    go_ret
    exact ⟨rfl,rfl⟩
  have t1:decide (0≤v)=false:=decide_eq_false h1
  by_cases h2:g=1
  · subst h2
    obtain rfl:r=true:=HT.out (Or.inr (Or.inl rfl))
    clear HB HT
    go_enter Tryz.func83,Tryz.ntmps83
    go_wp2_with (go_at_call 33;(with_reducible refine (KV.out _).mono ?_);rintro e w' ⟨rfl,rfl⟩)
    go_ret
    exact ⟨rfl,rfl⟩
  have t2:(g == 1)=false:=beq_eq_false_iff_ne.2 h2
  by_cases h3:g=4
  · subst h3
    obtain rfl:r=true:=HT.out (Or.inr (Or.inr rfl))
    clear HB HT h2
    go_enter Tryz.func83,Tryz.ntmps83
    go_wp2_with (go_at_call 33;(with_reducible refine (KV.out _).mono ?_);rintro e w' ⟨rfl,rfl⟩)
    go_ret
    exact ⟨rfl,rfl⟩
  have t3:(g == 4)=false:=beq_eq_false_iff_ne.2 h3
  obtain rfl:r=false:=HB.out (fun h=>h.elim h1 (fun h=>h.elim h2 h3))
  clear HB HT
  go_enter Tryz.func83,Tryz.ntmps83
  go_wp2_with (go_at_call 33;(with_reducible refine (KV.out _).mono ?_);rintro e w' ⟨rfl,rfl⟩)
  go_ret
  exact ⟨rfl,rfl⟩

set_option maxHeartbeats 4000000 in
set_option maxRecDepth 100000 in
theorem part13_any (n s q lo hi:Int) (h1:1≤n) (h2:n≤65536) (h3:-4096≤lo) (h4:lo≤4096) (h5:-4096≤hi) (h6:hi≤4096) (w:World) :
    Calls Tryz.prog 84 #[.int .i64 n,.int .i64 s,.int .i64 q,.int .i64 lo,.int .i64 hi] w fun e w'=>e=.returned (.bool (decide (prtP n s q lo hi)))∧w=w':=by
  obtain ⟨⟨x1,x2⟩,⟨x3,x4⟩,x5⟩:=fit_facts (s:=s) (q:=q) h1 h2 h3 h4 h5 h6
  have HF:=Lib.hid (fit_facts2 (s:=s) (q:=q) h1 h2 h3 h4 h5 h6)
  have HB:Hid (∀ _:¬ (n * lo≤s∧s≤n * hi∧0≤q∧q≤n * 4096 * 4096∧s * s≤n * q),decide (prtP n s q lo hi)=false):=Lib.hid (fun h=>decide_eq_false h)
  have HT:Hid (n * lo≤s∧s≤n * hi∧0≤q∧q≤n * 4096 * 4096∧s * s≤n * q→decide (prtP n s q lo hi)=true):=Lib.hid (fun h=>decide_eq_true h)
  generalize decide (prtP n s q lo hi)=r at *
  have z1:0≤n * 4096 * 4096:=by omega
  by_cases k0:¬ (n * lo≤s)
  · obtain rfl:r=false:=HB.out (fun h=>k0 h.1)
    have u0:=Int.not_le.1 k0
    clear HB HT HF
    go_enter Tryz.func84,Tryz.ntmps84
    go_wp2
    go_ret
    exact ⟨rfl,rfl⟩
  have k0:=Classical.not_not.1 k0
  have u0:¬ (s<n * lo):=Int.not_lt.2 k0
  by_cases k1:¬ (s≤n * hi)
  · obtain rfl:r=false:=HB.out (fun h=>k1 h.2.1)
    have u1:=Int.not_le.1 k1
    clear HB HT HF
    go_enter Tryz.func84,Tryz.ntmps84
    go_wp2
    go_ret
    exact ⟨rfl,rfl⟩
  have k1:=Classical.not_not.1 k1
  have u1:¬ (n * hi<s):=Int.not_lt.2 k1
  by_cases k2:¬ (0≤q)
  · obtain rfl:r=false:=HB.out (fun h=>k2 h.2.2.1)
    have u2:=Int.not_le.1 k2
    clear HB HT HF
    go_enter Tryz.func84,Tryz.ntmps84
    go_wp2
    go_ret
    exact ⟨rfl,rfl⟩
  have k2:=Classical.not_not.1 k2
  have u2:¬ (q<0):=Int.not_lt.2 k2
  by_cases k3:¬ (q≤n * 4096 * 4096)
  · obtain rfl:r=false:=HB.out (fun h=>k3 h.2.2.2.1)
    have u3:=Int.not_le.1 k3
    clear HB HT HF
    go_enter Tryz.func84,Tryz.ntmps84
    go_wp2
    go_ret
    exact ⟨rfl,rfl⟩
  have k3:=Classical.not_not.1 k3
  have u3:¬ (n * 4096 * 4096<q):=Int.not_lt.2 k3
  obtain ⟨⟨y1,y2⟩,y3,y4⟩:=HF.out k0 k1 k2 k3
  by_cases k4:¬ (s * s≤n * q)
  · obtain rfl:r=false:=HB.out (fun h=>k4 h.2.2.2.2)
    have u4:=Int.not_le.1 k4
    clear HB HT HF
    go_enter Tryz.func84,Tryz.ntmps84
    go_wp2
    go_ret
    exact ⟨rfl,rfl⟩
  have k4:=Classical.not_not.1 k4
  have u4:¬ (n * q<s * s):=Int.not_lt.2 k4
  obtain rfl:r=true:=HT.out ⟨k0,k1,k2,k3,k4⟩
  clear HB HT HF
  go_enter Tryz.func84,Tryz.ntmps84
  go_wp2
  go_ret
  exact ⟨rfl,rfl⟩

end Go.Proofs.YtafkoddgefcpnaaGreat
