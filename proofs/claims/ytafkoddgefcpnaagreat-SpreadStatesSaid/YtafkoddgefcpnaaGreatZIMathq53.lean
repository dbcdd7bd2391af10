/- Texts of these claims, one after the other. -/
import Derived.Test.YtafkoddgefcpnaaGreatRows
import Derived.Test.YtafkoddgefcpnaaGreatZESqq31
import Derived.Test.YtafkoddgefcpnaaGreatZHOrdq37
import Derived.Test.YtafkoddgefcpnaaGreatZKMarkq68
namespace Go.Proofs.YtafkoddgefcpnaaGreat
open Go.RowKit

/-- Parameters; all buckets live; valid states. -/
def mayC (v k c now:Int):Bool:=mayB v c now && decide (1≤k∧k≤64)
def lvX (now v:Int) (X:List It):Bool:=decide (∀ j,j<X.length→liveB now v (X.getD j (0,0)).1=true)
def stC (v k c now:Int) (X:List It):Bool:=mayC v k c now && (vaB X k && (lvX now v X && decide (totB X≤c)))
theorem mayC_true {v k c now:Int} (h:mayC v k c now=true):mayB v c now=true∧1≤k∧k≤64:=by
  unfold mayC at h
  rw [Bool.and_eq_true,decide_eq_true_eq] at h
  exact ⟨h.1,h.2⟩
theorem lvX_iff {now v:Int} {X:List It}:lvX now v X=true ↔ ∀ x ∈ X,liveB now v x.1=true:=by
  unfold lvX
  rw [decide_eq_true_eq]
  constructor
  · intro h x hx
    obtain ⟨j,hj,rfl⟩:=List.mem_iff_getElem.1 hx
    have:=h j hj
    rw [gD_at hj] at this
    exact this
  · intro h j hj
    exact h _ (gD_mem hj)
theorem stC_true {v k c now:Int} {X:List It} (h:stC v k c now X=true):mayC v k c now=true∧Va X k∧lvX now v X=true∧totB X≤c:=by
  unfold stC at h
  simp only [Bool.and_eq_true,decide_eq_true_eq] at h
  exact ⟨h.1,vaB_iff.1 h.2.1,h.2.2.1,h.2.2.2⟩
theorem stC_yes {v k c now:Int} {X:List It} (h1:mayC v k c now=true) (h2:Va X k) (h3:lvX now v X=true) (h4:totB X≤c):stC v k c now X=true:=by
  unfold stC
  rw [h1,vaB_iff.2 h2,h3,decide_eq_true h4]
  rfl
theorem mayC_facts {v k c now:Int} (h:mayC v k c now=true):(0≤now∧now≤16777216)∧(1≤v∧v≤1048576)∧(1≤c∧c≤65536)∧(tickB now && winB v)=true:=by
  obtain ⟨h1,h2,h3⟩:=mayC_true h
  obtain ⟨a,b,d,e⟩:=mayB_true h1
  exact ⟨tickB_true a,winB_true b,⟨d,e⟩,by rw [a,b];rfl⟩
theorem live_iff {now v t:Int} (h:(tickB now && winB v)=true) (h0:0≤t):liveB now v t=true ↔ now - v<t∧t≤now:=by
  rw [liveB_yes h,firZ_yes h]
  simp only [Bool.and_eq_true,decide_eq_true_eq]
  constructor <;> intro g <;> exact ⟨by omega,by omega⟩
/-- The buckets X stand for items with the ticks S: each for so many in turn, the last of them at its tick. -/
def Cv:List It→List Int→Prop
  | [],S=>S=[]
  | p :: X,S=>∃ G R,S=G ++ p.1 :: R∧(G.length:Int)+1=szB p.2∧Cv X R
theorem Cv.app:∀ {P X:List It} {S:List Int},Cv (P ++ X) S ↔ ∃ S1 S2,S=S1 ++ S2∧Cv P S1∧Cv X S2:=by
  intro P
  induction P with
  | nil =>
    intro X S
    constructor
    · intro h;exact ⟨[],S,rfl,rfl,h⟩
    · rintro ⟨S1,S2,rfl,h1,h2⟩
      have h1:S1=[]:=h1
      subst h1
      exact h2
  | cons p P ih =>
    intro X S
    constructor
    · rintro ⟨G,R,rfl,hg,h⟩
      obtain ⟨S1,S2,rfl,h1,h2⟩:=ih.1 h
      exact ⟨G ++ p.1 :: S1,S2,by simp,⟨G,S1,rfl,hg,h1⟩,h2⟩
    · rintro ⟨S1,S2,rfl,⟨G,R,rfl,hg,h1⟩,h2⟩
      exact ⟨G,R ++ S2,by simp,hg,ih.2 ⟨R,S2,rfl,h1,h2⟩⟩
theorem Cv.len:∀ {X:List It} {S:List Int},Cv X S→(S.length:Int)=totB X:=by
  intro X
  induction X with
  | nil=>intro S h;have h:S=[]:=h;subst h;rfl
  | cons p X ih =>
    rintro S ⟨G,R,rfl,hg,h⟩
    have:=ih h
    simp only [List.length_append,List.length_cons,totB]
    omega
theorem Cv.mg {X:List It} {S:List Int} {l:Int} (h0:0≤l) (h1:l<30) (hd:Ds X) (hc:2≤cn l X) (h:Cv X S):Cv (mgB X l) S:=by
  obtain ⟨P,a,b,Q,rfl,e2,e3,e4⟩:=split2 hd hc
  rw [mgB_split e2]
  obtain ⟨S1,S2,rfl,k1,G,R,rfl,hg,G2,R2,rfl,hg2,k2⟩:=Cv.app.1 h
  simp only at hg hg2
  refine Cv.app.2 ⟨S1,_,rfl,k1,G ++ a :: G2,R2,by simp,?_,k2⟩
  simp only [List.length_append,List.length_cons]
  rw [szB_two h0 h1]
  omega
theorem puS_cv {k T t:Int} (hT:T≤1073741824):∀ {n:Nat} {l:Int} {X:List It} {S:List Int},Iv X k l T t→l+n=31→Cv X S→Cv (puS k n l X) S:=by
  intro n
  induction n with
  | zero=>intro l X S _ _ h;exact h
  | succ n ih =>
    intro l X S h hn hC
    by_cases hc:(cn l X:Int)≤k+1
    · rw [puS_at hc];exact hC
    · rw [puS_step hc]
      obtain ⟨h1,h2,h3,h4⟩:=h.next hT (by omega) hc
      exact ih h4 (by omega) (Cv.mg h.l0 h1 h.ds h3 hC)
theorem puB_cv {X:List It} {S:List Int} {k t:Int} (h:Va X k) (h0:0≤t) (h1:t≤16777216) (hl:∀ x ∈ X,x.1≤t) (hT:totB X<1073741824) (hC:Cv X S):Cv (puB k t X) (S ++ [t]) :=
  puS_cv (by omega) (h.start h0 h1 hl) rfl (Cv.app.2 ⟨S,[t],rfl,hC,[],[],rfl,rfl,rfl⟩)
/-- The ticks of a list after an insertion are those that were there, and the new one. -/
theorem puS_tick {k T t:Int} (hT:T≤1073741824):∀ {n:Nat} {l:Int} {X:List It},Iv X k l T t→l+n=31→∀ x ∈ puS k n l X,∃ y ∈ X,y.1=x.1:=by
  intro n
  induction n with
  | zero=>intro l X _ _ x hx;exact ⟨x,hx,rfl⟩
  | succ n ih =>
    intro l X h hn x hx
    by_cases hc:(cn l X:Int)≤k+1
    · rw [puS_at hc] at hx;exact ⟨x,hx,rfl⟩
    · rw [puS_step hc] at hx
      obtain ⟨h1,h2,h3,h4⟩:=h.next hT (by omega) hc
      obtain ⟨y,hy,e⟩:=ih h4 (by omega) x hx
      rcases mg_mem h.ds h3 hy with g | g
      · exact ⟨y,g,e⟩
      · exact ⟨_,g.2,e⟩
theorem puB_tick {X:List It} {k t:Int} (h:Va X k) (h0:0≤t) (h1:t≤16777216) (hl:∀ x ∈ X,x.1≤t) (hT:totB X<1073741824):∀ x ∈ puB k t X,x.1=t∨∃ y ∈ X,y.1=x.1:=by
  intro x hx
  obtain ⟨y,hy,e⟩:=puS_tick (by omega) (h.start h0 h1 hl) rfl x hx
  rcases List.mem_append.1 hy with g | g
  · exact Or.inr ⟨y,g,e⟩
  · simp only [List.mem_singleton] at g;subst g;exact Or.inl e.symm
/-- How many ticks are live. -/
def lvN (S:List Int) (now v:Int):Nat:=S.countP (fun t=>decide (now - v<t) && decide (t≤now))
theorem lvN_app (P S:List Int) (now v:Int):lvN (P ++ S) now v=lvN P now v+lvN S now v:=List.countP_append
theorem lvN_le (S:List Int) (now v:Int):lvN S now v≤S.length:=List.countP_le_length
theorem lvN_zero {S:List Int} {now v:Int} (h:∀ x ∈ S,x≤now - v):lvN S now v=0:=by
  unfold lvN;rw [List.countP_eq_zero];intro x hx;have:=h x hx;simp;omega
theorem lvN_all {S:List Int} {now v:Int} (h:∀ x ∈ S,now - v<x∧x≤now):lvN S now v=S.length:=by
  unfold lvN;rw [List.countP_eq_length];intro x hx;have:=h x hx;simp;omega
/-- The state after items M. -/
structure Hs (v k c now:Int) (X M:List It):Prop where
  st:stC v k c now X=true
  asc:M.Pairwise (fun x y=>x.1≤y.1)
  rg:∀ x ∈ M,0≤x.1∧x.1≤now
  cv:∃ P S,M.map (fun x=>x.1)=P ++ S∧(∀ x ∈ P,x≤now - v)∧Cv X S
theorem Hs.start {v k c now:Int} (h:mayC v k c now=true):Hs v k c now [] [] :=
  ⟨stC_yes h (Va.nil (mayC_true h).2.1 (by have := (mayC_true h).2.2; omega)) (lvX_iff.2 (fun x hx => (by cases hx))) (by have := (mayC_facts h).2.2.1.1; simp only [totB]; omega),
   List.Pairwise.nil,(fun x hx=>(by cases hx)),[],[],rfl,(fun x hx=>(by cases hx)),rfl⟩
theorem stC_add {v k c now:Int} {X:List It} (h:stC v k c now X=true) (hc:totB X ≠ c):stC v k c now (puB k now X)=true∧(0≤now∧now≤16777216)∧(∀ x ∈ X,x.1≤now)∧totB X+1≤1073741824:=by
  obtain ⟨a1,a2,a3,a4⟩:=stC_true h
  obtain ⟨g1,g2,g3,g4⟩:=mayC_facts a1
  have hl:=lvX_iff.1 a3
  have hx:∀ x ∈ X,x.1≤now:=fun x hx=>((live_iff g4 (a2.rg x hx).1.1).1 (hl x hx)).2
  obtain ⟨b1,b2,b3⟩:=puB_va a2 g1.1 g1.2 hx (by omega)
  refine ⟨stC_yes a1 b1 (lvX_iff.2 (fun x hx2=>?_)) (by omega),g1,hx,by omega⟩
  rcases puB_tick a2 g1.1 g1.2 hx (by omega) x hx2 with e | ⟨y,hy,e⟩
  · rw [e];exact (live_iff g4 g1.1).2 ⟨by omega,by omega⟩
  · rw [← e];exact hl y hy
theorem Hs.add {v k c now y:Int} {X M:List It} (h:Hs v k c now X M) (hc:totB X ≠ c):Hs v k c now (puB k now X) (M ++ [(now,y)]):=by
  obtain ⟨b1,b2,b3,b4⟩:=stC_add h.st hc
  obtain ⟨a1,a2,a3,a4⟩:=stC_true h.st
  refine ⟨b1,?_,?_,?_⟩
  · rw [List.pairwise_append]
    refine ⟨h.asc,List.pairwise_singleton _ _,fun x hx z hz=>?_⟩
    simp only [List.mem_singleton] at hz
    subst hz
    exact (h.rg x hx).2
  · intro x hx
    rcases List.mem_append.1 hx with g | g
    · exact h.rg x g
    · simp only [List.mem_singleton] at g;subst g;exact ⟨b2.1,Int.le_refl _⟩
  · obtain ⟨P,S,e,hP,hC⟩:=h.cv
    exact ⟨P,S ++ [now],by rw [List.map_append,e,List.append_assoc];rfl,hP,puB_cv a2 b2.1 b2.2 b3 (by omega) hC⟩
/-- The lower bound of the answer. -/
def qlo0 (X:List It):Int:=if X=[] then 0 else totB X - szB (X.getD 0 (0,0)).2+1
/-- The number of live items lies between the bounds, which are narrow. -/
theorem Hs.holds {v k c now:Int} {X M:List It} (h:Hs v k c now X M):qlo0 X≤(lvN (M.map (fun x=>x.1)) now v:Int)∧(lvN (M.map (fun x=>x.1)) now v:Int)≤totB X∧k * (totB X - qlo0 X)≤qlo0 X∧0≤qlo0 X∧qlo0 X≤totB X:=by
  obtain ⟨a1,a2,a3,a4⟩:=stC_true h.st
  obtain ⟨g1,g2,g3,g4⟩:=mayC_facts a1
  obtain ⟨P,S,e,hP,hC⟩:=h.cv
  have hl:=lvX_iff.1 a3
  have hs:(M.map (fun x=>x.1)).Pairwise (fun x y=>x≤y):=List.pairwise_map.2 h.asc
  have hn:∀ x ∈ S,x≤now:=fun x hx=>by
    have g6:x ∈ M.map (fun x=>x.1):=by rw [e];simp [hx]
    obtain ⟨y,hy,rfl⟩:=List.mem_map.1 g6
    exact (h.rg y hy).2
  rw [e] at hs
  rw [e,lvN_app,lvN_zero hP,Nat.zero_add]
  have hlen:=hC.len
  have hle:=lvN_le S now v
  cases X with
  | nil =>
    have hC:S=[]:=hC
    subst hC
    unfold qlo0 lvN
    simp [totB]
  | cons p X =>
    obtain ⟨n1,n2,n3⟩:=a2.narrow (by simp)
    have e0:((p :: X).getD 0 (0,0))=p:=rfl
    rw [e0] at n1 n2 n3
    unfold qlo0
    rw [if_neg (by simp),e0]
    have e4:k * (totB (p :: X) - (totB (p :: X) - szB p.2+1))=k * (szB p.2 - 1):=by rw [show totB (p :: X) - (totB (p :: X) - szB p.2+1)=szB p.2 - 1 by omega]
    refine ⟨?_,by omega,by rw [e4];omega,by omega,by omega⟩
    obtain ⟨G,R,rfl,hg,hC2⟩:=hC
    obtain ⟨_,hs2,_⟩:=List.pairwise_append.1 hs
    obtain ⟨_,hs3,_⟩:=List.pairwise_append.1 hs2
    have hp:=(live_iff g4 (a2.rg p List.mem_cons_self).1.1).1 (hl p List.mem_cons_self)
    have hall:lvN (p.1 :: R) now v=(p.1 :: R).length:=lvN_all (fun x hx=>by
      refine ⟨?_,hn x (List.mem_append_right _ hx)⟩
      rcases List.mem_cons.1 hx with rfl | hx
      · exact hp.1
      · have:=(List.pairwise_cons.1 hs3).1 x hx;omega)
    rw [lvN_app,hall]
    have:=hC2.len
    simp only [totB,List.length_cons]
    omega
end Go.Proofs.YtafkoddgefcpnaaGreat

namespace Go.Proofs.YtafkoddgefcpnaaGreat
open Go.RowKit
set_option linter.unusedVariables false

theorem Sl.off {w:World} {A:Option Addr} {n p o:Nat} {M:List It} (h:Sl w A n M) (hn:∀ b o,A=some ⟨b,o,none⟩→b ≠ p) (x:Value):Sl (w.setCell ⟨p,o,none⟩ x) A n M:=by
  refine ⟨h.1,fun h0=>?_⟩
  obtain ⟨b,o,e,hc⟩:=h.2 h0
  exact ⟨b,o,e,fun j u hj=>(cell_far (fun hp=>hn b o e hp.symm)).trans (hc j u hj)⟩
/-- An address that was not there before. -/
def Nw (w:World) (A:Option Addr):Prop:=∀ b o,A=some ⟨b,o,none⟩→w.heap.size≤b
theorem Nw.up {w w1:World} {A:Option Addr} (h:Nw w1 A) (hu:Up w w1):Nw w A:=fun b o e=>Nat.le_trans hu.size (h b o e)
theorem Nw.off {w:World} {A:Option Addr} {p:Nat} (h:Nw w A) (hp:p<w.heap.size):∀ b o,A=some ⟨b,o,none⟩→b ≠ p:=fun b o e=>by have:=h b o e;omega
theorem rmayK11_any (q:Int) (w:World) :
    Calls Tryz.prog 44 #[.int .i64 q] w fun e w'=>e=.returned (.bool (decide (1≤q∧q≤64)))∧w=w':=by
  cases h1:decide (1≤q) with
  | false =>
    rw [decide_eq_false (p:=1≤q∧q≤64) (fun h=>by rw [decide_eq_true h.1] at h1;cases h1)]
    go_enter Tryz.func44,Tryz.ntmps44
    go_wp2
    go_ret
    exact ⟨rfl,rfl⟩
  | true =>
  cases h2:decide (q≤64) with
  | false =>
    rw [decide_eq_false (p:=1≤q∧q≤64) (fun h=>by rw [decide_eq_true h.2] at h2;cases h2)]
    go_enter Tryz.func44,Tryz.ntmps44
    go_wp2
    go_ret
    exact ⟨rfl,rfl⟩
  | true =>
    rw [decide_eq_true (p:=1≤q∧q≤64) ⟨of_decide_eq_true h1,of_decide_eq_true h2⟩]
    go_enter Tryz.func44,Tryz.ntmps44
    go_wp2
    go_ret
    exact ⟨rfl,rfl⟩

end Go.Proofs.YtafkoddgefcpnaaGreat

namespace Go.Proofs.YtafkoddgefcpnaaGreat
open Go.RowKit
set_option linter.unusedVariables false

theorem appendG (sl e ty:TypeId) (z:Value) (sz bt:Nat) (ht:Tryz.prog.underlying sl=some (.slice e)) (hinf:(Tryz.prog.info? e).map (fun i=>(i.zero,i.size,i.bytes))=some (some z,sz,bt)) (hzs:z.cells.size=sz) (hbt:bt≤1000)
    (w0 w:World) (v:Value) (n:Nat) (cs:List Value) (hO:Rw w0 w e sz v n cs) (hu:Up w0 w) (b o m c:Nat) (ds:List Value) (hd:ds.length=m * sz) (h0:0<m) (hcell:∀ j u,ds[j]?=some u→w.cell? ⟨b,o+j,none⟩=some u) (hone:∀ u ∈ ds,u.oneCell'=true) (hlen:n+m≤1000000) :
    ∃ g' k' w',(Builtin.append_ #[sl,sl] ty #[v,.slice (some ⟨b,o,none⟩) m c]).run Tryz.prog w=.ok (.slice (some ⟨g',0,none⟩) (n+m) k') w'∧Rw w0 w' e sz (.slice (some ⟨g',0,none⟩) (n+m) k') (n+m) (cs ++ ds)∧Up w0 w' ∧
      (w.heap.size≤g'∨∃ n0 k0,v=.slice (some ⟨g',0,none⟩) n0 k0)∧∀ x,x<w.heap.size→x ≠ g'→w'.heap[x]?=w.heap[x]?:=by
  obtain ⟨i,hi,hz,hs,hb⟩:=info_parts hinf
  have h63:n+m≤maxLen:=by simp only [maxLen];omega
  have hbase:=hu.size
  have hLn:cs.length=n * sz:=hO.1
  have hfl:(cs ++ ds).length=(n+m) * sz:=by rw [List.length_append,hLn,hd,Nat.add_mul]
  have hbm:(n+m) * bt≤140737488351232:=Nat.le_trans (Nat.mul_le_mul hlen hbt) (by decide)
  have hmm:m * bt≤140737488351232:=Nat.le_trans (Nat.mul_le_mul_right _ (by omega)) hbm
  have hnews:∀ j u,ds[j]?=some u→w.cell? ((⟨b,o,none⟩:Addr).add j)=some u:=fun j u hj=>by rw [add_at];exact hcell j u hj
  have hl:ds.length=m * i.size:=by rw [hd,hs]
  have grown:∀ (old:Nat),old<n+m →
    (w.drew.alloc (.cells (cs.toArray ++ ds.toArray ++ Builtin.zeroCells z.cells (grownCap w (n+m) old e - (n+m))) e)).ownsRow w0.heap.size e sz
      (.slice (some ⟨w.heap.size,0,none⟩) (n+m) (grownCap w (n+m) old e)) (n+m) (cs ++ ds):=by
    intro old ho
    have hge:=grownCap_ge w (n+m) old e
    have hcm:grownCap w (n+m) old e≤maxLen:=grownCap_le_maxLen w (n+m) old _ h63
    refine ⟨hfl,.inr ⟨w.heap.size,_,_,rfl,hbase,heap_alloc_new w.drew _,hge,hcm,?_,?_⟩⟩
    · simp only [Array.size_append,List.size_toArray,size_zeroCells,hLn,hd,hzs]
      rw [← Nat.add_mul,← Nat.add_mul,Nat.add_sub_cancel' hge]
    · simp only [Array.toList_append,List.append_assoc]
      rw [← List.append_assoc,← hfl]
      exact List.take_left
  have fresh:∀ (ob:Obj) x,x<w.heap.size→x ≠ w.heap.size→(w.drew.alloc ob).heap[x]?=w.heap[x]?:=fun ob x h _=>Below.heap_alloc w.drew ob x h
  rcases hO.2 with ⟨rfl,rfl⟩ | ⟨g,cap,cur,rfl,hbg,hg,hnc,hcm,hcs,htake⟩
  · have hx:cs=[]:=List.eq_nil_of_length_eq_zero (by rw [hLn,Nat.zero_mul])
    have hr:=run_append_nil (P:=Tryz.prog) w sl ty e i _ ht hi hz ⟨b,o,none⟩ m c ds hl hnews (by omega) (by omega) (by rw [hb];omega)
    have hgr:=grown 0 (by omega)
    rw [hx] at hgr ⊢
    simp only [Nat.zero_add,List.nil_append,Array.empty_append] at hgr ⊢
    exact ⟨_,_,_,hr,hgr,hu.drew.alloc _ _,Or.inl (Nat.le_refl _),fresh _⟩
  · by_cases hroom:n+m≤cap
    · have hfit:n * i.size+ds.length≤cur.size:=by rw [hl,hcs,hs,← Nat.add_mul];exact Nat.mul_le_mul_right _ hroom
      have hr:=run_append_room (P:=Tryz.prog) w sl ty e i ht hi g n cap cur hg ⟨b,o,none⟩ m c ds hl hnews hone hroom hfit
      obtain ⟨h1,h2⟩:=Cp.set w g cur (cur.toList.take (n * i.size) ++ ds ++ cur.toList.drop (n * i.size+ds.length)).toArray _ hg
      refine ⟨g,cap,_,hr,⟨hfl,.inr ⟨g,cap,_,rfl,hbg,h2,hroom,hcm,?_,?_⟩⟩,h1.up w0 hu hbg,Or.inr ⟨_,_,rfl⟩,fun x _ hne=>h1.far x hne⟩
      · simp only [List.size_toArray,List.length_append,List.length_take,List.length_drop,Array.length_toList]
        omega
      · rw [hs,htake,← hfl]
        exact List.take_left
    · have holds:∀ j u,cs[j]?=some u→w.cell? ((⟨g,0,none⟩:Addr).add j)=some u:=World.ownsRow.cells (g:=g) hO rfl
      have hr:=run_append_grow (P:=Tryz.prog) w sl ty e i _ ht hi hz ⟨g,0,none⟩ n cap cs (by rw [hs];exact hO.1) holds ⟨b,o,none⟩ m c ds hl hnews (by omega) (by omega) (growslice_fits (by omega) (by rw [hb];omega))
      exact ⟨_,_,_,hr,grown cap (by omega),hu.drew.alloc _ _,Or.inl (Nat.le_refl _),fresh _⟩


/-- Blocks above p. -/
def Ab (p:Nat) (A:Option Addr):Prop:=∀ b o,A=some ⟨b,o,none⟩→p<b
theorem Ab.none_ (p:Nat):Ab p none:=fun _ _ e=>by cases e
theorem Ab.off {A:Option Addr} {p q:Nat} (h:Ab p A) (hq:q≤p):∀ b o,A=some ⟨b,o,none⟩→b ≠ q:=fun b o e=>by have:=h b o e;omega
theorem Own.lt {w0 w:World} {A:Option Addr} {n k:Nat} {L:List It} (h:Own w0 w (.slice A n k) n L):∀ b o,A=some ⟨b,o,none⟩→b<w.heap.size:=Rw.lt (cs:=fl L) h
end Go.Proofs.YtafkoddgefcpnaaGreat

namespace Go.Proofs.YtafkoddgefcpnaaGreat
open Go.RowKit
set_option linter.unusedVariables false

/-- The cells of a list of elements. -/
def flG {α:Type} (f:α→List Value):List α→List Value
  | []=>[]
  | x :: L=>f x ++ flG f L
section
variable {α : Type} {f : α → List Value} {s : Nat}
theorem flG_len (hf:∀ x,(f x).length=s) (L:List α):(flG f L).length=L.length * s:=by
  induction L with
  | nil=>simp [flG]
  | cons x L ih=>rw [flG,List.length_append,ih,hf,List.length_cons,Nat.add_mul];omega
theorem flG_app (L M:List α):flG f (L ++ M)=flG f L ++ flG f M:=by
  induction L with
  | nil=>rfl
  | cons x L ih=>rw [List.cons_append,flG,flG,ih,List.append_assoc]
theorem flG_drop (hf:∀ x,(f x).length=s) (L:List α):∀ k,(flG f L).drop (k * s)=flG f (L.drop k):=by
  induction L with
  | nil=>intro k;simp [flG]
  | cons x L ih =>
    intro k
    cases k with
    | zero=>simp
    | succ k =>
      rw [flG,List.drop_append,List.drop_eq_nil_of_le (by rw [hf,Nat.add_mul];omega),hf,List.nil_append,show (k+1) * s - s=k * s by rw [Nat.add_mul];omega,ih]
      rfl
theorem flG_get (hf:∀ x,(f x).length=s) {L:List α} {k i:Nat} (d:α) (h:k<L.length) (hi:i<s):(flG f L)[k * s+i]?=(f (L.getD k d))[i]?:=by
  have e:=flG_drop hf L k
  rw [← List.getElem?_drop,e]
  have:L.drop k=L.getD k d :: L.drop (k+1):=by
    rw [List.drop_eq_getElem_cons h];simp [List.getD,h]
  rw [this,flG,List.getElem?_append_left (by rw [hf];exact hi)]
theorem flG_one (h1:∀ x,∀ u ∈ f x,u.oneCell'=true) (L:List α):∀ u ∈ flG f L,u.oneCell'=true:=by
  induction L with
  | nil=>intro u hu;cases hu
  | cons x L ih =>
    intro u hu
    rw [flG] at hu
    rcases List.mem_append.1 hu with g | g
    · exact h1 x u g
    · exact ih u g
/-- A slice that reads as the list L. -/
def SG (f:α→List Value) (w:World) (A:Option Addr) (n:Nat) (L:List α):Prop :=
  L.length=n∧(0<n→∃ b o,A=some ⟨b,o,none⟩∧∀ j u,(flG f L)[j]?=some u→w.cell? ⟨b,o+j,none⟩=some u)
variable {w w' : World} {A : Option Addr} {n : Nat} {L : List α}
theorem SG.none_ {A:Option Addr}:SG f w A 0 ([]:List α):=⟨rfl,fun h=>absurd h (by omega)⟩
theorem SG.at_ (h:SG f w A n L) (hf:∀ x,(f x).length=s) (d:α) {k:Nat} (hk:k<n) :
    ∃ b o,A=some ⟨b,o,none⟩∧∀ i u,i<s→(f (L.getD k d))[i]?=some u→w.cell? ⟨b,o+k * s+i,none⟩=some u:=by
  obtain ⟨b,o,e,hc⟩:=h.2 (by omega)
  refine ⟨b,o,e,fun i u hi hu=>?_⟩
  rw [Nat.add_assoc]
  exact hc _ u (by rw [flG_get hf d (by rw [h.1];exact hk) hi];exact hu)
theorem SG.up (h:SG f w A n L) (hu:Up w w'):SG f w' A n L :=
  ⟨h.1,fun hn=>by
    obtain ⟨b,o,e,hc⟩:=h.2 hn
    exact ⟨b,o,e,fun j u hj=>hu.keep _ _ _ (hc j u hj)⟩⟩
/-- The cells s[k:], where A' is what the model makes of the address. -/
theorem SG.cut (h:SG f w A n L) (hf:∀ x,(f x).length=s) {k cap:Nat} (hk:k≤n) (hc:n≤cap) :
    SG f w (if cap=k then A else A.map (·.add (k * s))) (n - k) (L.drop k):=by
  refine ⟨by rw [List.length_drop,h.1],fun hn=>?_⟩
  obtain ⟨b,o,rfl,hcell⟩:=h.2 (by omega)
  rw [if_neg (by omega)]
  refine ⟨b,o+k * s,by simp [add_at],fun j u hu=>?_⟩
  rw [Nat.add_assoc]
  exact hcell _ u (by rw [← flG_drop hf,List.getElem?_drop] at hu;exact hu)
theorem SG.off {p o:Nat} (h:SG f w A n L) (hn:∀ b o,A=some ⟨b,o,none⟩→b ≠ p) (x:Value):SG f (w.setCell ⟨p,o,none⟩ x) A n L:=by
  refine ⟨h.1,fun h0=>?_⟩
  obtain ⟨b,o,e,hc⟩:=h.2 h0
  exact ⟨b,o,e,fun j u hj=>(cell_far (fun hp=>hn b o e hp.symm)).trans (hc j u hj)⟩
theorem SG.out (hs:0<s) (hf:∀ x,(f x).length=s) (h:SG f w A n L) (hn:0<n):∃ b o,A=some ⟨b,o,none⟩∧b<w.heap.size:=by
  obtain ⟨b,o,e,hc⟩:=h.2 hn
  have hl:0<(flG f L).length:=by rw [flG_len hf,h.1];exact Nat.mul_pos hn hs
  obtain ⟨u,hu⟩:∃ u,(flG f L)[0]?=some u:=⟨_,List.getElem?_eq_getElem hl⟩
  exact ⟨b,o,e,World.block_lt_of_cell? _ _ (hc 0 u hu)⟩
/-- A row of the call's own that holds L. -/
def OG (f:α→List Value) (e:TypeId) (s:Nat) (w0 w:World) (v:Value) (n:Nat) (L:List α):Prop:=L.length=n∧Rw w0 w e s v n (flG f L)
theorem OG.nil (e:TypeId) (w0 w:World):OG f e s w0 w (.slice none 0 0) 0 ([]:List α):=⟨rfl,Rw.nil _ _ _ _⟩
theorem OG.of_up {e:TypeId} {w0:World} {v:Value} (h:OG f e s w0 w v n L) (hu:Up w w'):OG f e s w0 w' v n L:=⟨h.1,h.2.of_up hu⟩
theorem OG.sg {e:TypeId} {w0:World} {c:Nat} (h:OG f e s w0 w (.slice A n c) n L):n≤c∧SG f w A n L:=by
  rcases h.2.2 with ⟨h1,h2⟩ | ⟨g,cap,cur,h1,_,hh,hc,_,_,ht⟩
  · injection h1 with h3 h4 h5
    exact ⟨by omega,h.1,fun hx=>absurd hx (by omega)⟩
  · injection h1 with h3 h4 h5
    subst h5
    refine ⟨hc,h.1,fun _=>⟨g,0,h3,fun j u hj=>?_⟩⟩
    rw [Nat.zero_add,cell_of_row w g j cur _ (0,0) hh]
    rw [← ht,List.getElem?_take] at hj
    split at hj
    · simpa using hj
    · cases hj
theorem OG.nw {e:TypeId} {w0:World} {c:Nat} (h:OG f e s w0 w (.slice A n c) n L):Nw w0 A:=by
  intro b o e
  rcases h.2.2 with ⟨h1,_⟩ | ⟨g,cap,cur,h1,h2,_⟩
  · injection h1 with h1;rw [h1] at e;cases e
  · injection h1 with h1
    rw [h1] at e
    injection e with e
    injection e with e1 e2
    omega
theorem OG.lt {e:TypeId} {w0:World} {c:Nat} (h:OG f e s w0 w (.slice A n c) n L):∀ b o,A=some ⟨b,o,none⟩→b<w.heap.size:=Rw.lt h.2
end
end Go.Proofs.YtafkoddgefcpnaaGreat

namespace Go.Proofs.YtafkoddgefcpnaaGreat

instance (n s q lo hi:Int):Decidable (prtP n s q lo hi):=by unfold prtP;infer_instance
instance (g v:Int):Decidable (valG g v):=by unfold valG;infer_instance
theorem okB_iff {g w c now seq:Int} {X:List Mrk} {j:Nat}:OkB g w c now seq X j ↔
    1≤(X.getD j mk0).sq∧(X.getD j mk0).sq≤seq∧(X.getD j mk0).n=seq - (X.getD j mk0).sq+1∧(X.getD j mk0).n≤c∧(0<j→(X.getD (j - 1) mk0).sq<(X.getD j mk0).sq) ∧
    (0≤(X.getD j mk0).t∧(X.getD j mk0).t≤now)∧(0<j→(X.getD (j - 1) mk0).t≤(X.getD j mk0).t)∧(0<j∨X.length=1→now - w<(X.getD j mk0).t) ∧
    valG g (X.getD j mk0).lo∧valG g (X.getD j mk0).hi∧(X.getD j mk0).lo≤(X.getD j mk0).hi∧prtP (X.getD j mk0).n (X.getD j mk0).s (X.getD j mk0).q (X.getD j mk0).lo (X.getD j mk0).hi ∧
    (j+1=X.length→(X.getD j mk0).sq=seq∧(X.getD j mk0).lo=(X.getD j mk0).s∧(X.getD j mk0).hi=(X.getD j mk0).s∧(X.getD j mk0).q=(X.getD j mk0).s * (X.getD j mk0).s) ∧
    (0<j→(X.getD (j - 1) mk0).lo≤(X.getD j mk0).lo)∧(0<j→(X.getD j mk0).hi≤(X.getD (j - 1) mk0).hi) ∧
    (0<j→prtP ((X.getD (j - 1) mk0).n - (X.getD j mk0).n) ((X.getD (j - 1) mk0).s - (X.getD j mk0).s) ((X.getD (j - 1) mk0).q - (X.getD j mk0).q) (X.getD (j - 1) mk0).lo (X.getD (j - 1) mk0).hi) :=
  ⟨fun h => ⟨h.sq1, h.sq2, h.num, h.few, h.asc, h.tk, h.tasc, h.live, h.lo, h.hi, h.lohi, h.prt, h.last, h.nlo, h.nhi, h.nprt⟩,
   fun ⟨a1,a2,a3,a4,a5,a6,a7,a8,a9,a10,a11,a12,a13,a14,a15,a16⟩=>⟨a1,a2,a3,a4,a5,a6,a7,a8,a9,a10,a11,a12,a13,a14,a15,a16⟩⟩
instance (g w c now seq:Int) (X:List Mrk) (j:Nat):Decidable (OkB g w c now seq X j):=decidable_of_iff' _ okB_iff
/-- Parameters, marks, valid states, what Validate returns. -/
def agB (g:Int):Bool:=decide (1≤g∧g≤4)
def mayM (g w k c now:Int):Bool:=agB g && mayC w k c now
def sqB (seq:Int):Bool:=decide (0≤seq∧seq≤1099511627776)
def mrkB (g w c now seq:Int) (X:List Mrk):Bool:=sqB seq && decide (∀ j,j<X.length→OkB g w c now seq X j)
theorem agB_true {g:Int} (h:agB g=true):1≤g∧g≤4:=of_decide_eq_true h
theorem sqB_true {s:Int} (h:sqB s=true):0≤s∧s≤1099511627776:=of_decide_eq_true h
theorem mayM_true {g w k c now:Int} (h:mayM g w k c now=true):(1≤g∧g≤4)∧mayC w k c now=true:=by
  unfold mayM at h
  rw [Bool.and_eq_true] at h
  exact ⟨agB_true h.1,h.2⟩
theorem mrkB_true {g w c now seq:Int} {X:List Mrk} (h:mrkB g w c now seq X=true):(0≤seq∧seq≤1099511627776)∧∀ j,j<X.length→OkB g w c now seq X j:=by
  unfold mrkB at h
  rw [Bool.and_eq_true,decide_eq_true_eq] at h
  exact ⟨sqB_true h.1,h.2⟩
theorem mrkB_yes {g w c now seq:Int} {X:List Mrk} (h1:0≤seq) (h2:seq≤1099511627776) (h3:∀ j,j<X.length→OkB g w c now seq X j):mrkB g w c now seq X=true:=by
  unfold mrkB sqB;rw [decide_eq_true (p:=0≤seq∧seq≤1099511627776) ⟨h1,h2⟩,decide_eq_true h3];rfl
theorem mrkB_bad {g w c now seq:Int} {X:List Mrk} {j:Nat} (hj:j<X.length) (h:¬ OkB g w c now seq X j):mrkB g w c now seq X=false:=by
  unfold mrkB;rw [decide_eq_false (fun hp=>h (hp j hj)),Bool.and_false]
theorem prt_bd {n s q lo hi:Int} (h:prtP n s q lo hi) (h0:0≤n) (h1:-4096≤lo) (h2:hi≤4096):-(n * 4096)≤s∧s≤n * 4096∧0≤q∧q≤n * 16777216:=by
  obtain ⟨a,b,c,d,e⟩:=h
  have e1:n * (-4096)≤n * lo:=Int.mul_le_mul_of_nonneg_left h1 h0
  have e2:n * hi≤n * 4096:=Int.mul_le_mul_of_nonneg_left h2 h0
  exact ⟨by omega,by omega,c,by omega⟩
/-- How great the numbers of a valid mark are. -/
theorem OkB.bd {g w c now seq:Int} {X:List Mrk} {j:Nat} (h:OkB g w c now seq X j) (hc:c≤65536) (hs:seq≤1099511627776):(1≤(X.getD j mk0).n∧(X.getD j mk0).n≤65536)∧(-268435456≤(X.getD j mk0).s∧(X.getD j mk0).s≤268435456)∧(0≤(X.getD j mk0).q∧(X.getD j mk0).q≤1099511627776)∧(-4096≤(X.getD j mk0).lo∧(X.getD j mk0).lo≤4096)∧(-4096≤(X.getD j mk0).hi∧(X.getD j mk0).hi≤4096)∧(1≤(X.getD j mk0).sq∧(X.getD j mk0).sq≤1099511627776):=by
  have h1:=h.num
  have h2:=h.few
  have h3:=h.sq2
  have h0:=h.sq1
  have h4:=h.lo
  have h5:=h.hi
  obtain ⟨a,b,c',d⟩:=prt_bd h.prt (by omega) h.lo.1 h.hi.2.1
  exact ⟨⟨by omega,by omega⟩,⟨by omega,by omega⟩,⟨c',by omega⟩,⟨h4.1,h4.2.1⟩,⟨h5.1,h5.2.1⟩,⟨h0,by omega⟩⟩
/-- What a tick leaves; whether one mark is close to another; the marks with one more item. -/
def drM (td w:Int) (X:List Mrk):List Mrk:=drL (fun m=>liveB td w m.t) X
def inM (seq now v:Int) (X:List Mrk):List Mrk:=X.map (incM v) ++ [oneM seq now v]
def fuM (c seq:Int) (X:List Mrk):Bool:=(decide (0<X.length) && decide ((X.getD 0 mk0).n=c)) || decide (seq=1099511627776)
section
variable {g w k c now : Int} {P : List Nat} {I : List It}
end
end Go.Proofs.YtafkoddgefcpnaaGreat

namespace Go.Proofs.YtafkoddgefcpnaaGreat

theorem getD_drop' {α:Type} (L:List α) (a b:Nat) (d:α):(L.drop a).getD b d=L.getD (a+b) d:=by
  rw [List.getD_eq_getElem?_getD,List.getD_eq_getElem?_getD,List.getElem?_drop]
theorem cutL_pru {α:Type} {f:α→Bool} {L:List α} (d:α) {i nx:Nat} (h1:i+1≤nx) (h2:nx<L.length∨nx=i+1) (h3:i+1<nx→f (L.getD nx d)=true) (h4:∀ j,nx<j→j<L.length→f (L.getD j d)=false):cutL f (L.drop (i+1))=L.drop nx:=by
  by_cases hx:nx=i+1
  · subst hx
    by_cases hl:i+1<L.length
    · cases hf:f (L.getD (i+1) d) with
      | true =>
        have:=cutL_at (f:=f) d (R:=L.drop (i+1)) (m:=0) (by rw [List.length_drop];omega) (by rw [getD_drop'];exact hf) (fun n g1 g2=>by rw [getD_drop'];rw [List.length_drop] at g2;exact h4 _ (by omega) (by omega))
        rwa [List.drop_zero] at this
      | false =>
        refine cutL_none (fun y hy=>?_)
        obtain ⟨n,hn,rfl⟩:=List.mem_iff_getElem.1 hy
        rw [List.length_drop] at hn
        rw [List.getElem_drop]
        have e:L[i+1+n]'(by omega)=L.getD (i+1+n) d:=by rw [List.getD_eq_getElem?_getD,List.getElem?_eq_getElem (by omega)];rfl
        rw [e]
        rcases Nat.eq_zero_or_pos n with e0 | e0
        · subst e0;exact hf
        · exact h4 _ (by omega) (by omega)
    · rw [List.drop_eq_nil_of_le (by omega)]
      rfl
  · have hl:nx<L.length:=by omega
    have:=cutL_at (f:=f) d (R:=L.drop (i+1)) (m:=nx - (i+1)) (by rw [List.length_drop];omega) (by rw [getD_drop',show i+1+(nx - (i+1))=nx by omega];exact h3 (by omega)) (fun n g1 g2=>by rw [getD_drop'];rw [List.length_drop] at g2;exact h4 _ (by omega) (by omega))
    rw [this,List.drop_drop,show i+1+(nx - (i+1))=nx by omega]
theorem inM_len (s t v:Int) (X:List Mrk):(inM s t v X).length=X.length+1:=by unfold inM;simp
end Go.Proofs.YtafkoddgefcpnaaGreat

namespace Go.Proofs.YtafkoddgefcpnaaGreat
open Go.RowKit
set_option linter.unusedVariables false

theorem adv_yes {now td:Int} (ht:tickB now=true) (h:now≤td) (k:td≤16777216):(if tickB now=true then (if td<now∨16777216<td then ((0:Int),(3:Int)) else (td,0)) else (0,1))=(td,0):=by rw [if_pos ht,if_neg (by omega)]
end Go.Proofs.YtafkoddgefcpnaaGreat

namespace Go.Proofs.YtafkoddgefcpnaaGreat

/-- Whether a mark has a spread; N times its spread; whether one mark is close to another. -/
def myM (m:Mrk):Bool:=decide (1≤m.n∧m.n≤65536∧-(m.n * 4096)≤m.s∧m.s≤m.n * 4096∧0≤m.q∧m.q≤m.n * 16777216∧m.s * m.s≤m.n * m.q)
def spM (m:Mrk):Int:=m.n * m.q - m.s * m.s
def clQ (k:Int) (a b:Mrk):Bool:=(myM a && myM b) && (decide (1≤k∧k≤64) && (decide ((6 * k - 1) * a.n≤6 * k * b.n) && decide (spM a * ((6 * k - 1) * b.n)≤spM b * (6 * k * a.n))))
theorem myM_true {m:Mrk} (h:myM m=true):1≤m.n∧m.n≤65536∧-(m.n * 4096)≤m.s∧m.s≤m.n * 4096∧0≤m.q∧m.q≤m.n * 16777216∧m.s * m.s≤m.n * m.q:=of_decide_eq_true h
theorem myM_bd {m:Mrk} (h:myM m=true):(1≤m.n∧m.n≤65536)∧(-268435456≤m.s∧m.s≤268435456)∧(0≤m.q∧m.q≤1099511627776)∧(0≤m.n * m.q∧m.n * m.q≤72057594037927936)∧(0≤m.s * m.s∧m.s * m.s≤m.n * m.q)∧(0≤spM m∧spM m≤72057594037927936):=by
  obtain ⟨a,b,c,d,e,f,g⟩:=myM_true h
  have h1:m.n * m.q≤65536 * m.q:=Int.mul_le_mul_of_nonneg_right b e
  have h2:=Int.mul_nonneg (show 0≤m.n by omega) e
  have h3:=sq_nn m.s
  unfold spM
  exact ⟨⟨a,b⟩,⟨by omega,by omega⟩,⟨e,by omega⟩,⟨h2,by omega⟩,⟨h3,g⟩,⟨by omega,by omega⟩⟩
theorem clQ_no {k:Int} {a b:Mrk} (h:¬ (myM a=true∧myM b=true∧1≤k∧k≤64)):clQ k a b=false:=by
  unfold clQ
  by_cases h1:myM a=true
  · by_cases h2:myM b=true
    · rw [decide_eq_false (p:=1≤k∧k≤64) (fun hk=>h ⟨h1,h2,hk⟩),Bool.false_and,Bool.and_false]
    · rw [Bool.not_eq_true] at h2;rw [h2,Bool.and_false,Bool.false_and]
  · rw [Bool.not_eq_true] at h1;rw [h1,Bool.false_and,Bool.false_and]
theorem clQ_form {k:Int} {a b:Mrk} (h1:myM a=true) (h2:myM b=true) (hk:1≤k∧k≤64):clQ k a b=(decide ((6 * k - 1) * a.n≤6 * k * b.n) && decide (spM a * ((6 * k - 1) * b.n)≤spM b * (6 * k * a.n))):=by
  unfold clQ;rw [h1,h2,decide_eq_true hk];rfl
theorem clQ_true {k:Int} {a b:Mrk} (h:clQ k a b=true):(myM a=true∧myM b=true)∧(1≤k∧k≤64)∧(6 * k - 1) * a.n≤6 * k * b.n∧spM a * ((6 * k - 1) * b.n)≤spM b * (6 * k * a.n):=by
  unfold clQ at h
  simp only [Bool.and_eq_true,decide_eq_true_eq] at h
  exact ⟨h.1,h.2.1,h.2.2.1,h.2.2.2⟩
/-- The spread does not rise from a to b. -/
def fall (a b:Mrk):Prop:=b.n≤a.n∧spM b * a.n≤spM a * b.n
theorem fall_refl (a:Mrk):fall a a:=⟨Int.le_refl _,Int.le_refl _⟩
theorem fall_trans {a b c:Mrk} (ha:1≤a.n) (hb:1≤b.n) (hc:1≤c.n) (h1:fall a b) (h2:fall b c):fall a c:=by
  refine ⟨Int.le_trans h2.1 h1.1,?_⟩
  refine Int.le_of_mul_le_mul_left (a:=b.n) ?_ (by omega)
  have e1:b.n * (spM c * a.n)=spM c * b.n * a.n:=by ac_rfl
  have e2:b.n * (spM a * c.n)=spM a * b.n * c.n:=by ac_rfl
  have e3:spM b * c.n * a.n=spM b * a.n * c.n:=by ac_rfl
  have h3:=Int.mul_le_mul_of_nonneg_right h2.2 (show 0≤a.n by omega)
  have h4:=Int.mul_le_mul_of_nonneg_right h1.2 (show 0≤c.n by omega)
  rw [e1,e2]
  omega
/-- .. if what lies between them may be items. -/
theorem fall_of {a b:Mrk} (hb:1≤b.n) (hn:1≤a.n - b.n) (h:(a.s - b.s) * (a.s - b.s)≤(a.n - b.n) * (a.q - b.q)):fall a b:=by
  refine ⟨by omega,?_⟩
  obtain ⟨n1,e1⟩:∃ x,a.n - b.n=x:=⟨_,rfl⟩
  obtain ⟨s1,e2⟩:∃ x,a.s - b.s=x:=⟨_,rfl⟩
  obtain ⟨q1,e3⟩:∃ x,a.q - b.q=x:=⟨_,rfl⟩
  rw [e1,e2,e3] at h
  rw [e1] at hn
  unfold spM
  rw [show a.n=n1+b.n by omega,show a.s=s1+b.s by omega,show a.q=q1+b.q by omega]
  generalize b.n=n2 at *
  generalize b.s=s2 at *
  generalize b.q=q2 at *
  clear e1 e2 e3
  have key:((n1+n2) * (q1+q2) - (s1+s2) * (s1+s2)) * n2 - (n2 * q2 - s2 * s2) * (n1+n2)=n2 * (n1 * q1 - s1 * s1)+(n2 * n2 * q1 - 2 * (n2 * s1 * s2)+n1 * (s2 * s2)):=by grind
  have p1:0≤n2 * (n1 * q1 - s1 * s1):=Int.mul_nonneg (by omega) (by omega)
  have p2:0≤n2 * n2 * q1 - 2 * (n2 * s1 * s2)+n1 * (s2 * s2):=by
    refine Int.le_of_mul_le_mul_left (a:=n1) ?_ (by omega)
    rw [Int.mul_zero]
    have k2:n1 * (n2 * n2 * q1 - 2 * (n2 * s1 * s2)+n1 * (s2 * s2))=n2 * n2 * (n1 * q1 - s1 * s1)+(n2 * s1 - n1 * s2) * (n2 * s1 - n1 * s2):=by grind
    rw [k2]
    have:=Int.mul_nonneg (sq_nn n2) (show 0≤n1 * q1 - s1 * s1 by omega)
    have:=sq_nn (n2 * s1 - n1 * s2)
    omega
  omega
/-- What is close to a later mark is close to an earlier one. -/
theorem clQ_anti {k:Int} {a b c:Mrk} (hb:myM b=true) (h:fall b c) (hc:clQ k a c=true):clQ k a b=true:=by
  obtain ⟨⟨m1,m2⟩,hk,h1,h2⟩:=clQ_true hc
  have hb1:=(myM_true hb).1
  have hc1:=(myM_true m2).1
  have ha1:=(myM_true m1).1
  have s0:=(myM_bd m1).2.2.2.2.2.1
  rw [clQ_form m1 hb hk,decide_eq_true,decide_eq_true]
  · rfl
  · refine Int.le_of_mul_le_mul_left (a:=c.n) ?_ (by omega)
    have e1:c.n * (spM a * ((6 * k - 1) * b.n))=spM a * ((6 * k - 1) * c.n) * b.n:=by ac_rfl
    have e2:c.n * (spM b * (6 * k * a.n))=spM b * c.n * (6 * k * a.n):=by ac_rfl
    have e3:spM c * (6 * k * a.n) * b.n=spM c * b.n * (6 * k * a.n):=by ac_rfl
    have h3:=Int.mul_le_mul_of_nonneg_right h2 (show 0≤b.n by omega)
    have h4:=Int.mul_le_mul_of_nonneg_right h.2 (Int.mul_nonneg (show 0≤6 * k by omega) (show 0≤a.n by omega))
    rw [e1,e2]
    omega
  · have:=Int.mul_le_mul_of_nonneg_left h.1 (show 0≤6 * k by omega)
    omega
/-- A mark with one more item. -/
theorem myM_inc {m:Mrk} {v:Int} (h:myM m=true) (hn:m.n<65536) (h1:-4096≤v) (h2:v≤4096):myM (incM v m)=true:=by
  obtain ⟨a,b,c,d,e,f,g⟩:=myM_true h
  have hv:=sq_bd h1 h2
  have hv0:=sq_nn v
  refine decide_eq_true ?_
  show 1≤m.n+1∧m.n+1≤65536∧-((m.n+1) * 4096)≤m.s+v∧m.s+v≤(m.n+1) * 4096∧0≤m.q+v * v∧m.q+v * v≤(m.n+1) * 16777216∧(m.s+v) * (m.s+v)≤(m.n+1) * (m.q+v * v)
  refine ⟨by omega,by omega,by omega,by omega,by omega,by omega,?_⟩
  generalize m.n=n at *
  generalize m.s=s at *
  generalize m.q=q at *
  have k1:(n+1) * (q+v * v) - (s+v) * (s+v)=(n * q - s * s)+(q+n * (v * v) - 2 * (s * v)):=by grind
  have p2:0≤q+n * (v * v) - 2 * (s * v):=by
    refine Int.le_of_mul_le_mul_left (a:=n) ?_ (by omega)
    rw [Int.mul_zero]
    have k2:n * (q+n * (v * v) - 2 * (s * v))=(n * q - s * s)+(s - n * v) * (s - n * v):=by grind
    rw [k2]
    have:=sq_nn (s - n * v)
    omega
  omega
theorem myM_one {sq t v:Int} (h1:-4096≤v) (h2:v≤4096):myM (oneM sq t v)=true:=by
  have hv:=sq_bd h1 h2
  have hv0:=sq_nn v
  refine decide_eq_true ?_
  show (1:Int)≤1∧(1:Int)≤65536∧-(1 * 4096)≤v∧v≤1 * 4096∧0≤v * v∧v * v≤1 * 16777216∧v * v≤1 * (v * v)
  omega
/-- A valid mark has a spread; valid marks fall. -/
theorem OkB.my {w c now seq:Int} {X:List Mrk} {j:Nat} (h:OkB 4 w c now seq X j) (hc:c≤65536):myM (X.getD j mk0)=true:=by
  have h1:=h.num
  have h2:=h.few
  have h3:=h.sq2
  have h4:=h.lo
  have h5:=h.hi
  obtain ⟨a,b,d,e⟩:=prt_bd h.prt (by omega) h4.1 h5.2.1
  exact decide_eq_true ⟨by omega,by omega,a,b,d,e,h.prt.2.2.2.2⟩
theorem OkB.fall {w c now seq:Int} {X:List Mrk} {j:Nat} (h0:OkB 4 w c now seq X (j - 1)) (h:OkB 4 w c now seq X j) (hj:0<j):fall (X.getD (j - 1) mk0) (X.getD j mk0):=by
  have h1:=h.num
  have h2:=h0.num
  have h3:=h.asc hj
  have h4:=h.sq2
  exact fall_of (by omega) (by omega) (h.nprt hj).2.2.2.2
theorem mrkB_fall {w c now seq:Int} {X:List Mrk} (h:mrkB 4 w c now seq X=true) (hc:c≤65536):∀ i j,i≤j→j<X.length→fall (X.getD i mk0) (X.getD j mk0):=by
  obtain ⟨_,hx⟩:=mrkB_true h
  have h1:∀ j,j<X.length→1≤(X.getD j mk0).n:=fun j hj=>(myM_true ((hx j hj).my hc)).1
  intro i j hij hj
  induction j with
  | zero => obtain rfl : i = 0 := by omega
            exact fall_refl _
  | succ j ih =>
    rcases Nat.lt_or_ge i (j+1) with e | e
    · have h2:=OkB.fall (X:=X) (j:=j+1) (hx j (by omega)) (hx (j+1) hj) (by omega)
      exact fall_trans (h1 i (by omega)) (h1 j (by omega)) (h1 (j+1) hj) (ih (by omega) (by omega)) h2
    · obtain rfl:i=j+1:=by omega
      exact fall_refl _
theorem fall_inc {a b:Mrk} {v:Int} (hb:myM b=true) (h:a=b∨(1≤a.n - b.n∧(a.s - b.s) * (a.s - b.s)≤(a.n - b.n) * (a.q - b.q))):fall (incM v a) (incM v b):=by
  rcases h with rfl | ⟨h1,h2⟩
  · exact fall_refl _
  · have hb1:=(myM_true hb).1
    refine fall_of (show 1≤b.n+1 by omega) (show 1≤a.n+1 - (b.n+1) by omega) ?_
    show (a.s+v - (b.s+v)) * (a.s+v - (b.s+v))≤(a.n+1 - (b.n+1)) * (a.q+v * v - (b.q+v * v))
    rw [show a.s+v - (b.s+v)=a.s - b.s by omega,show a.n+1 - (b.n+1)=a.n - b.n by omega,show a.q+v * v - (b.q+v * v)=a.q - b.q by omega]
    exact h2
theorem fall_new {a:Mrk} {sq t v:Int} (ha:myM a=true):fall (incM v a) (oneM sq t v):=by
  obtain ⟨a1,b,c,d,e,f,g⟩:=myM_true ha
  refine fall_of (show (1:Int)≤1 by omega) (show 1≤a.n+1 - 1 by omega) ?_
  show (a.s+v - v) * (a.s+v - v)≤(a.n+1 - 1) * (a.q+v * v - v * v)
  rw [show a.s+v - v=a.s by omega,show a.n+1 - 1=a.n by omega,show a.q+v * v - v * v=a.q by omega]
  exact g
/-- The marks with one more item: each has a spread, and they fall. -/
theorem inM_facts {w c now seq v:Int} {X:List Mrk} (h:mrkB 4 w c now seq X=true) (hc:c≤65536) (hf:fuM c seq X=false) (h1:-4096≤v) (h2:v≤4096) :
    (∀ j,j<(inM (seq+1) now v X).length→myM ((inM (seq+1) now v X).getD j mk0)=true)∧∀ i j,i≤j→j<(inM (seq+1) now v X).length→fall ((inM (seq+1) now v X).getD i mk0) ((inM (seq+1) now v X).getD j mk0):=by
  obtain ⟨hs,hx⟩:=mrkB_true h
  have hmy:∀ j,j<X.length→myM (X.getD j mk0)=true:=fun j hj=>(hx j hj).my hc
  have hn:∀ j,j<X.length→(X.getD j mk0).n<65536:=by
    have h0:0<X.length→(X.getD 0 mk0).n<65536:=fun h0=>by
      unfold fuM at hf
      rw [decide_eq_true h0,Bool.true_and,Bool.or_eq_false_iff,decide_eq_false_iff_not] at hf
      have:=(hx 0 h0).few
      have:=hf.1
      omega
    intro j hj
    have h3:=mrkB_fall h hc 0 j (Nat.zero_le _) hj
    have:=h3.1
    have:=h0 (by omega)
    omega
  have hlen:(inM (seq+1) now v X).length=X.length+1:=by unfold inM;simp
  have hget:∀ j,j<X.length→(inM (seq+1) now v X).getD j mk0=incM v (X.getD j mk0):=fun j hj=>by
    unfold inM
    simp [List.getD,List.getElem?_append,hj]
  have hlast:(inM (seq+1) now v X).getD X.length mk0=oneM (seq+1) now v:=by
    unfold inM
    simp [List.getD]
  have hmy2:∀ j,j<(inM (seq+1) now v X).length→myM ((inM (seq+1) now v X).getD j mk0)=true:=fun j hj=>by
    rw [hlen] at hj
    rcases Nat.lt_or_ge j X.length with g | g
    · rw [hget j g];exact myM_inc (hmy j g) (hn j g) h1 h2
    · obtain rfl:j=X.length:=by omega
      rw [hlast];exact myM_one h1 h2
  refine ⟨hmy2,fun i j hij hj=>?_⟩
  have hstep:∀ j,j+1<(inM (seq+1) now v X).length→fall ((inM (seq+1) now v X).getD j mk0) ((inM (seq+1) now v X).getD (j+1) mk0):=fun j hj=>by
    rw [hlen] at hj
    rcases Nat.lt_or_ge (j+1) X.length with g | g
    · rw [hget j (by omega),hget (j+1) g]
      have a1:=(hx (j+1) g).num
      have a2:=(hx j (by omega)).num
      have a3:=(hx (j+1) g).asc (by omega)
      rw [Nat.add_sub_cancel] at a3
      have a4:=(hx (j+1) g).nprt (by omega)
      rw [Nat.add_sub_cancel] at a4
      exact fall_inc (hmy (j+1) g) (Or.inr ⟨by omega,a4.2.2.2.2⟩)
    · obtain e:j+1=X.length:=by omega
      rw [hget j (by omega),e,hlast]
      exact fall_new (hmy j (by omega))
  have h1':∀ j,j<(inM (seq+1) now v X).length→1≤((inM (seq+1) now v X).getD j mk0).n:=fun j hj=>(myM_true (hmy2 j hj)).1
  induction j with
  | zero => obtain rfl : i = 0 := by omega
            exact fall_refl _
  | succ j ih =>
    rcases Nat.lt_or_ge i (j+1) with e | e
    · exact fall_trans (h1' i (by omega)) (h1' j (by omega)) (h1' (j+1) hj) (ih (by omega) (by omega)) (hstep j hj)
    · obtain rfl:i=j+1:=by omega
      exact fall_refl _
/-- The test of the distances; valid states; what Validate returns. -/
def dsB (k:Int) (X:List Mrk):Bool:=decide (∀ j,j<X.length→1<j→clQ k (X.getD (j - 2) mk0) (X.getD j mk0)=false)
def stP (w k c now seq:Int) (X:List Mrk):Bool:=mayC w k c now && (mrkB 4 w c now seq X && dsB k X)
def stPE (w k c now seq:Int) (X:List Mrk):Int:=if stP w k c now seq X=true then 0 else 2
theorem stPE_yes {w k c now seq:Int} {X:List Mrk} (h:stP w k c now seq X=true):stPE w k c now seq X=0:=if_pos h
theorem stPE_no {w k c now seq:Int} {X:List Mrk} (h:stP w k c now seq X=false):stPE w k c now seq X=2:=if_neg (by rw [h];exact Bool.false_ne_true)
theorem stP_true {w k c now seq:Int} {X:List Mrk} (h:stP w k c now seq X=true):mayC w k c now=true∧mrkB 4 w c now seq X=true∧dsB k X=true:=by
  unfold stP at h
  rw [Bool.and_eq_true,Bool.and_eq_true] at h
  exact ⟨h.1,h.2.1,h.2.2⟩
theorem stP_yes {w k c now seq:Int} {X:List Mrk} (h1:mayC w k c now=true) (h2:mrkB 4 w c now seq X=true) (h3:dsB k X=true):stP w k c now seq X=true:=by
  unfold stP;rw [h1,h2,h3];rfl
/-- What Add leaves; the marks whose spreads bound the answer: from, to. -/
def adS (k seq now v:Int) (X:List Mrk):List Mrk:=prL (clQ k) (X.length+1) (inM (seq+1) now v X)
theorem myM_mrkA {I:List It} (h:∀ x ∈ I,valG 4 x.2) {p:Nat} (hp:p<I.length) (hc:(I.length:Int) - p≤65536):myM (mrkA I p)=true:=by
  have hv:=vlF_val h p
  have hl:=vlF_len I p
  have h1:=suL_ge (fun x hx=>(hv x hx).1)
  have h2:=suL_le (fun x hx=>(hv x hx).2.1)
  have h3:=sqL_le (A:=vlF I p) (m:=4096) (fun x hx=>⟨(hv x hx).1,(hv x hx).2.1⟩)
  have h4:=sqL_nn (vlF I p)
  have h5:=cauchy (vlF I p)
  refine decide_eq_true ?_
  show 1≤((vlF I p).length:Int)∧((vlF I p).length:Int)≤65536∧-(((vlF I p).length:Int) * 4096)≤suL (vlF I p)∧suL (vlF I p)≤((vlF I p).length:Int) * 4096∧0≤sqL (vlF I p)∧sqL (vlF I p)≤((vlF I p).length:Int) * 16777216∧suL (vlF I p) * suL (vlF I p)≤((vlF I p).length:Int) * sqL (vlF I p)
  generalize ((vlF I p).length)=n at *
  exact ⟨by omega,by omega,by omega,by omega,h4,by omega,h5⟩
section
variable {nr : List It → Nat → Nat → Prop} {cl : List It → Nat → Nat → Bool} {g w k c now : Int} {P : List Nat} {I : List It}
theorem SnM.within (h:SnM nr cl g w c now P I):∀ p ∈ P,(I.length:Int) - p≤c:=by
  intro p hp
  cases P with
  | nil=>cases hp
  | cons a R =>
    have h1:=h.cap a rfl
    rcases List.mem_cons.1 hp with rfl | hp
    · exact h1
    · have:=(List.pairwise_cons.1 h.up).1 p hp
      omega
end
section
variable {w k c now : Int} {P : List Nat} {I : List It}
theorem Ss.my (h:Ss w k c now P I) (hc:c≤65536):∀ p ∈ P,myM (mrkA I p)=true:=fun p hp=>myM_mrkA h.vals (h.lt p hp) (by have:=SnM.within h p hp;omega)
end
end Go.Proofs.YtafkoddgefcpnaaGreat
