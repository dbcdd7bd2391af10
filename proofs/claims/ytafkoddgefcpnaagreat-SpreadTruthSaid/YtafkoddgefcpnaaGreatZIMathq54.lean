/- Texts of these claims, one after the other. -/
import Derived.Test.YtafkoddgefcpnaaGreatRows
import Derived.Test.YtafkoddgefcpnaaGreatZESqq32
import Derived.Test.YtafkoddgefcpnaaGreatZHExpq41
import Derived.Test.YtafkoddgefcpnaaGreatZIMathq53
namespace Go.Proofs.YtafkoddgefcpnaaGreat
open Go.RowKit

theorem mayC_yes {v k c now:Int} (h:mayB v c now=true) (h1:1≤k) (h2:k≤64):mayC v k c now=true:=by
  unfold mayC
  rw [h,decide_eq_true (p:=1≤k∧k≤64) ⟨h1,h2⟩]
  rfl
theorem mayC_ok {v k c now:Int} (h1:0≤now) (h2:now≤16777216) (h3:1≤v) (h4:v≤1048576) (h5:1≤c) (h6:c≤65536) (h7:1≤k) (h8:k≤64):mayC v k c now=true:=by
  refine mayC_yes ?_ h7 h8
  unfold mayB
  rw [tickB_yes h1 h2,winB_yes h3 h4,decide_eq_true ⟨h5,h6⟩]
  rfl
theorem exL_cons (p:It) (X:List It) (f:Int):exL (p :: X) f=if p.1<f then exL X f else p :: X:=by
  unfold exL
  rw [List.dropWhile_cons]
  simp
theorem exL_low {f:Int}:∀ {X:List It},As X→∀ x ∈ exL X f,f≤x.1:=by
  intro X
  induction X with
  | nil=>intro _ x hx;cases hx
  | cons p X ih =>
    intro h x hx
    obtain ⟨h1,h2⟩:=As.cons.1 h
    rw [exL_cons] at hx
    split at hx
    · exact ih h2 x hx
    · rcases List.mem_cons.1 hx with rfl | hx
      · omega
      · have:=h1 x hx;omega
theorem Cv.ex {f:Int}:∀ {X:List It} {S:List Int},Cv X S→S.Pairwise (fun x y=>x≤y)→∃ P R,S=P ++ R∧Cv (exL X f) R∧∀ x ∈ P,x<f:=by
  intro X
  induction X with
  | nil=>intro S h _;exact ⟨[],S,rfl,h,fun x hx=>(by cases hx)⟩
  | cons p X ih =>
    rintro S ⟨G,R,rfl,hg,h⟩ hs
    rw [exL_cons]
    split
    next hp =>
      obtain ⟨_,hs2,hs3⟩:=List.pairwise_append.1 hs
      obtain ⟨P,R2,rfl,hc,hP⟩:=ih h (List.pairwise_cons.1 hs2).2
      refine ⟨G ++ p.1 :: P,R2,by simp,hc,fun x hx=>?_⟩
      rcases List.mem_append.1 hx with g | g
      · have:=hs3 x g p.1 List.mem_cons_self;omega
      · rcases List.mem_cons.1 g with rfl | g
        · exact hp
        · exact hP x g
    next hp=>exact ⟨[],G ++ p.1 :: R,rfl,⟨G,R,rfl,hg,h⟩,fun x hx=>(by cases hx)⟩
theorem stC_adv {v k c now td:Int} {X:List It} (h:stC v k c now X=true) (h1:now≤td) (h2:td≤16777216):stC v k c td (exL X (firZ td v))=true:=by
  obtain ⟨a1,a2,a3,a4⟩:=stC_true h
  obtain ⟨g1,g2,g3,g4⟩:=mayC_facts a1
  have hk:=(mayC_true a1).2
  have ht:(tickB td && winB v)=true:=by rw [tickB_yes (by omega) h2,winB_yes g2.1 g2.2];rfl
  have hl:=lvX_iff.1 a3
  obtain ⟨b1,b2⟩:=exL_va (f:=firZ td v) (t:=now) a2 (fun x hx=>((live_iff g4 (a2.rg x hx).1.1).1 (hl x hx)).2)
  refine stC_yes (mayC_ok (by omega) h2 g2.1 g2.2 g3.1 g3.2 hk.1 hk.2) b1 (lvX_iff.2 (fun x hx=>?_)) (by have:=exL_tot X (firZ td v);omega)
  have e1:=exL_low a2.as_ x hx
  rw [firZ_yes ht] at e1
  have e2:=b2 x hx
  exact (live_iff ht (by omega)).2 ⟨by omega,by omega⟩
theorem Hs.adv {v k c now td:Int} {X M:List It} (h:Hs v k c now X M) (h1:now≤td) (h2:td≤16777216):Hs v k c td (exL X (firZ td v)) M:=by
  refine ⟨stC_adv h.st h1 h2,h.asc,fun x hx=>⟨(h.rg x hx).1,by have:=(h.rg x hx).2;omega⟩,?_⟩
  obtain ⟨a1,a2,a3,a4⟩:=stC_true h.st
  obtain ⟨g1,g2,g3,g4⟩:=mayC_facts a1
  have ht:(tickB td && winB v)=true:=by rw [tickB_yes (by omega) h2,winB_yes g2.1 g2.2];rfl
  obtain ⟨P,S,e,hP,hC⟩:=h.cv
  have hs:(M.map (fun x=>x.1)).Pairwise (fun x y=>x≤y):=List.pairwise_map.2 h.asc
  rw [e] at hs
  obtain ⟨P2,R,rfl,hC2,hP2⟩:=hC.ex (f:=firZ td v) (List.pairwise_append.1 hs).2.1
  refine ⟨P ++ P2,R,by rw [e,List.append_assoc],fun x hx=>?_,hC2⟩
  rcases List.mem_append.1 hx with g | g
  · have:=hP x g;omega
  · have g5:=hP2 x g
    have g6:x ∈ M.map (fun x=>x.1):=by rw [e];simp [g]
    obtain ⟨y,hy,rfl⟩:=List.mem_map.1 g6
    have:=(h.rg y hy).1
    rw [firZ_yes ht] at g5
    omega
end Go.Proofs.YtafkoddgefcpnaaGreat

namespace Go.Proofs.YtafkoddgefcpnaaGreat
open Go.RowKit
set_option linter.unusedVariables false

theorem appendI (w0 w:World) (A:Option Addr) (n k:Nat) (L:List It) (p0 p1:Int) (hO:Own w0 w (.slice A n k) n L) (hu:Up w0 w) (g:Nat) (hg0:w.cell? ⟨g,0,none⟩=some (.int .i64 p0)) (hg1:w.cell? ⟨g,1,none⟩=some (.int .i64 p1)) (hn:n+1≤1000000) :
    ∃ g' k' w',(Builtin.append_ #[39,39] 39 #[.slice A n k,.slice (some ⟨g,0,none⟩) 1 1]).run Tryz.prog w=.ok (.slice (some ⟨g',0,none⟩) (n+1) k') w'∧Own w0 w' (.slice (some ⟨g',0,none⟩) (n+1) k') (n+1) (L ++ [(p0,p1)])∧Up w0 w' ∧
      (w.heap.size≤g'∨∃ o,A=some ⟨g',o,none⟩)∧∀ x o u,x ≠ g'→w.cell? ⟨x,o,none⟩=some u→w'.cell? ⟨x,o,none⟩=some u:=by
  have hz:(Value.agg #[Value.int IntKind.i64 0,Value.int IntKind.i64 0]).cells.size=2:=rfl
  obtain ⟨g',k',w',hr,h1,h2,h3,h4⟩:=appendG 39 45 39 _ 2 16 Tryz.underlying39 item_info hz (by omega) w0 w (.slice A n k) n (fl L) hO hu g 0 1 1 (fl [(p0,p1)]) rfl (by omega) (fun j u hj=>by
    rw [Nat.zero_add]
    match j with
    | 0=>simp [fl] at hj;rw [hg0,hj]
    | 1=>simp [fl] at hj;rw [hg1,hj]
    | j+2=>simp [fl] at hj) (fun u hu=>by
      simp [fl] at hu
      rcases hu with rfl | rfl <;> rfl) hn
  rw [← fl_append] at h1
  refine ⟨g',k',w',hr,h1,h2,?_,fun x o u hx hc=>?_⟩
  · rcases h3 with h | ⟨n0,k0,h⟩
    · exact Or.inl h
    · cases h;exact Or.inr ⟨0,rfl⟩
  · have hl:=World.block_lt_of_cell? _ _ hc
    exact (World.cell?_of_block (a:=⟨x,o,none⟩) (h4 x hl hx)).trans hc
theorem Sl.stays {w w':World} {A:Option Addr} {n g:Nat} {M:List It} (h:Sl w A n M) (hs:∀ x o u,x ≠ g→w.cell? ⟨x,o,none⟩=some u→w'.cell? ⟨x,o,none⟩=some u) (hn:∀ b o,A=some ⟨b,o,none⟩→b<w.heap.size→b ≠ g):Sl w' A n M:=by
  refine ⟨h.1,fun h0=>?_⟩
  obtain ⟨b,o,e,hc⟩:=h.2 h0
  exact ⟨b,o,e,fun j u hj=>hs b _ u (hn b o e (World.block_lt_of_cell? _ _ (hc j u hj))) (hc j u hj)⟩
end Go.Proofs.YtafkoddgefcpnaaGreat

namespace Go.Proofs.YtafkoddgefcpnaaGreat
open Go.RowKit
set_option linter.unusedVariables false

section
variable {α : Type} {f : α → List Value} {s : Nat}
variable {w w' : World} {A : Option Addr} {n : Nat} {L : List α}
theorem SG.stays {g:Nat} (h:SG f w A n L) (hs:∀ x o u,x ≠ g→w.cell? ⟨x,o,none⟩=some u→w'.cell? ⟨x,o,none⟩=some u) (hn:∀ b o,A=some ⟨b,o,none⟩→b<w.heap.size→b ≠ g):SG f w' A n L:=by
  refine ⟨h.1,fun h0=>?_⟩
  obtain ⟨b,o,e,hc⟩:=h.2 h0
  exact ⟨b,o,e,fun j u hj=>hs b _ u (hn b o e (World.block_lt_of_cell? _ _ (hc j u hj))) (hc j u hj)⟩
end
end Go.Proofs.YtafkoddgefcpnaaGreat

namespace Go.Proofs.YtafkoddgefcpnaaGreat

/-- Conditions 5 and 6 at a place. -/
def adP (g k:Int) (X:List Mrk) (j:Nat):Prop :=
  (1<j→(k+1) * ofZ g (X.getD j mk0)<k * ofZ g (X.getD (j - 2) mk0))∧(0<j→(X.getD (j - 1) mk0).sq+1<(X.getD j mk0).sq→k * ofZ g (X.getD (j - 1) mk0)≤(k+1) * ofZ g (X.getD j mk0))
instance (g k:Int) (X:List Mrk) (j:Nat):Decidable (adP g k X j):=by unfold adP;infer_instance
def adB (g k:Int) (X:List Mrk):Bool:=decide (∀ j,j<X.length→adP g k X j)
def stM (g w k c now seq:Int) (X:List Mrk):Bool:=mayM g w k c now && (mrkB g w c now seq X && adB g k X)
theorem stM_yes {g w k c now seq:Int} {X:List Mrk} (h1:mayM g w k c now=true) (h2:mrkB g w c now seq X=true) (h3:adB g k X=true):stM g w k c now seq X=true:=by
  unfold stM;rw [h1,h2,h3];rfl
def clM (g k:Int) (a b:Mrk):Bool:=decide (k * ofZ g a≤(k+1) * ofZ g b)
def adM (g k seq now v:Int) (X:List Mrk):List Mrk:=prL (clM g k) (X.length+1) (inM (seq+1) now v X)
/-- The answer: from, to. -/
def asM (g now w:Int):List Mrk→Int × Int
  | []=>(0,0)
  | a :: R=>if liveB now w a.t=true then (ofZ g a,ofZ g a) else match R with
    | []=>(0,0)
    | b :: _=>if b.sq=a.sq+1 then (ofZ g b,ofZ g b) else (ofZ g b,ofZ g a)
theorem drL_congr {α:Type} {f h:α→Bool}:∀ {R:List α},(∀ x ∈ R,f x=h x)→drL f R=drL h R:=by
  intro R
  induction R with
  | nil=>intro _;rfl
  | cons a R ih =>
    intro e
    have ea:=e a List.mem_cons_self
    have ih:=ih (fun x hx=>e x (List.mem_cons_of_mem _ hx))
    cases R with
    | nil=>simp only [drL];rw [ea]
    | cons b R =>
      have eb:=e b (by simp)
      simp only [drL]
      rw [eb,ih]
theorem cutL_congr {α:Type} {f h:α→Bool}:∀ {R:List α},(∀ x ∈ R,f x=h x)→cutL f R=cutL h R:=by
  intro R
  induction R with
  | nil=>intro _;rfl
  | cons a R ih =>
    intro e
    have ih:=ih (fun x hx=>e x (List.mem_cons_of_mem _ hx))
    have ea:R.any f=R.any h:=by
      rw [Bool.eq_iff_iff,List.any_eq_true,List.any_eq_true]
      constructor <;> rintro ⟨x,hx,hf⟩ <;> exact ⟨x,hx,by first | (rw [← e x (List.mem_cons_of_mem _ hx)];exact hf) | (rw [e x (List.mem_cons_of_mem _ hx)];exact hf)⟩
    simp only [cutL]
    rw [ea,ih]
theorem prL_congr {α:Type} {f h:α→α→Bool} {L:List α} (e:∀ x ∈ L,∀ y ∈ L,f x y=h x y):∀ (n:Nat) (R:List α),(∀ x ∈ R,x ∈ L)→prL f n R=prL h n R:=by
  intro n
  induction n with
  | zero=>intro R _;rfl
  | succ n ih =>
    intro R hR
    cases R with
    | nil=>rfl
    | cons a R =>
      simp only [prL]
      have e1:cutL (f a) R=cutL (h a) R:=cutL_congr (fun x hx=>e a (hR a List.mem_cons_self) x (hR x (List.mem_cons_of_mem _ hx)))
      rw [e1]
      obtain ⟨Q,e2⟩:=cutL_suffix (h a) R
      rw [ih (cutL (h a) R) (fun x hx=>hR x (List.mem_cons_of_mem _ (by rw [e2];exact List.mem_append_right _ hx)))]
section
variable {g w k c now : Int} {P : List Nat} {I : List It}
/-- The state that the items make is valid. -/
theorem Sv.st (h:Sv g w k c now P I) (hm:mayC w k c now=true) (hl:(I.length:Int)≤1099511627776):stM g w k c now I.length (P.map (mrkA I))=true:=by
  refine stM_yes (by unfold mayM agB;rw [hm,decide_eq_true h.g1];rfl) (mrkB_yes (by omega) hl (fun j hj=>h.ok (by rw [List.length_map] at hj;exact hj))) (decide_eq_true (fun j hj=>?_))
  rw [List.length_map] at hj
  exact ⟨fun h1=>h.farAt hj h1,fun h1 h2=>h.nearAt hj h1 h2⟩
theorem Sv.dr_map (h:Sv g w k c now P I) (hm:mayC w k c now=true) {td:Int} (h1:now≤td) (h2:td≤16777216):drM td w (P.map (mrkA I))=(drL (fun p=>decide (td - w<(I.getD p (0,0)).1)) P).map (mrkA I):=by
  unfold drM
  rw [drL_map]
  congr 1
  obtain ⟨g1,g2,g3,g4⟩:=mayC_facts hm
  have ht:(tickB td && winB w)=true:=by rw [tickB_yes (by omega) h2,winB_yes g2.1 g2.2];rfl
  refine drL_congr (fun p hp=>?_)
  have hx:=h.rg (I.getD p (0,0)) (by
    have:=h.lt p hp
    rw [List.getD_eq_getElem?_getD,List.getElem?_eq_getElem this]
    exact List.getElem_mem this)
  show liveB td w (I.getD p (0,0)).1=_
  rw [Bool.eq_iff_iff,live_iff ht hx.1,decide_eq_true_eq]
  constructor
  · exact fun h=>h.1
  · exact fun h=>⟨h,by omega⟩
theorem Sv.in_map (h:Sv g w k c now P I) (v:Int):inM ((I.length:Int)+1) now v (P.map (mrkA I))=(P ++ [I.length]).map (mrkA (I ++ [(now,v)])):=by
  unfold inM
  rw [List.map_append,List.map_map,List.map_singleton,mrkA_new]
  congr 1
  exact List.map_congr_left (fun p hp=>(mrkA_push I now v (h.lt p hp)).symm)
theorem Sv.ad_map (h:Sv g w k c now P I) {v:Int} (hv:valG g v):adM g k I.length now v (P.map (mrkA I))=(prL (clP g k (I ++ [(now,v)])) (P.length+1) (P ++ [I.length])).map (mrkA (I ++ [(now,v)])):=by
  unfold adM
  rw [h.in_map v,prL_map,List.length_map]
  congr 1
  have hvals:∀ x ∈ I ++ [(now,v)],valG g x.2:=fun x hx=>by
    rcases List.mem_append.1 hx with e | e
    · exact h.vals x e
    · simp only [List.mem_singleton] at e;subst e;exact hv
  have hlt:∀ p ∈ P ++ [I.length],p<(I ++ [(now,v)]).length:=fun p hp=>by
    rw [List.length_append,List.length_singleton]
    rcases List.mem_append.1 hp with e | e
    · have:=h.lt p e;omega
    · simp only [List.mem_singleton] at e;omega
  refine prL_congr (L:=P ++ [I.length]) (fun x hx y hy=>?_) _ _ (fun x hx=>hx)
  unfold clM clP
  rw [ofZ_mrkA h.g1 hvals (hlt x hx),ofZ_mrkA h.g1 hvals (hlt y hy)]
theorem Sv.fu_no (h:Sv g w k c now P I) (hf:fuM c I.length (P.map (mrkA I))=false):(∀ p,P.head?=some p→(I.length:Int) - p<c)∧(I.length:Int)<1099511627776∨1099511627776<(I.length:Int):=by
  unfold fuM at hf
  rw [Bool.or_eq_false_iff,decide_eq_false_iff_not] at hf
  rcases Int.lt_trichotomy (I.length:Int) 1099511627776 with e | e | e
  · refine Or.inl ⟨fun p hp=>?_,e⟩
    have h1:=h.cap p hp
    cases P with
    | nil=>cases hp
    | cons a R =>
      have ea:a=p:=by simpa using hp
      subst ea
      have h2:=hf.1
      have h3:(((a :: R).map (mrkA I)).getD 0 mk0).n=(I.length:Int) - a:=by
        show ((vlF I a).length:Int)=_
        have:=h.lt a List.mem_cons_self
        rw [vlF_len];omega
      rw [h3] at h2
      have h4:decide (0<((a :: R).map (mrkA I)).length)=true:=decide_eq_true (by simp)
      rw [h4,Bool.true_and,decide_eq_false_iff_not] at h2
      omega
  · exact absurd e hf.2
  · exact Or.inr e
theorem Sv.as_map (h:Sv g w k c now P I) (hm:mayC w k c now=true):asM g now w (P.map (mrkA I))=askP g now w I P:=by
  obtain ⟨g1,g2,g3,g4⟩:=mayC_facts hm
  have hlv:∀ p ∈ P,(liveB now w (mrkA I p).t=true ↔ now - w<(I.getD p (0,0)).1):=fun p hp=>by
    have hx:=h.rg (I.getD p (0,0)) (by
      have:=h.lt p hp
      rw [List.getD_eq_getElem?_getD,List.getElem?_eq_getElem this]
      exact List.getElem_mem this)
    show liveB now w (I.getD p (0,0)).1=true ↔ _
    rw [live_iff g4 hx.1]
    constructor
    · exact fun h=>h.1
    · exact fun h=>⟨h,hx.2⟩
  have hof:∀ p ∈ P,ofZ g (mrkA I p)=agP g I p:=fun p hp=>ofZ_mrkA h.g1 h.vals (h.lt p hp)
  cases P with
  | nil=>rfl
  | cons a R =>
    have l1:=hlv a List.mem_cons_self
    have o1:=hof a List.mem_cons_self
    simp only [List.map_cons,asM,askP]
    rw [o1]
    by_cases hx:now - w<(I.getD a (0,0)).1
    · rw [if_pos hx,if_pos (l1.2 hx)]
    · rw [if_neg hx,if_neg (fun e=>hx (l1.1 e))]
      cases R with
      | nil=>rfl
      | cons b R =>
        have o2:=hof b (by simp)
        simp only [List.map_cons]
        rw [o2]
        by_cases hs:b=a+1
        · rw [if_pos hs,if_pos (show (mrkA I b).sq=(mrkA I a).sq+1 by show (b:Int)+1=(a:Int)+1+1;omega)]
        · rw [if_neg hs,if_neg (show ¬ (mrkA I b).sq=(mrkA I a).sq+1 by show ¬ (b:Int)+1=(a:Int)+1+1;omega)]
end
end Go.Proofs.YtafkoddgefcpnaaGreat

namespace Go.Proofs.YtafkoddgefcpnaaGreat

def asS (now w:Int):List Mrk→Option (Mrk × Mrk)
  | []=>none
  | a :: R=>if liveB now w a.t=true then some (a,a) else match R with
    | []=>none
    | b :: _=>if b.sq=a.sq+1 then some (b,b) else some (b,a)
theorem clQ_mrkA {k:Int} {I:List It} {a b:Nat} (hk:1≤k∧k≤64) (ha:myM (mrkA I a)=true) (hb:myM (mrkA I b)=true):clQ k (mrkA I a) (mrkA I b)=clS k I a b:=by
  rw [clQ_form ha hb hk]
  unfold clS
  rw [Bool.eq_iff_iff,Bool.and_eq_true,decide_eq_true_eq,decide_eq_true_eq,decide_eq_true_eq]
  unfold clW
  have e1:spM (mrkA I a) * ((6 * k - 1) * (mrkA I b).n)=(6 * k - 1) * (((vlF I b).length:Int) * spW (vlF I a)):=by
    show spW (vlF I a) * ((6 * k - 1) * ((vlF I b).length:Int))=_
    ac_rfl
  have e2:spM (mrkA I b) * (6 * k * (mrkA I a).n)=6 * k * (((vlF I a).length:Int) * spW (vlF I b)):=by
    show spW (vlF I b) * (6 * k * ((vlF I a).length:Int))=_
    ac_rfl
  rw [e1,e2]
  exact Iff.rfl
section
variable {nr : List It → Nat → Nat → Prop} {cl : List It → Nat → Nat → Bool} {g w k c now : Int} {P : List Nat} {I : List It}
theorem SnM.dr_map (h:SnM nr cl g w c now P I) (hm:mayC w k c now=true) {td:Int} (h1:now≤td) (h2:td≤16777216):drM td w (P.map (mrkA I))=(drL (fun p=>decide (td - w<(I.getD p (0,0)).1)) P).map (mrkA I):=by
  unfold drM
  rw [drL_map]
  congr 1
  obtain ⟨g1,g2,g3,g4⟩:=mayC_facts hm
  have ht:(tickB td && winB w)=true:=by rw [tickB_yes (by omega) h2,winB_yes g2.1 g2.2];rfl
  refine drL_congr (fun p hp=>?_)
  have hx:=h.rg (I.getD p (0,0)) (by
    have:=h.lt p hp
    rw [List.getD_eq_getElem?_getD,List.getElem?_eq_getElem this]
    exact List.getElem_mem this)
  show liveB td w (I.getD p (0,0)).1=_
  rw [Bool.eq_iff_iff,live_iff ht hx.1,decide_eq_true_eq]
  constructor
  · exact fun h=>h.1
  · exact fun h=>⟨h,by omega⟩
theorem SnM.in_map (h:SnM nr cl g w c now P I) (v:Int):inM ((I.length:Int)+1) now v (P.map (mrkA I))=(P ++ [I.length]).map (mrkA (I ++ [(now,v)])):=by
  unfold inM
  rw [List.map_append,List.map_map,List.map_singleton,mrkA_new]
  congr 1
  exact List.map_congr_left (fun p hp=>(mrkA_push I now v (h.lt p hp)).symm)
theorem SnM.fu_no (h:SnM nr cl g w c now P I) (hf:fuM c I.length (P.map (mrkA I))=false):(∀ p,P.head?=some p→(I.length:Int) - p<c)∧(I.length:Int)<1099511627776∨1099511627776<(I.length:Int):=by
  unfold fuM at hf
  rw [Bool.or_eq_false_iff,decide_eq_false_iff_not] at hf
  rcases Int.lt_trichotomy (I.length:Int) 1099511627776 with e | e | e
  · refine Or.inl ⟨fun p hp=>?_,e⟩
    have h1:=h.cap p hp
    cases P with
    | nil=>cases hp
    | cons a R =>
      have ea:a=p:=by simpa using hp
      subst ea
      have h2:=hf.1
      have h3:(((a :: R).map (mrkA I)).getD 0 mk0).n=(I.length:Int) - a:=by
        show ((vlF I a).length:Int)=_
        have:=h.lt a List.mem_cons_self
        rw [vlF_len];omega
      rw [h3] at h2
      have h4:decide (0<((a :: R).map (mrkA I)).length)=true:=decide_eq_true (by simp)
      rw [h4,Bool.true_and,decide_eq_false_iff_not] at h2
      omega
  · exact absurd e hf.2
  · exact Or.inr e
end
section
variable {w k c now : Int} {P : List Nat} {I : List It}
theorem Ss.st (h:Ss w k c now P I) (hm:mayC w k c now=true) (hl:(I.length:Int)≤1099511627776):stP w k c now I.length (P.map (mrkA I))=true:=by
  refine stP_yes hm (mrkB_yes (by omega) hl (fun j hj=>SnM.ok h (by rw [List.length_map] at hj;exact hj))) (decide_eq_true (fun j hj h1=>?_))
  rw [List.length_map] at hj
  have hk:=(mayC_true hm).2
  have hc:=(mayC_facts hm).2.2.1.2
  have e2:=getD_map (I:=I) (P:=P) (j:=j - 2) (by omega)
  rw [e2,getD_map (I:=I) hj,clQ_mrkA hk (Ss.my h hc _ (getD_in (by omega))) (Ss.my h hc _ (getD_in hj))]
  have:=h.c5.at 0 (j - 2) (by omega)
  rwa [show j - 2+2=j by omega] at this
theorem Ss.ad_map (h:Ss w k c now P I) (hm:mayC w k c now=true) {v:Int} (hv:valG 4 v) (hh:∀ p,P.head?=some p→(I.length:Int) - p<c):adS k I.length now v (P.map (mrkA I))=(prL (clS k (I ++ [(now,v)])) (P.length+1) (P ++ [I.length])).map (mrkA (I ++ [(now,v)])):=by
  unfold adS
  rw [SnM.in_map h v,prL_map,List.length_map]
  congr 1
  have hk:=(mayC_true hm).2
  have hc:=(mayC_facts hm).2.2.1
  have hvals:∀ x ∈ I ++ [(now,v)],valG 4 x.2:=fun x hx=>by
    rcases List.mem_append.1 hx with e | e
    · exact h.vals x e
    · simp only [List.mem_singleton] at e;subst e;exact hv
  have hmy:∀ p ∈ P ++ [I.length],myM (mrkA (I ++ [(now,v)]) p)=true:=fun p hp=>by
    have hl:(I ++ [(now,v)]).length=I.length+1:=by simp
    rcases List.mem_append.1 hp with e | e
    · have h1:=h.lt p e
      have h2:(I.length:Int) - p<c:=by
        cases P with
        | nil=>cases e
        | cons a R =>
          have h3:=hh a rfl
          rcases List.mem_cons.1 e with rfl | e
          · exact h3
          · have:=(List.pairwise_cons.1 h.up).1 p e
            omega
      exact myM_mrkA hvals (by omega) (by omega)
    · simp only [List.mem_singleton] at e
      subst e
      exact myM_mrkA hvals (by omega) (by omega)
  refine prL_congr (L:=P ++ [I.length]) (fun x hx y hy=>?_) _ _ (fun x hx=>hx)
  exact clQ_mrkA hk (hmy x hx) (hmy y hy)
theorem Ss.as_map (h:Ss w k c now P I) (hm:mayC w k c now=true):(P=[]∧asS now w (P.map (mrkA I))=none)∨(asS now w (P.map (mrkA I))=some (mrkA I (askS now w I P).1,mrkA I (askS now w I P).2)∧(askS now w I P).1<I.length∧(askS now w I P).2 ∈ P∧(askS now w I P).1 ∈ P):=by
  obtain ⟨g1,g2,g3,g4⟩:=mayC_facts hm
  have hlv:∀ p ∈ P,(liveB now w (mrkA I p).t=true ↔ now - w<(I.getD p (0,0)).1):=fun p hp=>by
    have hx:=h.rg (I.getD p (0,0)) (by
      have:=h.lt p hp
      rw [List.getD_eq_getElem?_getD,List.getElem?_eq_getElem this]
      exact List.getElem_mem this)
    show liveB now w (I.getD p (0,0)).1=true ↔ _
    rw [live_iff g4 hx.1]
    constructor
    · exact fun h=>h.1
    · exact fun h=>⟨h,hx.2⟩
  cases P with
  | nil=>exact Or.inl ⟨rfl,rfl⟩
  | cons a R =>
    refine Or.inr ?_
    have l1:=hlv a List.mem_cons_self
    have k1:=h.lt a List.mem_cons_self
    simp only [List.map_cons,asS,askS]
    by_cases hx:now - w<(I.getD a (0,0)).1
    · rw [if_pos hx,if_pos (l1.2 hx)]
      exact ⟨rfl,k1,List.mem_cons_self,List.mem_cons_self⟩
    · rw [if_neg hx,if_neg (fun e=>hx (l1.1 e))]
      cases R with
      | nil=>exact absurd (h.one a rfl) hx
      | cons b R =>
        have k2:=h.lt b (by simp)
        simp only [List.map_cons]
        by_cases hs:b=a+1
        · rw [if_pos hs,if_pos (show (mrkA I b).sq=(mrkA I a).sq+1 by show (b:Int)+1=(a:Int)+1+1;omega)]
          exact ⟨rfl,k2,by simp,by simp⟩
        · rw [if_neg hs,if_neg (show ¬ (mrkA I b).sq=(mrkA I a).sq+1 by show ¬ (b:Int)+1=(a:Int)+1+1;omega)]
          exact ⟨rfl,k2,by simp,by simp⟩
end
end Go.Proofs.YtafkoddgefcpnaaGreat

namespace Go.Proofs.YtafkoddgefcpnaaGreat
open Go.RowKit
set_option linter.unusedVariables false

theorem gapI_any (a v:Int) (h1:1≤v) (h2:v≤25) (w:World) :
    Calls Tryz.prog 49 #[.int .i64 a,.int .i64 v] w fun e w'=>∃ g,e=.returned (.int .i64 g)∧0≤g∧g≤51∧w=w':=by
  have KM:=Lib.hid (fun W=>modm_any a 8 (by omega) (by omega) W)
  have KB:=Lib.hid (fun b W=>mod_in b (2 * v+2) (by omega) (by omega) W)
  have KC:=Lib.hid (fun b W=>mod_in b 3 (by omega) (by omega) W)
  generalize a % 8=m at KM
  by_cases m0:m=0
  · subst m0
    clear KC
    go_enter Tryz.func49,Tryz.ntmps49
    go_wp2_with (first
      | (go_at_call 20;(with_reducible refine (KM.out _).mono ?_);rintro e w' ⟨rfl,rfl⟩)
      | (go_at_call 20;(with_reducible refine (KB.out _ _).mono ?_);rintro e w' ⟨r,rfl,hr1,hr2,rfl⟩))
    go_ret
    exact ⟨_,rfl,by omega,by omega,rfl⟩
  have t0:(m == 0)=false:=by simp [m0]
  by_cases m1:m=1∨m=2
  · clear KB
    rcases m1 with rfl | rfl
    all_goals
      go_enter Tryz.func49,Tryz.ntmps49
      go_wp2_with (first
        | (go_at_call 20;(with_reducible refine (KM.out _).mono ?_);rintro e w' ⟨rfl,rfl⟩)
        | (go_at_call 20;(with_reducible refine (KC.out _ _).mono ?_);rintro e w' ⟨r,rfl,hr1,hr2,rfl⟩))
      go_ret
      exact ⟨_,rfl,by omega,by omega,rfl⟩
  · have t1:(m == 1)=false:=by simp;omega
    have t2:(m == 2)=false:=by simp;omega
    clear KB KC m0 m1
    go_enter Tryz.func49,Tryz.ntmps49
    go_wp2_with (go_at_call 20;(with_reducible refine (KM.out _).mono ?_);rintro e w' ⟨rfl,rfl⟩)
    go_ret
    exact ⟨_,rfl,by omega,by omega,rfl⟩

/-- Items whose ticks ascend from 0 on up to z, with values. -/
def mdQ (M:List It) (z:Int):Prop :=
  0≤z∧z≤51 * M.length∧∀ j,j<M.length→0≤(M.getD j (0,0)).1∧(M.getD j (0,0)).1≤z∧(0<j→(M.getD (j - 1) (0,0)).1≤(M.getD j (0,0)).1)∧valueB (M.getD j (0,0)).2=true
theorem mdQ_nil:mdQ [] 0:=⟨by omega,by simp,fun j hj=>absurd hj (Nat.not_lt_zero _)⟩
theorem mdQ_next {M:List It} {z g x:Int} (h:mdQ M z) (h1:0≤g) (h2:g≤51) (hx:valueB x=true):mdQ (M ++ [(z+g,x)]) (z+g):=by
  obtain ⟨a,b,c⟩:=h
  refine ⟨by omega,by rw [List.length_append];simp only [List.length_cons,List.length_nil];omega,fun j hj=>?_⟩
  rw [List.length_append] at hj
  simp only [List.length_cons,List.length_nil] at hj
  rcases Nat.lt_or_ge j M.length with hl | hl
  · rw [snoc_lt hl]
    have:=c j hl
    refine ⟨this.1,by omega,fun h0=>?_,this.2.2.2⟩
    rw [snoc_lt (show j - 1<M.length by omega)]
    exact this.2.2.1 h0
  · obtain rfl:j=M.length:=by omega
    rw [snoc_at]
    refine ⟨by omega,Int.le_refl _,fun h0=>?_,hx⟩
    rw [snoc_lt (show M.length - 1<M.length by omega)]
    have:=c (M.length - 1) (by omega)
    show _≤z+g
    omega

set_option maxHeartbeats 4000000 in
set_option maxRecDepth 100000 in
theorem itemsI_up (n k:Nat) (A:Option Addr) (L:List It) (v:Int) (h1:1≤v) (h2:v≤25) (mx:Nat) (hmx:mx≤200) (w:World) (hS:Sl w A n L) :
    Calls Tryz.prog 18 #[.slice A n k,.int .i64 v,.int .i64 mx] w fun e w'=>∃ A' n' k' M z,e=.returned (.slice A' n' k')∧n'≤mx∧mdQ M z∧Own w w' (.slice A' n' k') n' M∧Up w w':=by
  have KG:=Lib.hid (fun a W=>gapI_any a v h1 h2 W)
  have KV:=Lib.hid mvalue_any
  have HS:=Lib.hid hS
  clear hS
  go_enter Tryz.func18,Tryz.ntmps18
  go_wp2_with fail
  go_loopw [7,8,9] (fun s t u wr=>∃ (i:Nat) (z:Int) (A1:Option Addr) (k1:Nat) (M:List It),s=.slice A1 i k1∧t=.int .i64 z∧u=.int .i64 i∧i≤mx∧0≤z∧z≤10200∧Hid (M.length=i)∧Hid (mdQ M z)∧Hid (Own w wr (.slice A1 i k1) i M)∧Hid (Up w wr)) (fun _ _ u _=>mx - (intOf u).toNat)
  case atStart=>exact ⟨0,0,none,0,[],rfl,rfl,rfl,Nat.zero_le _,by omega,by omega,Lib.hid rfl,Lib.hid mdQ_nil,Lib.hid (Own.nil _ _),Lib.hid (Up.refl _)⟩
  case round =>
    obtain ⟨i,z,A1,k1,M,rfl,rfl,rfl,hi,z0,z1,HN,HP,HO,HU⟩:=hrel
    by_cases hlt:i<n
    case neg =>
      have t1:decide (i<n)=false:=decide_eq_false hlt
      go_wp2_with fail
      go_ret
      exact ⟨_,_,_,M,z,rfl,hi,HP.out,HO.out,HU.out⟩
    have t1:decide (i<n)=true:=decide_eq_true hlt
    by_cases hl2:i<mx
    case neg =>
      have t2:decide ((i:Int)<mx)=false:=decide_eq_false (by omega)
      go_wp2_with fail
      go_ret
      exact ⟨_,_,_,M,z,rfl,hi,HP.out,HO.out,HU.out⟩
    have t2:decide ((i:Int)<mx)=true:=decide_eq_true (by omega)
    obtain ⟨b,o,rfl,d0,d1⟩:=(HS.out.up HU.out).at_ hlt
    generalize (L.getD i (0,0)).1=p0 at *
    generalize (L.getD i (0,0)).2=p1 at *
    have f2:(i:Int)<n:=by omega
    have f3:(0:Int)≤i:=by omega
    have hz2:z≤51 * i:=by have:=HP.out.2.1;rw [HN.out] at this;exact this
    go_upto_region 7 with (go_at_call 49;(with_reducible refine (KG.out _ _).mono ?_);rintro e w' ⟨g,rfl,g0,g1,rfl⟩)
    have HR:Hid (∀ x:Int,∃ A2 k2 w2,(Builtin.append_ #[39,39] 39 #[.slice A1 i k1,.slice (some ⟨wr.heap.size,0,none⟩) 1 1]).run Tryz.prog (wr.alloc (.cells #[.int .i64 (z+g),.int .i64 x] 45))=.ok (.slice A2 (i+1) k2) w2∧Own w w2 (.slice A2 (i+1) k2) (i+1) (M ++ [(z+g,x)])∧Up w w2) :=
      Lib.hid (fun x=>append1I_run 39 w wr A1 i k1 M (z+g) x HO.out HU.out (by omega))
    have k3:IntKind.i64.wrap (z+g)=z+g:=IntWalk.i64_in _ (by omega)
    go_wp2_with (first
      | (go_at_call 50;(with_reducible refine (KV.out _ _).mono ?_);rintro e w' ⟨y,rfl,hy,rfl⟩;have HY:=Lib.hid hy;clear hy;obtain ⟨A2,k2,w2,hr,hO2,hU2⟩:=HR.out y;have HO2:=Lib.hid hO2;have HU2:=Lib.hid hU2;clear hO2 hU2)
      | (refine wpList_append_run (o:=⟨some 40,_,_,_,_,_⟩) rfl (.tmp 30) (.tmp 39) _ rfl _ _ rfl rfl _ _ hr ?_))
    go_roundw
    case rel=>exact ⟨i+1,z+g,A2,k2,M ++ [(z+g,y)],rfl,rfl,by go_num,by omega,by omega,by omega,Lib.hid (by rw [List.length_append,HN.out];rfl),Lib.hid (mdQ_next HP.out g0 g1 HY.out),HO2,HU2⟩
    case measure=>simp [intOf];omega

set_option maxHeartbeats 4000000 in
set_option maxRecDepth 100000 in
theorem mliveI_up (n k:Nat) (A:Option Addr) (L:List It) (now v:Int) (hn:n≤100000) (h0:0≤now) (h1:now≤100000) (h2:1≤v) (h3:v≤25) (w:World) (hS:Sl w A n L) :
    Calls Tryz.prog 22 #[.slice A n k,.int .i64 now,.int .i64 v] w fun e w'=>∃ A' n' k',e=.returned (.slice A' n' k')∧n'≤n∧Own w w' (.slice A' n' k') n' (mlL L now v)∧Up w w':=by
  have HL:=Lib.hid hS.1
  have HS:=Lib.hid hS
  clear hS
  have k2:IntKind.i64.wrap (now - v)=now - v:=IntWalk.i64_in _ (by omega)
  go_enter Tryz.func22,Tryz.ntmps22
  go_wp2_with fail
  go_loopw [7,12] (fun s t wr=>∃ (i c:Nat) (A1:Option Addr) (k1:Nat),s=.slice A1 c k1∧t=.int .i64 i∧i≤n∧c≤i∧Own w wr (.slice A1 c k1) c (mlL (L.take i) now v)∧Up w wr) (fun _ t _=>n - (intOf t).toNat)
  case atStart=>exact ⟨0,0,none,0,rfl,rfl,Nat.zero_le _,Nat.le_refl _,Own.nil _ _,Up.refl _⟩
  case round =>
    obtain ⟨i,c,A1,k1,rfl,rfl,hin,hci,hO,hU⟩:=hrel
    have HU:=Lib.hid hU
    have HO:=Lib.hid hO
    clear hU hO
    by_cases hi:i<n
    · obtain ⟨b,o,rfl,d0,d1⟩:=(HS.out.up HU.out).at_ hi
      have HN1:=Lib.hid (mlL_take (L:=L) (i:=i) (by rw [HL.out];exact hi) now v)
      have hp:L.getD i (0,0)=((L.getD i (0,0)).1,(L.getD i (0,0)).2):=rfl
      rw [hp] at HN1
      generalize (L.getD i (0,0)).1=p0 at *
      generalize (L.getD i (0,0)).2=p1 at *
      have f2:(i:Int)<n:=by omega
      have f3:(0:Int)≤i:=by omega
      clear hp
      by_cases hx:now - v<p0∧p0≤now
      · have HM:Hid (mlL (L.take (i+1)) now v=mlL (L.take i) now v ++ [(p0,p1)]):=Lib.hid (by rw [HN1.out,if_pos (by simp only [Bool.and_eq_true,decide_eq_true_eq];exact hx)])
        have t1:decide (now - v<p0)=true:=decide_eq_true hx.1
        have t2:decide (p0≤now)=true:=decide_eq_true hx.2
        clear HN1 hx
        obtain ⟨A2,k2,w2,hr,ho,hu⟩:=append1I_run 39 w (wr.alloc (.cells #[.int .i64 p0,.int .i64 p1] 45)) A1 c k1 _ p0 p1 (HO.out.of_up ((Up.refl _).alloc _ _)) (HU.out.alloc _ _) (by omega)
        rw [← HM.out] at ho
        rw [size_alloc] at hr
        have HO2:=Lib.hid ho
        have HU2:=Lib.hid hu
        clear ho hu HM
        go_wp2_with (refine wpList_append_run (o:=⟨some 31,_,_,_,_,_⟩) rfl (.tmp 28) (.tmp 30) _ rfl _ _ rfl rfl _ _ hr ?_)
        go_roundw
        case rel=>exact ⟨i+1,c+1,_,_,rfl,by go_num,by omega,by omega,HO2.out,HU2.out⟩
        case measure=>simp [intOf];omega
      · have HM:Hid (mlL (L.take (i+1)) now v=mlL (L.take i) now v):=Lib.hid (by rw [HN1.out,if_neg (by simp only [Bool.and_eq_true,decide_eq_true_eq];exact hx),List.append_nil])
        clear HN1
        by_cases h1:now - v<p0
        · have t1:decide (now - v<p0)=true:=decide_eq_true h1
          have t2:decide (p0≤now)=false:=decide_eq_false (fun h=>hx ⟨h1,h⟩)
          clear hx h1
          go_wp2_with fail
          go_roundw
          case rel=>exact ⟨i+1,c,_,_,rfl,by go_num,by omega,by omega,by rw [HM.out];exact HO.out.of_up ((Up.refl _).alloc _ _),HU.out.alloc _ _⟩
          case measure=>simp [intOf];omega
        · have t1:decide (now - v<p0)=false:=decide_eq_false h1
          clear hx h1
          go_wp2_with fail
          go_roundw
          case rel=>exact ⟨i+1,c,_,_,rfl,by go_num,by omega,by omega,by rw [HM.out];exact HO.out.of_up ((Up.refl _).alloc _ _),HU.out.alloc _ _⟩
          case measure=>simp [intOf];omega
    · obtain rfl:i=n:=by omega
      have ht:L.take i=L:=List.take_of_length_le (by rw [HL.out];exact Nat.le_refl _)
      rw [ht] at HO
      clear ht
      go_wp2_with fail
      go_ret
      exact ⟨_,_,_,rfl,hci,HO.out,HU.out⟩


theorem int_in (a n:Int) (hn:1≤n) (hn':n≤10000) (w:World) :
    Calls Tryz.prog 47 #[.int .i64 a,.int .i64 n] w fun e w'=>∃ r,e=.returned (.int .i64 r)∧0≤r∧r≤n - 1∧w=w':=by
  have KM:=Lib.hid (fun W=>mod_in a n hn hn' W)
  go_enter Tryz.func47,Tryz.ntmps47
  go_wp2_with (go_at_call 20;(with_reducible refine (KM.out _).mono ?_);rintro e w' ⟨r,rfl,hr1,hr2,rfl⟩)
  go_ret
  exact ⟨_,rfl,hr1,hr2,rfl⟩
set_option maxHeartbeats 8000000 in
set_option maxRecDepth 100000 in
theorem window_any (a b c:Int) (w:World) :
    Calls Tryz.prog 16 #[.int .i64 a,.int .i64 b,.int .i64 c] w fun e w'=>∃ v q d,e=.returned (.tuple #[.int .i64 v,.int .i64 q,.int .i64 d])∧(1≤v∧v≤25)∧(1≤q∧q≤4)∧(1≤d∧d≤65536)∧w=w':=by
  have K1:=Lib.hid (fun W=>mod_in c 40 (by omega) (by omega) W)
  have K2:=Lib.hid (fun W=>modm_any c 4 (by omega) (by omega) W)
  have K3:=Lib.hid (fun W=>mod_in a 25 (by omega) (by omega) W)
  have K4:=Lib.hid (fun W=>int_in b 4 (by omega) (by omega) W)
  have m0:0≤c % 4:=Int.emod_nonneg _ (by omega)
  have m1:c % 4<4:=Int.emod_lt_of_pos _ (by omega)
  generalize c % 4=m at *
  have hm:m=0∨m=1∨m=2∨m=3:=by omega
  rcases hm with rfl | rfl | rfl | rfl
  · go_enter Tryz.func16,Tryz.ntmps16
    go_wp2_with (first
      | (go_at_call 20;(with_reducible refine (K2.out _).mono ?_);rintro e w' ⟨rfl,rfl⟩)
      | (go_at_call 20;(with_reducible refine (K1.out _).mono ?_);rintro e w' ⟨r1,rfl,hr1,hr2,rfl⟩)
      | (go_at_call 20;(with_reducible refine (K3.out _).mono ?_);rintro e w' ⟨r3,rfl,hr5,hr6,rfl⟩)
      | (go_at_call 47;(with_reducible refine (K4.out _).mono ?_);rintro e w' ⟨r4,rfl,hr7,hr8,rfl⟩))
    exact bodyPost_ret (v:=.tuple #[.int .i64 (1+r3),.int .i64 (1+r4),.int .i64 65536]) (by simp [results,Tryz.results16,go_sem]) rfl ⟨_,_,_,rfl,⟨by omega,by omega⟩,⟨by omega,by omega⟩,⟨by omega,by omega⟩,rfl⟩
  · go_enter Tryz.func16,Tryz.ntmps16
    go_wp2_with (first
      | (go_at_call 20;(with_reducible refine (K2.out _).mono ?_);rintro e w' ⟨rfl,rfl⟩)
      | (go_at_call 20;(with_reducible refine (K1.out _).mono ?_);rintro e w' ⟨r1,rfl,hr1,hr2,rfl⟩)
      | (go_at_call 20;(with_reducible refine (K3.out _).mono ?_);rintro e w' ⟨r3,rfl,hr5,hr6,rfl⟩)
      | (go_at_call 47;(with_reducible refine (K4.out _).mono ?_);rintro e w' ⟨r4,rfl,hr7,hr8,rfl⟩))
    exact bodyPost_ret (v:=.tuple #[.int .i64 (1+r3),.int .i64 (1+r4),.int .i64 200]) (by simp [results,Tryz.results16,go_sem]) rfl ⟨_,_,_,rfl,⟨by omega,by omega⟩,⟨by omega,by omega⟩,⟨by omega,by omega⟩,rfl⟩
  · go_enter Tryz.func16,Tryz.ntmps16
    go_wp2_with (first
      | (go_at_call 20;(with_reducible refine (K2.out _).mono ?_);rintro e w' ⟨rfl,rfl⟩)
      | (go_at_call 20;(with_reducible refine (K1.out _).mono ?_);rintro e w' ⟨r1,rfl,hr1,hr2,rfl⟩)
      | (go_at_call 20;(with_reducible refine (K3.out _).mono ?_);rintro e w' ⟨r3,rfl,hr5,hr6,rfl⟩)
      | (go_at_call 47;(with_reducible refine (K4.out _).mono ?_);rintro e w' ⟨r4,rfl,hr7,hr8,rfl⟩))
    exact bodyPost_ret (v:=.tuple #[.int .i64 (1+r3),.int .i64 (1+r4),.int .i64 (1+r1)]) (by simp [results,Tryz.results16,go_sem]) rfl ⟨_,_,_,rfl,⟨by omega,by omega⟩,⟨by omega,by omega⟩,⟨by omega,by omega⟩,rfl⟩
  · go_enter Tryz.func16,Tryz.ntmps16
    go_wp2_with (first
      | (go_at_call 20;(with_reducible refine (K2.out _).mono ?_);rintro e w' ⟨rfl,rfl⟩)
      | (go_at_call 20;(with_reducible refine (K1.out _).mono ?_);rintro e w' ⟨r1,rfl,hr1,hr2,rfl⟩)
      | (go_at_call 20;(with_reducible refine (K3.out _).mono ?_);rintro e w' ⟨r3,rfl,hr5,hr6,rfl⟩)
      | (go_at_call 47;(with_reducible refine (K4.out _).mono ?_);rintro e w' ⟨r4,rfl,hr7,hr8,rfl⟩))
    exact bodyPost_ret (v:=.tuple #[.int .i64 (1+r3),.int .i64 (1+r4),.int .i64 (1+r1)]) (by simp [results,Tryz.results16,go_sem]) rfl ⟨_,_,_,rfl,⟨by omega,by omega⟩,⟨by omega,by omega⟩,⟨by omega,by omega⟩,rfl⟩
end Go.Proofs.YtafkoddgefcpnaaGreat

namespace Go.Proofs.YtafkoddgefcpnaaGreat
open Go.RowKit
set_option linter.unusedVariables false

theorem Own.nw {w0 w:World} {A:Option Addr} {n c:Nat} {L:List It} (h:Own w0 w (.slice A n c) n L):Nw w0 A:=by
  intro b o e
  rcases h.2 with ⟨h1,_⟩ | ⟨g,cap,cur,h1,h2,_⟩
  · injection h1 with h1;rw [h1] at e;cases e
  · injection h1 with h1
    rw [h1] at e
    injection e with e
    injection e with e1 e2
    omega
/-- Items whose ticks ascend from 0 on up to z. -/
def mdT (M:List It) (z:Int):Prop :=
  0≤z∧z≤51 * M.length∧∀ j,j<M.length→0≤(M.getD j (0,0)).1∧(M.getD j (0,0)).1≤z∧(0<j→(M.getD (j - 1) (0,0)).1≤(M.getD j (0,0)).1)
theorem mdQ.t {M:List It} {z:Int} (h:mdQ M z):mdT M z :=
  ⟨h.1,h.2.1,fun j hj=>⟨(h.2.2 j hj).1,(h.2.2 j hj).2.1,(h.2.2 j hj).2.2.1⟩⟩
theorem mdT_step {M:List It} {z:Int} (h:mdT M z) {i:Nat} (hi:i<M.length):0≤(M.getD i (0,0)).1∧(M.getD i (0,0)).1≤z∧(i+1<M.length→(M.getD i (0,0)).1≤(M.getD (i+1) (0,0)).1):=by
  obtain ⟨_,_,hp⟩:=h
  refine ⟨(hp i hi).1,(hp i hi).2.1,fun h2=>?_⟩
  have:=(hp (i+1) h2).2.2 (by omega)
  rwa [Nat.add_sub_cancel] at this
end Go.Proofs.YtafkoddgefcpnaaGreat
