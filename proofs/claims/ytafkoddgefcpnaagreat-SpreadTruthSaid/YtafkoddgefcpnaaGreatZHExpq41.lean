/- Texts of these claims, one after the other. -/
import Derived.Test.YtafkoddgefcpnaaGreatRows
import Derived.Test.YtafkoddgefcpnaaGreatZHMathq21
import Derived.Test.YtafkoddgefcpnaaGreatZHOrdq37
import Derived.Test.YtafkoddgefcpnaaGreatZKMarkq68
import Derived.Test.YtafkoddgefcpnaaGreatZNumDivq46
namespace Go.Proofs.YtafkoddgefcpnaaGreat
open Go.RowKit

/-- What a tick leaves. -/
def exL (L:List It) (f:Int):List It:=L.dropWhile (fun x=>decide (x.1<f))
theorem exL_suffix (L:List It) (f:Int):∃ P,P ++ exL L f=L:=⟨L.takeWhile (fun x=>decide (x.1<f)),List.takeWhile_append_dropWhile⟩

end Go.Proofs.YtafkoddgefcpnaaGreat

namespace Go.Proofs.YtafkoddgefcpnaaGreat
open Go.RowKit

theorem il_len (L:List Int):(il L).length=L.length:=by simp [il]
theorem il_at {L:List Int} {j:Nat} (h:j<L.length):(il L)[j]?=some (.int .i64 (L.getD j 0)):=by simp [il,List.getD,h]
theorem OwI.sl {w0 w:World} {v:Value} {n:Nat} {L:List Int} (h:OwI w0 w v n L):∃ A c,v=.slice A n c∧n≤c∧Sn w A n L:=by
  have hn:L.length=n:=by have:=h.1;rw [il_len] at this;omega
  rcases h.2 with ⟨rfl,rfl⟩ | ⟨g,cap,cur,rfl,_,hh,hc,_,hs,ht⟩
  · exact ⟨none,0,rfl,Nat.le_refl _,hn,fun hx=>absurd hx (by omega)⟩
  · refine ⟨some ⟨g,0,none⟩,cap,rfl,hc,hn,fun _=>⟨g,0,rfl,fun j hj=>?_⟩⟩
    rw [Nat.zero_add,cell_of_row w g j cur _ (0,0) hh]
    have e:=il_at (L:=L) (j:=j) (by omega)
    rw [← ht,List.getElem?_take] at e
    split at e
    · simpa using e
    · cases e
end Go.Proofs.YtafkoddgefcpnaaGreat

namespace Go.Proofs.YtafkoddgefcpnaaGreat
open Go.RowKit

theorem exL_tot (L:List It) (f:Int):totB (exL L f)≤totB L:=by
  obtain ⟨P,h⟩:=exL_suffix L f
  have:=totB_low P
  have e:=totB_app P (exL L f)
  rw [h] at e
  omega
theorem exL_va {L:List It} {k f t:Int} (h:Va L k) (hl:∀ x ∈ L,x.1≤t):Va (exL L f) k∧∀ x ∈ exL L f,x.1≤t:=by
  obtain ⟨P,e⟩:=exL_suffix L f
  refine ⟨Va.suffix (P:=P) (by rw [e];exact h),fun x hx=>hl x ?_⟩
  rw [← e]
  exact List.mem_append_right _ hx
end Go.Proofs.YtafkoddgefcpnaaGreat

namespace Go.Proofs.YtafkoddgefcpnaaGreat

def fit64 (x:Int):Bool:=decide (-9223372036854775808≤x∧x≤9223372036854775807)
/-- The aggregate of a mark. -/
def ofZ (g:Int) (m:Mrk):Int:=if g=1 then m.n else if g=2 then m.s else if g=3 then m.q else if g=4 then (if fit64 (m.hi - m.lo)=true then m.hi - m.lo else 0) else 0
theorem mrkA_push (I:List It) (t v:Int) {p:Nat} (h:p<I.length):mrkA (I ++ [(t,v)]) p=incM v (mrkA I p):=by
  have e0:(I ++ [(t,v)]).getD p (0,0)=I.getD p (0,0):=by
    rw [List.getD_eq_getElem?_getD,List.getD_eq_getElem?_getD,List.getElem?_append_left h]
  unfold mrkA incM
  rw [vlF_push I t v (by omega),e0,List.length_append,suL_app,sqL_app,mnL_push v (vlF_ne h),mxL_push v (vlF_ne h)]
  simp [suL,sqL]
theorem mrkA_new (I:List It) (t v:Int):mrkA (I ++ [(t,v)]) I.length=oneM ((I.length:Int)+1) t v:=by
  have e0:(I ++ [(t,v)]).getD I.length (0,0)=(t,v):=by
    rw [List.getD_eq_getElem?_getD,List.getElem?_append_right (Nat.le_refl _)];simp
  have e1:vlF (I ++ [(t,v)]) I.length=[v]:=by
    rw [vlF_push I t v (Nat.le_refl _)];unfold vlF;rw [List.drop_length];rfl
  unfold mrkA oneM
  rw [e0,e1]
  simp [suL,sqL,mnL,mxL]
theorem ofZ_mrkA {g:Int} {I:List It} (hg:1≤g∧g≤4) (h:∀ x ∈ I,valG g x.2) {p:Nat} (hp:p<I.length):ofZ g (mrkA I p)=agP g I p:=by
  have:g=1∨g=2∨g=3∨g=4:=by omega
  rcases this with rfl | rfl | rfl | rfl
  · rfl
  · rfl
  · rfl
  · have h1:=vlF_val h p _ (mnL_mem (vlF_ne hp))
    have h2:=vlF_val h p _ (mxL_mem (vlF_ne hp))
    have h3:=h1.1;have h4:=h1.2.1;have h5:=h2.1;have h6:=h2.2.1
    have e:fit64 (mxL (vlF I p) - mnL (vlF I p))=true:=decide_eq_true (by omega)
    show (if fit64 (mxL (vlF I p) - mnL (vlF I p))=true then mxL (vlF I p) - mnL (vlF I p) else 0)=_
    rw [if_pos e];rfl
/-- The live ones are those from a place on. -/
theorem live_from (f:Int):∀ {I:List It},I.Pairwise (fun x y=>x.1≤y.1)→∃ l,l≤I.length∧I.filter (fun x=>decide (f<x.1))=I.drop l∧(∀ i,i<l→(I.getD i (0,0)).1≤f)∧∀ i,l≤i→i<I.length→f<(I.getD i (0,0)).1:=by
  intro I
  induction I with
  | nil=>intro _;exact ⟨0,Nat.le_refl _,rfl,fun i hi=>absurd hi (Nat.not_lt_zero _),fun i _ hi=>absurd hi (Nat.not_lt_zero _)⟩
  | cons x I ih =>
    intro h
    obtain ⟨h1,h2⟩:=List.pairwise_cons.1 h
    by_cases hx:f<x.1
    · refine ⟨0,Nat.zero_le _,?_,fun i hi=>absurd hi (Nat.not_lt_zero _),fun i _ hi=>?_⟩
      · rw [List.drop_zero,List.filter_eq_self]
        intro y hy
        rcases List.mem_cons.1 hy with rfl | hy
        · exact decide_eq_true hx
        · exact decide_eq_true (by have:=h1 y hy;omega)
      · have:=asc_le h (Nat.zero_le i) hi
        have e:((x :: I).getD 0 (0,0))=x:=rfl
        rw [e] at this;omega
    · obtain ⟨l,a1,a2,a3,a4⟩:=ih h2
      refine ⟨l+1,by rw [List.length_cons];omega,?_,fun i hi=>?_,fun i hi hj=>?_⟩
      · rw [List.filter_cons,if_neg (by simp;omega),a2];rfl
      · cases i with
        | zero=>show x.1≤f;omega
        | succ i=>exact a3 i (by omega)
      · cases i with
        | zero=>omega
        | succ i=>exact a4 i (by omega) (by rw [List.length_cons] at hj;omega)
end Go.Proofs.YtafkoddgefcpnaaGreat

namespace Go.Proofs.YtafkoddgefcpnaaGreat

theorem SnM.start {nr:List It→Nat→Nat→Prop} {cl:List It→Nat→Nat→Bool} {g w c now:Int} (hg:1≤g∧g≤4) (hw:1≤w) (hc:1≤c):SnM nr cl g w c now [] [] :=
  ⟨hg,hw,hc,List.Pairwise.nil,(fun p hp=>(by cases hp)),(fun p hp=>(by cases hp)),(fun _ i hi=>absurd hi (Nat.not_lt_zero _)),(fun p hp=>(by cases hp)),(fun p hp=>(by cases hp)),(fun p hp=>(by cases hp)),trivial,trivial,List.Pairwise.nil,(fun x hx=>(by cases hx)),(fun x hx=>(by cases hx)),(fun p hp=>(by cases hp))⟩
/-- What becomes of the marks by a tick. -/
theorem dr_facts {f:Int} {I:List It} (ha:I.Pairwise (fun x y=>x.1≤y.1)):∀ {P:List Nat},P.Pairwise (fun a b=>a<b)→(∀ p ∈ P,p<I.length)→(∀ p,P.getLast?=some p→p+1=I.length)→(P=[]→∀ i,i<I.length→(I.getD i (0,0)).1≤f)→(∀ p,P.head?=some p→∀ i,i<p→(I.getD i (0,0)).1≤f) →
    (drL (fun p=>decide (f<(I.getD p (0,0)).1)) P=[]→∀ i,i<I.length→(I.getD i (0,0)).1≤f)∧(∀ p,(drL (fun p=>decide (f<(I.getD p (0,0)).1)) P).head?=some p→∀ i,i<p→(I.getD i (0,0)).1≤f)∧(∀ p ∈ (drL (fun p=>decide (f<(I.getD p (0,0)).1)) P).tail,f<(I.getD p (0,0)).1)∧(∀ p,drL (fun p=>decide (f<(I.getD p (0,0)).1)) P=[p]→f<(I.getD p (0,0)).1)∧(∀ p,(drL (fun p=>decide (f<(I.getD p (0,0)).1)) P).head?=some p→∀ q,P.head?=some q→q≤p):=by
  intro P
  induction P with
  | nil=>intro _ _ _ hn _;exact ⟨fun _=>hn rfl,fun p hp=>(by cases hp),fun p hp=>(by cases hp),fun p hp=>(by cases hp),fun p hp=>(by cases hp)⟩
  | cons a R ih =>
    intro hu hl hla hn ho
    cases R with
    | nil =>
      simp only [drL]
      by_cases h:f<(I.getD a (0,0)).1
      · rw [if_pos (decide_eq_true h)]
        refine ⟨fun e=>(by cases e),ho,fun p hp=>(by cases hp),fun p hp=>?_,fun p hp q hq=>?_⟩
        · injection hp with e;subst e;exact h
        · injection hp with e;injection hq with e2;omega
      · rw [if_neg (by simpa using h)]
        refine ⟨fun _ i hi=>?_,fun p hp=>(by cases hp),fun p hp=>(by cases hp),fun p hp=>(by cases hp),fun p hp=>(by cases hp)⟩
        have h1:=hla a rfl
        have:=asc_le ha (show i≤a by omega) (by omega)
        omega
    | cons b R =>
      simp only [drL]
      have hb:b<I.length:=hl b (by simp)
      by_cases h:f<(I.getD b (0,0)).1
      · rw [if_pos (decide_eq_true h)]
        refine ⟨fun e=>(by cases e),ho,fun p hp=>?_,fun p hp=>(by cases hp),fun p hp q hq=>?_⟩
        · have h2:b≤p:=by
            rcases List.mem_cons.1 hp with e | e
            · omega
            · have:=(List.pairwise_cons.1 (List.pairwise_cons.1 hu).2).1 p e;omega
          have:=asc_le ha h2 (hl p (List.mem_cons_of_mem _ hp))
          omega
        · injection hp with e;injection hq with e2;omega
      · rw [if_neg (by simpa using h)]
        obtain ⟨i1,i2,i3,i4,i5⟩:=ih (List.pairwise_cons.1 hu).2 (fun p hp=>hl p (List.mem_cons_of_mem _ hp)) (fun p hp=>hla p (by rw [List.getLast?_cons_cons];exact hp)) (fun e=>(by cases e)) (fun p hp i hi=>by
          injection hp with e
          subst e
          have:=asc_le ha (Nat.le_of_lt hi) hb
          omega)
        refine ⟨i1,i2,i3,i4,fun p hp q hq=>?_⟩
        have h2:=i5 p hp b rfl
        injection hq with e
        subst e
        have:=(List.pairwise_cons.1 hu).1 b List.mem_cons_self
        omega
theorem SnM.adv {nr:List It→Nat→Nat→Prop} {cl:List It→Nat→Nat→Bool} {g w c now td:Int} {P:List Nat} {I:List It} (h:SnM nr cl g w c now P I) (h1:now≤td):SnM nr cl g w c td (drL (fun p=>decide (td - w<(I.getD p (0,0)).1)) P) I:=by
  obtain ⟨i1,i2,i3,i4,i5⟩:=dr_facts (f:=td - w) h.asc h.up h.lt h.last (fun e i hi=>by have:=h.none_ e i hi;omega) (fun p hp i hi=>by have:=h.old p hp i hi;omega)
  obtain ⟨Q,e⟩:=drL_suffix (fun p=>decide (td - w<(I.getD p (0,0)).1)) P
  generalize drL (fun p=>decide (td - w<(I.getD p (0,0)).1)) P=D at *
  subst e
  refine ⟨h.g1,h.w1,h.c1,(List.pairwise_append.1 h.up).2.1,fun p hp=>h.lt p (List.mem_append_right _ hp),fun p hp=>h.last p ?_,i1,i2,i3,i4,h.c6.suffix,h.c5.suffix,h.asc,fun x hx=>⟨(h.rg x hx).1,by have:=(h.rg x hx).2;omega⟩,h.vals,fun p hp=>?_⟩
  · rw [List.getLast?_append,hp];rfl
  · cases hh:(Q ++ D).head? with
    | none =>
      rw [List.head?_eq_none_iff] at hh
      have:D=[]:=(List.append_eq_nil_iff.1 hh).2
      subst this;cases hp
    | some q =>
      have:=i5 p hp q hh
      have:=h.cap q hh
      omega
theorem Sv.far {g w k c now:Int} {P:List Nat} {I:List It} (h:Sv g w k c now P I):ch3 (fun a b=>(k+1) * agP g I b<k * agP g I a) P:=ch3.imp (fun a _ b _ hab=>by have:=of_decide_eq_false hab;omega) h.c5
/-- The answer: from, to. -/
def askP (g now w:Int) (I:List It):List Nat→Int × Int
  | []=>(0,0)
  | a :: R=>if now - w<(I.getD a (0,0)).1 then (agP g I a,agP g I a) else match R with
    | []=>(0,0)
    | b :: _=>if b=a+1 then (agP g I b,agP g I b) else (agP g I b,agP g I a)
/-- The aggregate of the live items lies between the bounds, which are narrow. -/
theorem Sv.truth {g w k c now:Int} {P:List Nat} {I:List It} (h:Sv g w k c now P I):(askP g now w I P).1≤agZ g ((I.filter (fun x=>decide (now - w<x.1))).map (fun x=>x.2))∧agZ g ((I.filter (fun x=>decide (now - w<x.1))).map (fun x=>x.2))≤(askP g now w I P).2∧k * ((askP g now w I P).2 - (askP g now w I P).1)≤(askP g now w I P).1∧0≤(askP g now w I P).1:=by
  obtain ⟨l,a1,a2,a3,a4⟩:=live_from (now - w) h.asc
  rw [a2]
  show (askP g now w I P).1≤agP g I l∧agP g I l≤(askP g now w I P).2∧_∧_
  have hn:=agP_nn h.g1 h.vals
  cases P with
  | nil =>
    have hl:l=I.length:=by
      rcases Nat.eq_or_lt_of_le a1 with e | e
      · exact e
      · have:=a4 l (Nat.le_refl _) e;have:=h.none_ rfl l e;omega
    have e0:agP g I l=0:=by
      rw [hl]
      unfold agP vlF
      rw [List.drop_length]
      have:=h.g1
      have:g=1∨g=2∨g=3∨g=4:=by omega
      rcases this with rfl | rfl | rfl | rfl <;> rfl
    rw [e0]
    exact ⟨Int.le_refl _,Int.le_refl _,by simp [askP],Int.le_refl _⟩
  | cons a R =>
    have ha:=h.lt a List.mem_cons_self
    simp only [askP]
    by_cases hx:now - w<(I.getD a (0,0)).1
    · rw [if_pos hx]
      have hl:l=a:=by
        rcases Nat.lt_trichotomy l a with e | e | e
        · have:=h.old a rfl l e;have:=a4 l (Nat.le_refl _) (by omega);omega
        · exact e
        · have:=a3 a e;omega
      rw [hl]
      exact ⟨Int.le_refl _,Int.le_refl _,by rw [Int.sub_self,Int.mul_zero];exact hn a,hn a⟩
    · rw [if_neg hx]
      cases R with
      | nil=>exact absurd (h.one a rfl) hx
      | cons b R =>
        have hb:=h.live b (by simp)
        have hbl:=h.lt b (by simp)
        have hla:a<l:=by
          rcases Nat.lt_or_ge a l with e | e
          · exact e
          · have:=a4 a e ha;omega
        have hlb:l≤b:=by
          rcases Nat.lt_or_ge b l with e | e
          · have:=a3 b e;omega
          · exact e
        simp only
        by_cases hs:b=a+1
        · rw [if_pos hs]
          have hl:l=b:=by omega
          rw [hl]
          exact ⟨Int.le_refl _,Int.le_refl _,by rw [Int.sub_self,Int.mul_zero];exact hn b,hn b⟩
        · rw [if_neg hs]
          have h6:=h.c6.1
          refine ⟨agP_mono h.g1 h.vals hlb,agP_mono h.g1 h.vals (by omega),?_,hn b⟩
          rcases h6 with e | e
          · exact absurd e hs
          · rw [Int.add_mul,Int.one_mul] at e;simp only;rw [Int.mul_sub];omega
end Go.Proofs.YtafkoddgefcpnaaGreat

namespace Go.Proofs.YtafkoddgefcpnaaGreat

theorem chn.at {α:Type} {r:α→α→Prop} (d:α):∀ {P:List α},chn r P→∀ j,j+1<P.length→r (P.getD j d) (P.getD (j+1) d):=by
  intro P
  induction P with
  | nil=>intro _ j hj;exact absurd hj (Nat.not_lt_zero _)
  | cons a P ih =>
    intro h j hj
    cases P with
    | nil=>simp at hj
    | cons b P =>
      cases j with
      | zero=>exact h.1
      | succ j=>exact ih h.2 j (by simp at hj ⊢;omega)
theorem ch3.at {α:Type} {r:α→α→Prop} (d:α):∀ {P:List α},ch3 r P→∀ j,j+2<P.length→r (P.getD j d) (P.getD (j+2) d):=by
  intro P
  induction P with
  | nil=>intro _ j hj;exact absurd hj (Nat.not_lt_zero _)
  | cons a P ih =>
    intro h j hj
    cases P with
    | nil=>simp at hj
    | cons b P =>
      cases P with
      | nil=>simp only [List.length_cons,List.length_nil] at hj;omega
      | cons c P =>
        cases j with
        | zero=>exact h.1
        | succ j=>exact ih h.2 j (by simp at hj ⊢;omega)
/-- Conditions 5 and 6 of chapter 13. -/
theorem Sv.farAt {g w k c now:Int} {P:List Nat} {I:List It} (h:Sv g w k c now P I) {j:Nat} (hj:j<P.length) (h0:1<j):(k+1) * ofZ g ((P.map (mrkA I)).getD j mk0)<k * ofZ g ((P.map (mrkA I)).getD (j - 2) mk0):=by
  have e:=getD_map (I:=I) hj
  have hp:=h.lt _ (getD_in hj)
  have e2:=getD_map (I:=I) (P:=P) (j:=j - 2) (by omega)
  have hp2:=h.lt _ (getD_in (P:=P) (j:=j - 2) (by omega))
  rw [e,e2,ofZ_mrkA h.g1 h.vals hp,ofZ_mrkA h.g1 h.vals hp2]
  have:=h.far.at 0 (j - 2) (by omega)
  rwa [show j - 2+2=j by omega] at this
theorem Sv.nearAt {g w k c now:Int} {P:List Nat} {I:List It} (h:Sv g w k c now P I) {j:Nat} (hj:j<P.length) (h0:0<j) (h1:((P.map (mrkA I)).getD (j - 1) mk0).sq+1<((P.map (mrkA I)).getD j mk0).sq):k * ofZ g ((P.map (mrkA I)).getD (j - 1) mk0)≤(k+1) * ofZ g ((P.map (mrkA I)).getD j mk0):=by
  have e:=getD_map (I:=I) hj
  have hp:=h.lt _ (getD_in hj)
  have e1:=getD_map (I:=I) (P:=P) (j:=j - 1) (by omega)
  have hp2:=h.lt _ (getD_in (P:=P) (j:=j - 1) (by omega))
  rw [e,e1] at h1
  rw [e,e1,ofZ_mrkA h.g1 h.vals hp,ofZ_mrkA h.g1 h.vals hp2]
  have h2:=h.c6.at 0 (j - 1) (by omega)
  rw [show j - 1+1=j by omega] at h2
  rcases h2 with g1 | g1
  · have h1:((P.getD (j - 1) 0:Nat):Int)+1+1<((P.getD j 0:Nat):Int)+1:=h1
    omega
  · exact g1
end Go.Proofs.YtafkoddgefcpnaaGreat

namespace Go.Proofs.YtafkoddgefcpnaaGreat

/-- The last step, on the aggregates alone. -/
theorem later_end {k b n d UD WB WBC TD G M:Int} (hk:1≤k) (hb:1≤b) (eM:M=6 * k - 1)
    (s1:M * d≤b) (s3:M * (M * UD)≤6 * k * (b * WB)) (s4:n * n * WB+G * G≤b * (n * WBC)) (s5:b * b * TD≤2 * (n * n * UD)+2 * (d * (G * G))) (wB:0≤n * n * WB):k * TD≤n * WBC:=by
  have hM:5≤M:=by omega
  have gg:=sq_nn G
  have nn:=sq_nn n
  -- each term against the same
  have t1:M * M * (2 * (n * n * UD))≤12 * k * (b * (n * n * WB)):=by
    have h:=Int.mul_le_mul_of_nonneg_left s3 (show 0≤2 * (n * n) by omega)
    have e1:2 * (n * n) * (M * (M * UD))=M * M * (2 * (n * n * UD)):=by grind
    have e2:2 * (n * n) * (6 * k * (b * WB))=12 * k * (b * (n * n * WB)):=by grind
    rw [e1,e2] at h;exact h
  have t2:M * M * (2 * (d * (G * G)))≤2 * M * (b * (G * G)):=by
    have h:=Int.mul_le_mul_of_nonneg_left s1 (Int.mul_nonneg (show 0≤2 * M by omega) gg)
    have e1:2 * M * (G * G) * (M * d)=M * M * (2 * (d * (G * G))):=by grind
    have e2:2 * M * (G * G) * b=2 * M * (b * (G * G)):=by grind
    rw [e1,e2] at h;exact h
  have t3:M * M * (b * b * TD)≤12 * k * (b * (n * n * WB))+2 * M * (b * (G * G)):=by
    have h:=Int.mul_le_mul_of_nonneg_left s5 (Int.mul_nonneg (show 0≤M by omega) (show 0≤M by omega))
    rw [Int.mul_add] at h
    omega
  have c1:k * (12 * k)≤M * M:=by
    have h:=Int.mul_le_mul_of_nonneg_left hk (show 0≤24 * k by omega)
    have e:M * M=36 * (k * k) - 12 * k+1:=by subst eM;grind
    have e2:k * (12 * k)=12 * (k * k):=by grind
    have e3:24 * k * k=24 * (k * k):=by grind
    omega
  have c2:k * (2 * M)≤M * M:=by
    have e:k * (2 * M)=2 * k * M:=by grind
    rw [e];exact Int.mul_le_mul_of_nonneg_right (by omega) (by omega)
  have bW:0≤b * (n * n * WB):=Int.mul_nonneg (by omega) wB
  have bG:0≤b * (G * G):=Int.mul_nonneg (by omega) gg
  have u1:=Int.mul_le_mul_of_nonneg_right c1 bW
  have u2:=Int.mul_le_mul_of_nonneg_right c2 bG
  have u3:=Int.mul_le_mul_of_nonneg_left t3 (show 0≤k by omega)
  have u4:=Int.mul_le_mul_of_nonneg_left s4 (show 0≤M * M * b from Int.mul_nonneg (Int.mul_nonneg (by omega) (by omega)) (by omega))
  have f1:k * (12 * k * (b * (n * n * WB))+2 * M * (b * (G * G)))=k * (12 * k) * (b * (n * n * WB))+k * (2 * M) * (b * (G * G)):=by grind
  have f2:M * M * b * (n * n * WB+G * G)=M * M * (b * (n * n * WB))+M * M * (b * (G * G)):=by grind
  have f3:k * (M * M * (b * b * TD))=M * M * (b * b) * (k * TD):=by grind
  have f4:M * M * b * (b * (n * WBC))=M * M * (b * b) * (n * WBC):=by grind
  rw [f1,f3] at u3
  rw [f2,f4] at u4
  refine Int.le_of_mul_le_mul_left (a:=M * M * (b * b)) (by omega) ?_
  exact Int.mul_pos (Int.mul_pos (by omega) (by omega)) (Int.mul_pos (by omega) (by omega))
/-- The core, on numbers, sums and sums of squares of three lists D, B, C. -/
theorem later_core {k d b c sD sB sC qD qB qC:Int} (hk:1≤k) (hd:0≤d) (hb:1≤b) (hc:0≤c)
    (uD:0≤b * b * qD - 2 * b * sB * sD+d * (sB * sB))
    (vD:0≤(b+c) * b * ((b+c) * b) * qD - 2 * ((b+c) * b) * (2 * ((b+c) * sB) - b * (sB+sC)) * sD+d * ((2 * ((b+c) * sB) - b * (sB+sC)) * (2 * ((b+c) * sB) - b * (sB+sC))))
    (wD:sD * sD≤d * qD) (wB:sB * sB≤b * qB)
    (tC:0≤(b+c) * (b+c) * qC - 2 * (b+c) * (sB+sC) * sC+c * ((sB+sC) * (sB+sC)))
    (h1:(6 * k - 1) * (d+b)≤6 * k * b)
    (h2:(6 * k - 1) * (b * ((d+b) * (qD+qB) - (sD+sB) * (sD+sB)))≤6 * k * ((d+b) * (b * qB - sB * sB))) :
    k * (((d+b+c) * (qD+qB+qC) - (sD+sB+sC) * (sD+sB+sC)) * (b+c))≤(k+1) * (((b+c) * (qB+qC) - (sB+sC) * (sB+sC)) * (d+b+c)):=by
  obtain ⟨n,en⟩:∃ n,n=b+c:=⟨_,rfl⟩
  obtain ⟨S,eS⟩:∃ S,S=sB+sC:=⟨_,rfl⟩
  obtain ⟨M,eM⟩:∃ M,M=6 * k - 1:=⟨_,rfl⟩
  obtain ⟨UD,eU⟩:∃ U,U=b * b * qD - 2 * b * sB * sD+d * (sB * sB):=⟨_,rfl⟩
  obtain ⟨WB,eW⟩:∃ W,W=b * qB - sB * sB:=⟨_,rfl⟩
  obtain ⟨WA,eA⟩:∃ W,W=(d+b) * (qD+qB) - (sD+sB) * (sD+sB):=⟨_,rfl⟩
  obtain ⟨WBC,eB⟩:∃ W,W=n * (qB+qC) - S * S:=⟨_,rfl⟩
  obtain ⟨TD,eT⟩:∃ T,T=n * n * qD - 2 * n * S * sD+d * (S * S):=⟨_,rfl⟩
  obtain ⟨G,eG⟩:∃ G,G=n * sB - b * S:=⟨_,rfl⟩
  have hM:5≤M:=by omega
  have hW:0≤WB:=by omega
  have hU:0≤UD:=by rw [eU];exact uD
  -- closeness
  have p1:b * b * WA=(d+b) * (b * WB+UD) - (b * sD - d * sB) * (b * sD - d * sB):=by subst eA eW eU;grind
  have p2:d * UD - (b * sD - d * sB) * (b * sD - d * sB)=b * b * (d * qD - sD * sD):=by subst eU;grind
  have p3:0≤b * b * (d * qD - sD * sD):=Int.mul_nonneg (Int.mul_nonneg (by omega) (by omega)) (by omega)
  have p4:b * ((d+b) * WB+UD)≤b * (b * WA):=by
    have e1:b * ((d+b) * WB+UD)=(d+b) * (b * WB)+b * UD:=by grind
    have e2:b * (b * WA)=b * b * WA:=by grind
    have e3:(d+b) * (b * WB+UD)=(d+b) * (b * WB)+(d * UD+b * UD):=by grind
    rw [e1,e2,p1,e3]
    omega
  have p5:(d+b) * WB+UD≤b * WA:=Int.le_of_mul_le_mul_left p4 (by omega)
  have p6:M * UD≤(d+b) * WB:=by
    have h:=Int.mul_le_mul_of_nonneg_left p5 (show 0≤M by omega)
    rw [← eA,← eW,← eM] at h2
    have e1:M * ((d+b) * WB+UD)=M * ((d+b) * WB)+M * UD:=Int.mul_add _ _ _
    have e2:6 * k * ((d+b) * WB)=M * ((d+b) * WB)+(d+b) * WB:=by subst eM;grind
    omega
  have s1:M * d≤b:=by
    rw [← eM] at h1
    have e1:M * (d+b)=M * d+M * b:=Int.mul_add _ _ _
    have e2:6 * k * b=M * b+b:=by subst eM;grind
    omega
  have s3:M * (M * UD)≤6 * k * (b * WB):=by
    have h:=Int.mul_le_mul_of_nonneg_left p6 (show 0≤M by omega)
    have h':=Int.mul_le_mul_of_nonneg_right h1 hW
    rw [← eM] at h'
    have e1:M * (d+b) * WB=M * ((d+b) * WB):=Int.mul_assoc _ _ _
    have e2:6 * k * b * WB=6 * k * (b * WB):=Int.mul_assoc _ _ _
    omega
  have s4:n * n * WB+G * G≤b * (n * WBC):=by
    have e1:b * (n * n * qB - 2 * n * S * sB+b * (S * S))=n * n * WB+G * G:=by subst eW eG;grind
    have e2:(n * n * qB - 2 * n * S * sB+b * (S * S))+(n * n * qC - 2 * n * S * sC+c * (S * S))=n * WBC:=by subst eB eS en;grind
    rw [← en,← eS] at tC
    have h:=Int.mul_nonneg (show 0≤b by omega) tC
    have e3:=Int.mul_add b (n * n * qB - 2 * n * S * sB+b * (S * S)) (n * n * qC - 2 * n * S * sC+c * (S * S))
    rw [← e1,← e2]
    omega
  have s5:b * b * TD≤2 * (n * n * UD)+2 * (d * (G * G)):=by
    have e1:2 * (n * n * UD)+2 * (d * (G * G)) - b * b * TD=n * b * (n * b) * qD - 2 * (n * b) * (2 * (n * sB) - b * S) * sD+d * ((2 * (n * sB) - b * S) * (2 * (n * sB) - b * S)):=by subst eU eG eT;grind
    rw [← en,← eS] at vD
    omega
  have key:=later_end hk hb eM s1 s3 s4 s5 (Int.mul_nonneg (sq_nn n) hW)
  have hn:0<n:=by omega
  refine Int.le_of_mul_le_mul_left (a:=n) ?_ hn
  have i1:n * n * ((d+b+c) * (qD+qB+qC) - (sD+sB+sC) * (sD+sB+sC))=(d+n) * (n * WBC+TD) - (n * sD - d * S) * (n * sD - d * S):=by subst eB eT eS en;grind
  have i2:=sq_nn (n * sD - d * S)
  have i3:k * (n * n * ((d+b+c) * (qD+qB+qC) - (sD+sB+sC) * (sD+sB+sC)))≤k * ((d+n) * (n * WBC+TD)):=Int.mul_le_mul_of_nonneg_left (by omega) (by omega)
  have i4:(d+n) * (k * TD)≤(d+n) * (n * WBC):=Int.mul_le_mul_of_nonneg_left key (by omega)
  have i5:k * ((d+n) * (n * WBC+TD))=k * ((d+n) * (n * WBC))+(d+n) * (k * TD):=by grind
  have i6:n * (k * (((d+b+c) * (qD+qB+qC) - (sD+sB+sC) * (sD+sB+sC)) * (b+c)))=k * (n * n * ((d+b+c) * (qD+qB+qC) - (sD+sB+sC) * (sD+sB+sC))):=by rw [← en];generalize (d+b+c) * (qD+qB+qC) - (sD+sB+sC) * (sD+sB+sC)=z;grind
  have i7:n * ((k+1) * (((b+c) * (qB+qC) - (sB+sC) * (sB+sC)) * (d+b+c)))=k * ((d+n) * (n * WBC))+(d+n) * (n * WBC):=by rw [← en,← eS,← eB,show d+b+c=d+n by omega];grind
  rw [i6,i7]
  omega
/-- A suffix that is close stays within the k-th part of its spread, whatever items follow. -/
theorem spW_later {k:Int} {D B:List Int} (C:List Int) (hk:1≤k) (hB:B ≠ []) (h:clW k (D ++ B) B):k * (((B ++ C).length:Int) * spW (D ++ B ++ C))≤(k+1) * (((D ++ B ++ C).length:Int) * spW (B ++ C)):=by
  have hb:1≤(B.length:Int):=by have:=List.length_pos_iff.2 hB;omega
  obtain ⟨h1,h2⟩:=h
  have uD:=dist_nn B.length (suL B) D
  have vD:=dist_nn (((B.length:Int)+C.length) * B.length) (2 * (((B.length:Int)+C.length) * suL B) - B.length * (suL B+suL C)) D
  have tC:=dist_nn ((B.length:Int)+C.length) (suL B+suL C) C
  have wD:=cauchy D
  have wB:=cauchy B
  unfold spW at h2 ⊢
  simp only [List.length_append,sqL_app,suL_app,Int.natCast_add] at h1 h2 ⊢
  have:=later_core (k:=k) (d:=D.length) (b:=B.length) (c:=C.length) (sD:=suL D) (sB:=suL B) (sC:=suL C) (qD:=sqL D) (qB:=sqL B) (qC:=sqL C) hk (Int.natCast_nonneg _) hb (Int.natCast_nonneg _) uD vD wD wB tC h1 h2
  exact Int.le_trans (Int.le_of_eq (congrArg (fun z=>k * z) (Int.mul_comm _ _))) (Int.le_trans this (Int.le_of_eq (congrArg (fun z=>(k+1) * z) (Int.mul_comm _ _))))
end Go.Proofs.YtafkoddgefcpnaaGreat

namespace Go.Proofs.YtafkoddgefcpnaaGreat

theorem vlF_app (I J:List It) {p:Nat} (h:p≤I.length):vlF (I ++ J) p=vlF I p ++ J.map (fun x=>x.2):=by
  unfold vlF
  rw [List.drop_append_of_le_length h,List.map_append]
theorem Ss.add {w k c now v:Int} {P:List Nat} {I:List It} {n:Nat} (h:Ss w k c now P I) (h0:0≤now) (hv:valG 4 v) (hc:∀ p,P.head?=some p→(I.length:Int) - p<c) (hn:P.length+1≤n):Ss w k c now (prL (clS k (I ++ [(now,v)])) n (P ++ [I.length])) (I ++ [(now,v)]):=by
  have hl:∀ a,a ∈ P ++ [I.length]→a<(I ++ [(now,v)]).length:=fun a ha=>by
    rw [List.length_append,List.length_singleton]
    rcases List.mem_append.1 ha with g | g
    · have:=h.lt a g;omega
    · simp only [List.mem_singleton] at g;omega
  exact SnM.add h h0 hv hc hn (fun a b ha hb hab=>Or.inr ⟨_,[],by rw [List.append_nil],hl a ha,hl b hb,of_decide_eq_true hab⟩) (fun a=>Or.inl rfl) (fun a b _ _ hab=>by
    rcases hab with e | ⟨I0,J,e,h1,h2,h3⟩
    · exact Or.inl e
    · exact Or.inr ⟨I0,J ++ [(now,v)],by rw [e,List.append_assoc],h1,h2,h3⟩)
/-- Neighbours: the spread of the longer one exceeds that of the shorter one by at most its k-th part, unless they are adjacent. -/
theorem nrS_near {k:Int} {I:List It} {a b:Nat} (hk:1≤k) (hab:a<b) (h:nrS k I a b):b=a+1∨k * (((vlF I b).length:Int) * wP I a)≤(k+1) * (((vlF I a).length:Int) * wP I b):=by
  rcases h with e | ⟨I0,J,rfl,h1,h2,h3⟩
  · exact Or.inl e
  · refine Or.inr ?_
    unfold wP
    rw [vlF_app I0 J (by omega),vlF_app I0 J (by omega)]
    rw [vlF_split I0 (Nat.le_of_lt hab)] at h3 ⊢
    exact spW_later _ hk (vlF_ne h2) h3
/-- The answer: from, to, as places whose spread is meant (the place behind all items has the spread 0). -/
def askS (now w:Int) (I:List It):List Nat→Nat × Nat
  | []=>(I.length,I.length)
  | a :: R=>if now - w<(I.getD a (0,0)).1 then (a,a) else match R with
    | []=>(I.length,I.length)
    | b :: _=>if b=a+1 then (b,b) else (b,a)
/-- The live items are those from a place on whose spread lies between the bounds, which are narrow. -/
theorem Ss.truth {w k c now:Int} {P:List Nat} {I:List It} (h:Ss w k c now P I) (hk:1≤k):∃ l,l≤I.length∧I.filter (fun x=>decide (now - w<x.1))=I.drop l∧(askS now w I P).2≤l∧l≤(askS now w I P).1∧((askS now w I P).1=(askS now w I P).2∨(askS now w I P).1<I.length) ∧
    k * (((vlF I (askS now w I P).1).length:Int) * wP I (askS now w I P).2)≤(k+1) * (((vlF I (askS now w I P).2).length:Int) * wP I (askS now w I P).1):=by
  have same:∀ p,k * (((vlF I p).length:Int) * wP I p)≤(k+1) * (((vlF I p).length:Int) * wP I p):=fun p=>by
    have:=Int.mul_nonneg (Int.natCast_nonneg (vlF I p).length) (spW_nn (vlF I p))
    unfold wP
    rw [Int.add_mul,Int.one_mul];omega
  obtain ⟨l,a1,a2,a3,a4⟩:=live_from (now - w) h.asc
  refine ⟨l,a1,a2,?_⟩
  cases P with
  | nil =>
    have hl:l=I.length:=by
      rcases Nat.eq_or_lt_of_le a1 with e | e
      · exact e
      · have:=a4 l (Nat.le_refl _) e;have:=h.none_ rfl l e;omega
    exact ⟨by simp only [askS];omega,by simp only [askS];omega,Or.inl rfl,same _⟩
  | cons a R =>
    have ha:=h.lt a List.mem_cons_self
    simp only [askS]
    by_cases hx:now - w<(I.getD a (0,0)).1
    · rw [if_pos hx]
      have hl:l=a:=by
        rcases Nat.lt_trichotomy l a with e | e | e
        · have:=h.old a rfl l e;have:=a4 l (Nat.le_refl _) (by omega);omega
        · exact e
        · have:=a3 a e;omega
      exact ⟨by simp only;omega,by simp only;omega,Or.inl rfl,same _⟩
    · rw [if_neg hx]
      cases R with
      | nil=>exact absurd (h.one a rfl) hx
      | cons b R =>
        have hb:=h.live b (by simp)
        have hbl:=h.lt b (by simp)
        have hla:a<l:=by
          rcases Nat.lt_or_ge a l with e | e
          · exact e
          · have:=a4 a e ha;omega
        have hlb:l≤b:=by
          rcases Nat.lt_or_ge b l with e | e
          · have:=a3 b e;omega
          · exact e
        simp only
        by_cases hs:b=a+1
        · rw [if_pos hs]
          exact ⟨by simp only;omega,hlb,Or.inl rfl,same _⟩
        · rw [if_neg hs]
          refine ⟨Nat.le_of_lt hla,hlb,Or.inr hbl,?_⟩
          rcases nrS_near hk (by omega) h.c6.1 with e | e
          · exact absurd e hs
          · exact e
end Go.Proofs.YtafkoddgefcpnaaGreat
