/- Texts of these claims, one after the other. -/
import Derived.Test.YtafkoddgefcpnaaGreatRows
import Derived.Test.YtafkoddgefcpnaaGreatZHMathq20
namespace Go.Proofs.YtafkoddgefcpnaaGreat

/-- A mark: number and tick of its first item; number, sum, sum of squares, least and greatest of the values from it on. -/
structure Mrk where
  sq:Int
  t:Int
  n:Int
  s:Int
  q:Int
  lo:Int
  hi:Int
def incM (v:Int) (m:Mrk):Mrk:=⟨m.sq,m.t,m.n+1,m.s+v,m.q+v * v,min m.lo v,max m.hi v⟩
def oneM (sq t v:Int):Mrk:=⟨sq,t,1,v,v * v,v,v⟩
/-- The values from a place on; the mark of a place. -/
def vlF (I:List It) (p:Nat):List Int:=(I.drop p).map (fun x=>x.2)
def mrkA (I:List It) (p:Nat):Mrk:=⟨(p:Int)+1,(I.getD p (0,0)).1,((vlF I p).length:Int),suL (vlF I p),sqL (vlF I p),mnL (vlF I p),mxL (vlF I p)⟩
def agP (g:Int) (I:List It) (p:Nat):Int:=agZ g (vlF I p)
theorem vlF_len (I:List It) (p:Nat):(vlF I p).length=I.length - p:=by unfold vlF;rw [List.length_map,List.length_drop]
theorem vlF_ne {I:List It} {p:Nat} (h:p<I.length):vlF I p ≠ []:=by
  intro e
  have:=congrArg List.length e
  rw [vlF_len,List.length_nil] at this
  omega
theorem vlF_push (I:List It) (t v:Int) {p:Nat} (h:p≤I.length):vlF (I ++ [(t,v)]) p=vlF I p ++ [v]:=by
  unfold vlF
  rw [List.drop_append_of_le_length h,List.map_append]
  rfl
theorem vlF_split (I:List It) {p q:Nat} (h:p≤q):vlF I p=((I.drop p).take (q - p)).map (fun x=>x.2) ++ vlF I q:=by
  unfold vlF
  rw [← List.map_append]
  congr 1
  have:=List.take_append_drop (q - p) (I.drop p)
  rw [List.drop_drop,show p+(q - p)=q by omega] at this
  exact this.symm
theorem vlF_val {g:Int} {I:List It} (h:∀ x ∈ I,valG g x.2) (p:Nat):∀ y ∈ vlF I p,valG g y:=by
  intro y hy
  obtain ⟨x,hx,rfl⟩:=List.mem_map.1 hy
  exact h x (List.mem_of_mem_drop hx)
theorem agP_mono {g:Int} {I:List It} (hg:1≤g∧g≤4) (h:∀ x ∈ I,valG g x.2) {p q:Nat} (hpq:p≤q):agP g I q≤agP g I p:=by
  unfold agP
  have h2:=vlF_val h p
  rw [vlF_split I hpq] at h2 ⊢
  exact ag_mono hg h2
theorem agP_nn {g:Int} {I:List It} (hg:1≤g∧g≤4) (h:∀ x ∈ I,valG g x.2) (p:Nat):0≤agP g I p:=ag_nn hg (vlF_val h p)
/-- What is close stays close. -/
theorem agP_close {g k t v:Int} {I:List It} (hg:1≤g∧g≤4) (hk:1≤k) (h:∀ x ∈ I,valG g x.2) (hv:valG g v) {p q:Nat} (hp:p<I.length) (hq:q<I.length) (hc:k * agP g I p≤(k+1) * agP g I q):k * agP g (I ++ [(t,v)]) p≤(k+1) * agP g (I ++ [(t,v)]) q:=by
  have h':∀ x ∈ I ++ [(t,v)],valG g x.2:=by
    intro x hx
    rcases List.mem_append.1 hx with hx | hx
    · exact h x hx
    · simp only [List.mem_singleton] at hx;subst hx;exact hv
  rcases Nat.le_total p q with hpq | hpq
  · unfold agP at hc ⊢
    rw [vlF_push I t v (by omega),vlF_push I t v (by omega)]
    have h2:=vlF_val h p
    rw [vlF_split I hpq] at hc h2 ⊢
    exact ag_close hg hk (vlF_ne hq) h2 hv hc
  · have h1:=agP_mono hg h' hpq
    have h2:=agP_nn hg h' q
    have h3:k * agP g (I ++ [(t,v)]) p≤k * agP g (I ++ [(t,v)]) q:=Int.mul_le_mul_of_nonneg_left h1 (by omega)
    rw [Int.add_mul,Int.one_mul];omega
/-- Ticks ascend. -/
theorem asc_le {I:List It} (h:I.Pairwise (fun x y=>x.1≤y.1)) {i j:Nat} (hij:i≤j) (hj:j<I.length):(I.getD i (0,0)).1≤(I.getD j (0,0)).1:=by
  rw [List.getD_eq_getElem?_getD,List.getD_eq_getElem?_getD,List.getElem?_eq_getElem hj,List.getElem?_eq_getElem (by omega:i<I.length)]
  rcases Nat.eq_or_lt_of_le hij with e | e
  · subst e;exact Int.le_refl _
  · exact List.pairwise_iff_getElem.1 h i j (by omega) hj e
end Go.Proofs.YtafkoddgefcpnaaGreat

namespace Go.Proofs.YtafkoddgefcpnaaGreat

/-- Places P are the marks of the items I, at the tick now, for windows of w ticks: neighbours are near, and no mark is close to its second successor. -/
structure SnM (nr:List It→Nat→Nat→Prop) (cl:List It→Nat→Nat→Bool) (g w c now:Int) (P:List Nat) (I:List It):Prop where
  g1:1≤g∧g≤4
  w1:1≤w
  c1:1≤c
  up:P.Pairwise (fun a b=>a<b)
  lt:∀ p ∈ P,p<I.length
  last:∀ p,P.getLast?=some p→p+1=I.length
  none_:P=[]→∀ i,i<I.length→(I.getD i (0,0)).1≤now - w
  old:∀ p,P.head?=some p→∀ i,i<p→(I.getD i (0,0)).1≤now - w
  live:∀ p ∈ P.tail,now - w<(I.getD p (0,0)).1
  one:∀ p,P=[p]→now - w<(I.getD p (0,0)).1
  c6:chn (nr I) P
  c5:ch3 (fun a b=>cl I a b=false) P
  asc:I.Pairwise (fun x y=>x.1≤y.1)
  rg:∀ x ∈ I,0≤x.1∧x.1≤now
  vals:∀ x ∈ I,valG g x.2
  cap:∀ p,P.head?=some p→(I.length:Int) - p≤c
theorem chn.suffix {α:Type} {r:α→α→Prop} {R:List α}:∀ {Q:List α},chn r (Q ++ R)→chn r R:=by
  intro Q
  induction Q with
  | nil=>exact fun h=>h
  | cons q Q ih=>exact fun h=>ih h.tail
theorem ch3.suffix {α:Type} {r:α→α→Prop} {R:List α}:∀ {Q:List α},ch3 r (Q ++ R)→ch3 r R:=by
  intro Q
  induction Q with
  | nil=>exact fun h=>h
  | cons q Q ih=>exact fun h=>ih h.tail
theorem SnM.add {nr:List It→Nat→Nat→Prop} {cl:List It→Nat→Nat→Bool} {g w c now v:Int} {P:List Nat} {I:List It} {n:Nat} (h:SnM nr cl g w c now P I) (h0:0≤now) (hv:valG g v) (hc:∀ p,P.head?=some p→(I.length:Int) - p<c) (hn:P.length+1≤n)
    (ncl:∀ a b,a ∈ P ++ [I.length]→b ∈ P ++ [I.length]→cl (I ++ [(now,v)]) a b=true→nr (I ++ [(now,v)]) a b) (nadj:∀ a,nr (I ++ [(now,v)]) a (a+1)) (nst:∀ a b,a ∈ P→b ∈ P→nr I a b→nr (I ++ [(now,v)]) a b) :
    SnM nr cl g w c now (prL (cl (I ++ [(now,v)])) n (P ++ [I.length])) (I ++ [(now,v)]):=by
  have hI:∀ {i:Nat},i<I.length→(I ++ [(now,v)]).getD i (0,0)=I.getD i (0,0):=fun hi=>by
    rw [List.getD_eq_getElem?_getD,List.getD_eq_getElem?_getD,List.getElem?_append_left hi]
  have hnew:(I ++ [(now,v)]).getD I.length (0,0)=(now,v):=by
    rw [List.getD_eq_getElem?_getD,List.getElem?_append_right (Nat.le_refl _)];simp
  have hlen:(I ++ [(now,v)]).length=I.length+1:=by rw [List.length_append,List.length_singleton]
  have hv':∀ x ∈ I ++ [(now,v)],valG g x.2:=by
    intro x hx
    rcases List.mem_append.1 hx with hx | hx
    · exact h.vals x hx
    · simp only [List.mem_singleton] at hx;subst hx;exact hv
  have hup:(P ++ [I.length]).Pairwise (fun a b=>a<b):=by
    rw [List.pairwise_append]
    refine ⟨h.up,List.pairwise_singleton _ _,fun a ha b hb=>?_⟩
    simp only [List.mem_singleton] at hb
    subst hb
    exact h.lt a ha
  have hlt:∀ p ∈ P ++ [I.length],p<I.length+1:=by
    intro p hp
    rcases List.mem_append.1 hp with hp | hp
    · have:=h.lt p hp;omega
    · simp only [List.mem_singleton] at hp;omega
  have hsub:=prL_sub (cl (I ++ [(now,v)])) n (P ++ [I.length])
  have hlast:=prL_last (cl (I ++ [(now,v)])) n (P ++ [I.length])
  have hl2:(P ++ [I.length]).getLast?=some I.length:=by rw [List.getLast?_append];rfl
  rw [hl2] at hlast
  have h6:=prL_chn (cl (I ++ [(now,v)])) (nr (I ++ [(now,v)])) (P ++ [I.length]) ncl n (P ++ [I.length]) (fun x hx=>hx) (by
    refine chn.push (chn.imp (fun a ha b hb hab=>nst a b ha hb hab) h.c6) (fun a ha=>?_)
    rw [← h.last a ha]
    exact nadj a)
  have h5':=prL_ch3 (cl (I ++ [(now,v)])) n (P ++ [I.length]) (by rw [List.length_append,List.length_singleton];exact hn)
  -- the first one stays
  have hhead:∃ p T,prL (cl (I ++ [(now,v)])) n (P ++ [I.length])=p :: T∧(P ++ [I.length]).head?=some p∧(∀ x ∈ T,x ∈ (P ++ [I.length]).tail):=by
    cases P with
    | nil =>
      obtain ⟨T,e,hT⟩:=prL_head (cl (I ++ [(now,v)])) n I.length []
      exact ⟨_,T,e,rfl,hT⟩
    | cons a R =>
      obtain ⟨T,e,hT⟩:=prL_head (cl (I ++ [(now,v)])) n a (R ++ [I.length])
      exact ⟨a,T,e,rfl,hT⟩
  obtain ⟨p,T,eD,hp,hT⟩:=hhead
  have hw:=h.w1
  have hlive:∀ x ∈ (P ++ [I.length]).tail,now - w<((I ++ [(now,v)]).getD x (0,0)).1:=by
    intro x hx
    cases P with
    | nil=>cases hx
    | cons a R =>
      rcases List.mem_append.1 hx with g1 | g1
      · rw [hI (h.lt x (List.mem_cons_of_mem _ g1))];exact h.live x g1
      · simp only [List.mem_singleton] at g1;subst g1;rw [hnew];show now - w<now;omega
  generalize prL (cl (I ++ [(now,v)])) n (P ++ [I.length])=D at *
  subst eD
  refine ⟨h.g1,h.w1,h.c1,hup.sublist hsub,fun q hq=>by rw [hlen];exact hlt q (hsub.subset hq),fun q hq=>?_,fun e=>(by cases e),fun q hq i hi=>?_,fun q hq=>hlive q (hT q hq),fun q hq=>?_,h6,h5',?_,?_,hv',fun q hq=>?_⟩
  · rw [hlast] at hq;injection hq with e;omega
  · injection hq with e
    subst e
    cases P with
    | nil =>
      injection hp with e
      subst e
      rw [hI hi]
      exact h.none_ rfl i hi
    | cons a R =>
      injection hp with e
      subst e
      rw [hI (by have:=h.lt a List.mem_cons_self;omega)]
      exact h.old a rfl i hi
  · injection hq with e1 e2
    subst e1 e2
    injection hlast with e
    subst e
    rw [hnew];show now - w<now;omega
  · rw [List.pairwise_append]
    refine ⟨h.asc,List.pairwise_singleton _ _,fun a ha b hb=>?_⟩
    simp only [List.mem_singleton] at hb
    subst hb
    exact (h.rg a ha).2
  · intro x hx
    rcases List.mem_append.1 hx with hx | hx
    · exact h.rg x hx
    · simp only [List.mem_singleton] at hx;subst hx;exact ⟨h0,Int.le_refl _⟩
  · injection hq with e
    subst e
    rw [hlen]
    cases P with
    | nil =>
      injection hp with e
      have:=h.c1
      omega
    | cons a R =>
      injection hp with e
      subst e
      have:=hc a rfl
      omega
/-- Are two marks close; neighbours: adjacent by number, or close. -/
def clP (g k:Int) (I:List It) (a b:Nat):Bool:=decide (k * agP g I a≤(k+1) * agP g I b)
def nrP (g k:Int) (I:List It) (a b:Nat):Prop:=b=a+1∨k * agP g I a≤(k+1) * agP g I b
/-- The state of chapter 13. -/
abbrev Sv (g w k c now:Int) (P:List Nat) (I:List It):Prop:=SnM (nrP g k) (clP g k) g w c now P I
theorem Sv.add {g w k c now v:Int} {P:List Nat} {I:List It} {n:Nat} (h:Sv g w k c now P I) (hk:1≤k) (h0:0≤now) (hv:valG g v) (hc:∀ p,P.head?=some p→(I.length:Int) - p<c) (hn:P.length+1≤n):Sv g w k c now (prL (clP g k (I ++ [(now,v)])) n (P ++ [I.length])) (I ++ [(now,v)]) :=
  SnM.add h h0 hv hc hn (fun a b _ _ hab=>Or.inr (of_decide_eq_true hab)) (fun a=>Or.inl rfl) (fun a b ha hb hab=>by
    rcases hab with e | e
    · exact Or.inl e
    · exact Or.inr (agP_close h.g1 hk h.vals hv (h.lt a ha) (h.lt b hb) e))
theorem bern (k:Nat):∀ j:Nat,(k+j) * k ^ j≤k * (k+1) ^ j:=by
  intro j
  induction j with
  | zero=>simp
  | succ j ih =>
    have h1:(k+1) * ((k+j) * k ^ j)≤(k+1) * (k * (k+1) ^ j):=Nat.mul_le_mul_left _ ih
    have e1:k * (k+1) ^ (j+1)=(k+1) * (k * (k+1) ^ j):=by rw [Nat.pow_succ];ac_rfl
    have e2:(k+(j+1)) * k ^ (j+1)=((k+(j+1)) * k) * k ^ j:=by rw [Nat.pow_succ];ac_rfl
    have e3:(k+1) * ((k+j) * k ^ j)=((k+1) * (k+j)) * k ^ j:=by ac_rfl
    rw [e1,e2]
    refine Nat.le_trans (Nat.mul_le_mul_right _ ?_) (e3 ▸ h1)
    have g1:(k+(j+1)) * k=k * k+(j * k+k):=by rw [Nat.add_mul,Nat.add_mul,Nat.one_mul]
    have g2:(k+1) * (k+j)=k * k+j * k+(k+j):=by rw [Nat.add_mul,Nat.mul_add,Nat.one_mul,Nat.mul_comm k j]
    omega
theorem double_pow {k:Nat} (hk:0<k):2 * k ^ k≤(k+1) ^ k:=by
  have h:=bern k k
  have e:(k+k) * k ^ k=k * (2 * k ^ k):=by rw [← Nat.two_mul];ac_rfl
  rw [e] at h
  exact Nat.le_of_mul_le_mul_left h hk
theorem ch3.drop {α:Type} {r:α→α→Prop} {P:List α} (n:Nat) (h:ch3 r P):ch3 r (P.drop n):=by
  rw [← List.take_append_drop n P] at h
  exact h.suffix
theorem jump {α:Type} (f:α→Int) (k:Nat):∀ (j:Nat) (P:List α),ch3 (fun a b=>((k:Int)+1) * f b<k * f a) P→∀ a b,P.head?=some a→(P.drop (2 * j)).head?=some b→(((k+1) ^ j:Nat):Int) * f b≤((k ^ j:Nat):Int) * f a:=by
  intro j
  induction j with
  | zero =>
    intro P _ a b ha hb
    rw [Nat.mul_zero,List.drop_zero,ha] at hb
    injection hb with e
    subst e
    simp
  | succ j ih =>
    intro P hc a b ha hb
    cases P with
    | nil=>cases ha
    | cons x P =>
      injection ha with e
      subst e
      cases P with
      | nil=>rw [show 2 * (j+1)=(2 * j+1)+1 by omega,List.drop_succ_cons,List.drop_nil] at hb;cases hb
      | cons y P =>
        rw [show 2 * (j+1)=(2 * j+1)+1 by omega,List.drop_succ_cons,List.drop_succ_cons] at hb
        cases P with
        | nil=>rw [List.drop_nil] at hb;cases hb
        | cons z P =>
          have h1:=ih (z :: P) hc.2.tail z b rfl hb
          have h2:((k:Int)+1) * f z<k * f x:=hc.1
          have h3:((k:Int)+1) * ((((k+1) ^ j:Nat):Int) * f b)≤((k:Int)+1) * (((k ^ j:Nat):Int) * f z):=Int.mul_le_mul_of_nonneg_left h1 (by omega)
          have h4:((k ^ j:Nat):Int) * (((k:Int)+1) * f z)≤((k ^ j:Nat):Int) * (k * f x):=Int.mul_le_mul_of_nonneg_left (Int.le_of_lt h2) (Int.natCast_nonneg _)
          have e1:(((k+1) ^ (j+1):Nat):Int) * f b=((k:Int)+1) * ((((k+1) ^ j:Nat):Int) * f b):=by
            rw [Nat.pow_succ,Int.natCast_mul,Int.natCast_add];simp only [Int.natCast_one];ac_rfl
          have e2:((k ^ (j+1):Nat):Int) * f x=((k ^ j:Nat):Int) * (k * f x):=by
            rw [Nat.pow_succ,Int.natCast_mul];ac_rfl
          have e3:((k:Int)+1) * (((k ^ j:Nat):Int) * f z)=((k ^ j:Nat):Int) * (((k:Int)+1) * f z):=by ac_rfl
          rw [e1,e2]
          rw [e3] at h3
          exact Int.le_trans h3 h4
/-- The number of marks. -/
theorem few_ch3 {α:Type} (f:α→Int) {k:Nat} (hk:0<k):∀ (B:Nat) (P:List α),ch3 (fun a b=>((k:Int)+1) * f b<k * f a) P→(∀ p ∈ P,0≤f p)→(∀ a,P.head?=some a→f a<((2 ^ B:Nat):Int))→P.length≤2 * k * B+2:=by
  intro B
  induction B with
  | zero =>
    intro P hc hn hf
    cases P with
    | nil=>exact Nat.zero_le _
    | cons a P =>
      cases P with
      | nil=>simp
      | cons b P =>
        cases P with
        | nil=>simp
        | cons c P =>
          have h1:((k:Int)+1) * f c<k * f a:=hc.1
          have h2:f a<1:=hf a rfl
          have h3:=hn a List.mem_cons_self
          have h4:=hn c (by simp)
          have e:f a=0:=by omega
          rw [e,Int.mul_zero] at h1
          have:=Int.mul_nonneg (show (0:Int)≤(k:Int)+1 by omega) h4
          omega
  | succ B ih =>
    intro P hc hn hf
    by_cases hl:P.length≤2 * k
    · have:2 * k * (B+1)=2 * k * B+2 * k:=by rw [Nat.mul_add,Nat.mul_one]
      omega
    · have h1:=ih (P.drop (2 * k)) (hc.drop _) (fun p hp=>hn p (List.mem_of_mem_drop hp)) (fun b hb=>by
        cases ha:P.head? with
        | none=>rw [List.head?_eq_none_iff] at ha;subst ha;simp at hl
        | some a =>
          have h2:=jump f k k P hc a b ha hb
          have h3:=double_pow hk
          have hb0:0≤f b:=hn b (List.mem_of_mem_drop (List.mem_of_mem_head? hb))
          have h4:((2 * k ^ k:Nat):Int) * f b≤(((k+1) ^ k:Nat):Int) * f b:=Int.mul_le_mul_of_nonneg_right (by omega) hb0
          have h5:((k ^ k:Nat):Int) * (2 * f b)≤((k ^ k:Nat):Int) * f a:=by
            have e:((2 * k ^ k:Nat):Int) * f b=((k ^ k:Nat):Int) * (2 * f b):=by rw [Int.natCast_mul];simp only [Int.cast_ofNat_Int];ac_rfl
            rw [e] at h4
            exact Int.le_trans h4 h2
          have h6:(0:Int)<((k ^ k:Nat):Int):=by have:=Nat.pow_pos (n:=k) hk;omega
          have h7:2 * f b≤f a:=Int.le_of_mul_le_mul_left h5 h6
          have h8:=hf a ha
          rw [Nat.pow_succ,Int.natCast_mul] at h8
          have:((2:Nat):Int)=2:=rfl
          rw [this] at h8
          omega)
      rw [List.length_drop] at h1
      have:2 * k * (B+1)=2 * k * B+2 * k:=by rw [Nat.mul_add,Nat.mul_one]
      omega
end Go.Proofs.YtafkoddgefcpnaaGreat

namespace Go.Proofs.YtafkoddgefcpnaaGreat

def mk0:Mrk:=⟨0,0,0,0,0,0,0⟩
/-- n items with the sum s and the sum of squares q may have values from lo to hi. -/
def prtP (n s q lo hi:Int):Prop:=n * lo≤s∧s≤n * hi∧0≤q∧q≤n * 4096 * 4096∧s * s≤n * q
/-- What chapter 13 asks of the mark at place j (conditions 1 to 4). -/
structure OkB (g w c now seq:Int) (X:List Mrk) (j:Nat):Prop where
  sq1:1≤(X.getD j mk0).sq
  sq2:(X.getD j mk0).sq≤seq
  num:(X.getD j mk0).n=seq - (X.getD j mk0).sq+1
  few:(X.getD j mk0).n≤c
  asc:0<j→(X.getD (j - 1) mk0).sq<(X.getD j mk0).sq
  tk:0≤(X.getD j mk0).t∧(X.getD j mk0).t≤now
  tasc:0<j→(X.getD (j - 1) mk0).t≤(X.getD j mk0).t
  live:0<j∨X.length=1→now - w<(X.getD j mk0).t
  lo:valG g (X.getD j mk0).lo
  hi:valG g (X.getD j mk0).hi
  lohi:(X.getD j mk0).lo≤(X.getD j mk0).hi
  prt:prtP (X.getD j mk0).n (X.getD j mk0).s (X.getD j mk0).q (X.getD j mk0).lo (X.getD j mk0).hi
  last:j+1=X.length→(X.getD j mk0).sq=seq∧(X.getD j mk0).lo=(X.getD j mk0).s∧(X.getD j mk0).hi=(X.getD j mk0).s∧(X.getD j mk0).q=(X.getD j mk0).s * (X.getD j mk0).s
  nlo:0<j→(X.getD (j - 1) mk0).lo≤(X.getD j mk0).lo
  nhi:0<j→(X.getD j mk0).hi≤(X.getD (j - 1) mk0).hi
  nprt:0<j→prtP ((X.getD (j - 1) mk0).n - (X.getD j mk0).n) ((X.getD (j - 1) mk0).s - (X.getD j mk0).s) ((X.getD (j - 1) mk0).q - (X.getD j mk0).q) (X.getD (j - 1) mk0).lo (X.getD (j - 1) mk0).hi
theorem getD_map {I:List It} {P:List Nat} {j:Nat} (h:j<P.length):(P.map (mrkA I)).getD j mk0=mrkA I (P.getD j 0):=by
  rw [List.getD_eq_getElem?_getD,List.getElem?_map,List.getD_eq_getElem?_getD,List.getElem?_eq_getElem h];rfl
theorem getD_in {P:List Nat} {j:Nat} (h:j<P.length):P.getD j 0 ∈ P:=by
  rw [List.getD_eq_getElem?_getD,List.getElem?_eq_getElem h];exact List.getElem_mem h
theorem prt_of {g:Int} {A:List Int} {lo hi:Int} (h:∀ x ∈ A,valG g x) (h1:∀ x ∈ A,lo≤x∧x≤hi):prtP A.length (suL A) (sqL A) lo hi:=by
  refine ⟨suL_ge (fun x hx=>(h1 x hx).1),suL_le (fun x hx=>(h1 x hx).2),sqL_nn A,?_,cauchy A⟩
  have:=sqL_le (A:=A) (m:=4096) (fun x hx=>⟨(h x hx).1,(h x hx).2.1⟩)
  omega
theorem SnM.ok {nr:List It→Nat→Nat→Prop} {cl:List It→Nat→Nat→Bool} {g w c now:Int} {P:List Nat} {I:List It} (h:SnM nr cl g w c now P I) {j:Nat} (hj:j<P.length):OkB g w c now I.length (P.map (mrkA I)) j:=by
  have e:=getD_map (I:=I) hj
  have hp:=h.lt _ (getD_in hj)
  have hprev:0<j→(P.map (mrkA I)).getD (j - 1) mk0=mrkA I (P.getD (j - 1) 0)∧P.getD (j - 1) 0<P.getD j 0:=fun h0=>by
    refine ⟨getD_map (by omega),?_⟩
    rw [List.getD_eq_getElem?_getD,List.getD_eq_getElem?_getD,List.getElem?_eq_getElem hj,List.getElem?_eq_getElem (by omega:j - 1<P.length)]
    exact List.pairwise_iff_getElem.1 h.up (j - 1) j (by omega) hj (by omega)
  have hlen:((vlF I (P.getD j 0)).length:Int)=I.length - P.getD j 0:=by rw [vlF_len];omega
  have hmem:I.getD (P.getD j 0) (0,0) ∈ I:=by
    rw [List.getD_eq_getElem?_getD,List.getElem?_eq_getElem hp];exact List.getElem_mem hp
  have hlow:(P.getD 0 0)≤P.getD j 0:=by
    rcases Nat.eq_zero_or_pos j with e0 | e0
    · subst e0;exact Nat.le_refl _
    · rw [List.getD_eq_getElem?_getD,List.getD_eq_getElem?_getD,List.getElem?_eq_getElem hj,List.getElem?_eq_getElem (by omega:0<P.length)]
      exact Nat.le_of_lt (List.pairwise_iff_getElem.1 h.up 0 j (by omega) hj e0)
  have hcap:=h.cap (P.getD 0 0) (by
    cases P with
    | nil=>exact absurd hj (Nat.not_lt_zero _)
    | cons a P=>rfl)
  have hlive:0<j∨P.length=1→now - w<(I.getD (P.getD j 0) (0,0)).1:=by
    intro h0
    cases P with
    | nil=>exact absurd hj (Nat.not_lt_zero _)
    | cons a P =>
      cases j with
      | zero =>
        have:P=[]:=by
          rcases h0 with h0 | h0
          · exact absurd h0 (Nat.lt_irrefl _)
          · rw [List.length_cons] at h0;exact List.length_eq_zero_iff.1 (by omega)
        subst this
        exact h.one a rfl
      | succ j =>
        refine h.live _ ?_
        show P.getD j 0 ∈ P
        exact getD_in (by rw [List.length_cons] at hj;omega)
  have hV:=vlF_val h.vals (P.getD j 0)
  have hne:=vlF_ne hp
  have hlast:j+1=P.length→(P.getD j 0)+1=I.length:=fun h0=>h.last _ (by
    rw [List.getLast?_eq_getElem?,List.getD_eq_getElem?_getD,List.getElem?_eq_getElem hj,show P.length - 1=j by omega,List.getElem?_eq_getElem hj];rfl)
  have hmid:0<j→∃ D:List Int,vlF I (P.getD (j - 1) 0)=D ++ vlF I (P.getD j 0):=fun h0=>⟨_,vlF_split I (Nat.le_of_lt (hprev h0).2)⟩
  constructor
  · rw [e];show 1≤((P.getD j 0:Nat):Int)+1;omega
  · rw [e];show ((P.getD j 0:Nat):Int)+1≤I.length;omega
  · rw [e];show ((vlF I (P.getD j 0)).length:Int)=I.length - (((P.getD j 0:Nat):Int)+1)+1;omega
  · rw [e];show ((vlF I (P.getD j 0)).length:Int)≤c;omega
  · intro h0;obtain ⟨e1,e2⟩:=hprev h0;rw [e,e1];show ((P.getD (j - 1) 0:Nat):Int)+1<((P.getD j 0:Nat):Int)+1;omega
  · rw [e];exact h.rg _ hmem
  · intro h0;obtain ⟨e1,e2⟩:=hprev h0;rw [e,e1];exact asc_le h.asc (Nat.le_of_lt e2) hp
  · rw [List.length_map,e];exact hlive
  · rw [e];exact hV _ (mnL_mem hne)
  · rw [e];exact hV _ (mxL_mem hne)
  · rw [e];exact mn_le_mx hne
  · rw [e];exact prt_of hV (fun x hx=>⟨mnL_le hx,le_mxL hx⟩)
  · rw [List.length_map,e]
    intro h0
    have h1:=hlast h0
    have h2:(vlF I (P.getD j 0)).length=1:=by rw [vlF_len];omega
    obtain ⟨v,hv⟩:=List.length_eq_one_iff.1 h2
    refine ⟨?_,?_,?_,?_⟩
    · show ((P.getD j 0:Nat):Int)+1=I.length;omega
    · show mnL (vlF I (P.getD j 0))=suL (vlF I (P.getD j 0));rw [hv];simp [mnL,suL]
    · show mxL (vlF I (P.getD j 0))=suL (vlF I (P.getD j 0));rw [hv];simp [mxL,suL]
    · show sqL (vlF I (P.getD j 0))=suL (vlF I (P.getD j 0)) * suL (vlF I (P.getD j 0));rw [hv];simp [sqL,suL]
  · intro h0;obtain ⟨e1,e2⟩:=hprev h0;obtain ⟨D,eD⟩:=hmid h0;rw [e,e1];show mnL (vlF I (P.getD (j - 1) 0))≤mnL (vlF I (P.getD j 0));rw [eD];exact mnL_app hne
  · intro h0;obtain ⟨e1,e2⟩:=hprev h0;obtain ⟨D,eD⟩:=hmid h0;rw [e,e1];show mxL (vlF I (P.getD j 0))≤mxL (vlF I (P.getD (j - 1) 0));rw [eD];exact mxL_app hne
  · intro h0
    obtain ⟨e1,e2⟩:=hprev h0
    obtain ⟨D,eD⟩:=hmid h0
    have hV2:=vlF_val h.vals (P.getD (j - 1) 0)
    have hb:∀ x ∈ D,mnL (vlF I (P.getD (j - 1) 0))≤x∧x≤mxL (vlF I (P.getD (j - 1) 0)):=fun x hx=>by
      have hx2:x ∈ vlF I (P.getD (j - 1) 0):=by rw [eD];exact List.mem_append_left _ hx
      exact ⟨mnL_le hx2,le_mxL hx2⟩
    have h1:=prt_of (g:=g) (fun x hx=>hV2 x (by rw [eD];exact List.mem_append_left _ hx)) hb
    rw [e,e1]
    show prtP (((vlF I (P.getD (j - 1) 0)).length:Int) - ((vlF I (P.getD j 0)).length:Int)) (suL (vlF I (P.getD (j - 1) 0)) - suL (vlF I (P.getD j 0))) (sqL (vlF I (P.getD (j - 1) 0)) - sqL (vlF I (P.getD j 0))) (mnL (vlF I (P.getD (j - 1) 0))) (mxL (vlF I (P.getD (j - 1) 0)))
    have g1:((vlF I (P.getD (j - 1) 0)).length:Int) - ((vlF I (P.getD j 0)).length:Int)=D.length:=by rw [eD,List.length_append];omega
    have g2:suL (vlF I (P.getD (j - 1) 0)) - suL (vlF I (P.getD j 0))=suL D:=by rw [eD,suL_app];omega
    have g3:sqL (vlF I (P.getD (j - 1) 0)) - sqL (vlF I (P.getD j 0))=sqL D:=by rw [eD,sqL_app];omega
    rw [g1,g2,g3]
    exact h1
end Go.Proofs.YtafkoddgefcpnaaGreat

namespace Go.Proofs.YtafkoddgefcpnaaGreat

/-- The number times the spread. -/
def spW (A:List Int):Int:=(A.length:Int) * sqL A - suL A * suL A
theorem spW_nn (A:List Int):0≤spW A:=by have:=cauchy A;unfold spW;omega
/-- Squared distances, times n n, from S / n. -/
theorem dist_eq (n S:Int):∀ A:List Int,sqL (A.map (fun x=>n * x - S))=n * n * sqL A - 2 * n * S * suL A+(A.length:Int) * (S * S):=by
  intro A
  induction A with
  | nil=>simp [sqL,suL]
  | cons x A ih =>
    simp only [List.map_cons,sqL,suL,ih,List.length_cons]
    have e:((A.length+1:Nat):Int)=(A.length:Int)+1:=by omega
    rw [e]
    grind
theorem dist_nn (n S:Int) (A:List Int):0≤n * n * sqL A - 2 * n * S * suL A+(A.length:Int) * (S * S):=by
  rw [← dist_eq];exact sqL_nn _
/-- Is B close to A ++ B? (by numbers and spreads) -/
def clW (k:Int) (A B:List Int):Prop:=(6 * k - 1) * (A.length:Int)≤6 * k * B.length∧(6 * k - 1) * ((B.length:Int) * spW A)≤6 * k * ((A.length:Int) * spW B)
/-- The spread of a suffix is not greater. -/
theorem spW_suffix (D B:List Int):((D ++ B).length:Int) * spW B≤(B.length:Int) * spW (D ++ B):=by
  by_cases hB:B=[]
  · subst hB;simp [spW,sqL,suL]
  have hb:1≤(B.length:Int):=by have:=List.length_pos_iff.2 hB;omega
  have uD:=dist_nn B.length (suL B) D
  have wD:=cauchy D
  have hd:0≤(D.length:Int):=Int.natCast_nonneg _
  unfold spW
  rw [List.length_append,sqL_app,suL_app]
  rw [show ((D.length+B.length:Nat):Int)=(D.length:Int)+B.length by omega]
  generalize (D.length:Int)=d at *
  generalize (B.length:Int)=b at *
  generalize suL D=sD at *
  generalize suL B=sB at *
  generalize sqL D=qD at *
  generalize sqL B=qB at *
  obtain ⟨UD,eU⟩:∃ U,U=b * b * qD - 2 * b * sB * sD+d * (sB * sB):=⟨_,rfl⟩
  rw [← eU] at uD
  have p1:b * b * ((d+b) * (qD+qB) - (sD+sB) * (sD+sB))=(d+b) * (b * (b * qB - sB * sB)+UD) - (b * sD - d * sB) * (b * sD - d * sB):=by subst eU;grind
  have p2:d * UD - (b * sD - d * sB) * (b * sD - d * sB)=b * b * (d * qD - sD * sD):=by subst eU;grind
  have p3:0≤b * b * (d * qD - sD * sD):=Int.mul_nonneg (Int.mul_nonneg (by omega) (by omega)) (by omega)
  have p4:0≤b * UD:=Int.mul_nonneg (by omega) uD
  refine Int.le_of_mul_le_mul_left (a:=b) ?_ (by omega)
  have e1:b * ((d+b) * (b * qB - sB * sB))=(d+b) * (b * (b * qB - sB * sB)):=by grind
  have e2:b * (b * ((d+b) * (qD+qB) - (sD+sB) * (sD+sB)))=b * b * ((d+b) * (qD+qB) - (sD+sB) * (sD+sB)):=by grind
  have e3:(d+b) * (b * (b * qB - sB * sB)+UD)=(d+b) * (b * (b * qB - sB * sB))+(d * UD+b * UD):=by grind
  rw [e1,e2,p1,e3]
  omega
end Go.Proofs.YtafkoddgefcpnaaGreat

namespace Go.Proofs.YtafkoddgefcpnaaGreat

instance (k:Int) (A B:List Int):Decidable (clW k A B):=by unfold clW;infer_instance
/-- Are two marks close; neighbours: adjacent by number, or once close. -/
def clS (k:Int) (I:List It) (a b:Nat):Bool:=decide (clW k (vlF I a) (vlF I b))
def nrS (k:Int) (I:List It) (a b:Nat):Prop:=b=a+1∨∃ I0 J,I=I0 ++ J∧a<I0.length∧b<I0.length∧clW k (vlF I0 a) (vlF I0 b)
/-- The state of chapter 14. -/
abbrev Ss (w k c now:Int) (P:List Nat) (I:List It):Prop:=SnM (nrS k) (clS k) 4 w c now P I
/-- The spread from a place on, times the number. -/
def wP (I:List It) (p:Nat):Int:=spW (vlF I p)
/-- The spread of a suffix is not greater. -/
theorem wP_mono (I:List It) {a b:Nat} (h:a≤b):((vlF I a).length:Int) * wP I b≤((vlF I b).length:Int) * wP I a:=by
  unfold wP
  rw [vlF_split I h]
  exact spW_suffix _ _
theorem ch3.and {α:Type} {r s:α→α→Prop}:∀ {P:List α},P.Pairwise s→ch3 r P→ch3 (fun a b=>r a b∧s a b) P:=by
  intro P
  induction P with
  | nil=>intro _ _;trivial
  | cons a P ih =>
    intro hp h
    cases P with
    | nil=>trivial
    | cons b P =>
      cases P with
      | nil=>trivial
      | cons c P=>exact ⟨⟨h.1,(List.pairwise_cons.1 hp).1 c (by simp)⟩,ih (List.pairwise_cons.1 hp).2 h.2⟩
theorem ch3.prefix_ {α:Type} {r:α→α→Prop}:∀ {P Q:List α},ch3 r (P ++ Q)→ch3 r P:=by
  intro P
  induction P with
  | nil=>intro _ _;trivial
  | cons a P ih =>
    intro Q h
    cases P with
    | nil=>trivial
    | cons b P =>
      cases P with
      | nil=>trivial
      | cons c P=>exact ⟨h.1,ih h.2⟩
theorem wP_anti {I:List It} {a b:Nat} (h:a≤b) (ha:a<I.length):wP I b≤wP I a:=by
  have h1:=wP_mono I h
  have h2:((vlF I b).length:Int)≤(vlF I a).length:=by rw [vlF_len,vlF_len];omega
  have h3:=Int.mul_le_mul_of_nonneg_right h2 (spW_nn (vlF I a))
  have h4:0<((vlF I a).length:Int):=by rw [vlF_len];omega
  exact Int.le_of_mul_le_mul_left (Int.le_trans h1 h3) h4
/-- What is not close has much smaller a spread, or number. -/
theorem not_clW {k:Int} {I:List It} {a b:Nat} (hk:1≤k) (hab:a<b) (ha:a<I.length) (h:clS k I a b=false):(0<wP I a→6 * k * wP I b<(6 * k - 1) * wP I a)∧(wP I a=0→6 * k * ((vlF I b).length:Int)<(6 * k - 1) * ((vlF I a).length:Int)):=by
  have hn:=of_decide_eq_false h
  unfold clW at hn
  have h1:=wP_mono I (Nat.le_of_lt hab)
  have h5:=wP_anti (I:=I) (Nat.le_of_lt hab) ha
  have h2:((vlF I b).length:Int)≤(vlF I a).length:=by rw [vlF_len,vlF_len];omega
  have h4:0<((vlF I a).length:Int):=by rw [vlF_len];omega
  have h6:0≤wP I b:=spW_nn _
  have h7:0≤((vlF I b).length:Int):=Int.natCast_nonneg _
  unfold wP at *
  generalize spW (vlF I a)=wa at *
  generalize spW (vlF I b)=wb at *
  generalize ((vlF I a).length:Int)=na at *
  generalize ((vlF I b).length:Int)=nb at *
  constructor
  · intro h0
    refine Int.lt_of_mul_lt_mul_left (a:=na) ?_ (by omega)
    have e1:na * (6 * k * wb)=6 * k * (na * wb):=by ac_rfl
    have e2:na * ((6 * k - 1) * wa)=(6 * k - 1) * na * wa:=by ac_rfl
    rw [e1,e2]
    by_cases g:(6 * k - 1) * na≤6 * k * nb
    · have g2:¬ (6 * k - 1) * (nb * wa)≤6 * k * (na * wb):=fun hh=>hn ⟨g,hh⟩
      have g3:(6 * k - 1) * (nb * wa)≤(6 * k - 1) * na * wa:=by
        rw [Int.mul_assoc]
        exact Int.mul_le_mul_of_nonneg_left (Int.mul_le_mul_of_nonneg_right h2 (by omega)) (by omega)
      omega
    · have g2:6 * k * (na * wb)≤6 * k * (nb * wa):=Int.mul_le_mul_of_nonneg_left h1 (by omega)
      have g3:6 * k * nb * wa<(6 * k - 1) * na * wa:=Int.mul_lt_mul_of_pos_right (by omega) h0
      have g4:6 * k * (nb * wa)=6 * k * nb * wa:=by ac_rfl
      omega
  · intro h0
    subst h0
    have e:wb=0:=by omega
    subst e
    have:¬ (6 * k - 1) * na≤6 * k * nb:=fun hh=>hn ⟨hh,by simp⟩
    omega
theorem drop_zero (I:List It):∀ {P:List Nat},P.Pairwise (fun a b=>a<b)→(∀ p ∈ P,p<I.length)→∀ p ∈ P.dropWhile (fun p=>decide (0<wP I p)),wP I p=0:=by
  intro P
  induction P with
  | nil=>intro _ _ p hp;cases hp
  | cons a P ih =>
    intro hu hl p hp
    rw [List.dropWhile_cons] at hp
    split at hp
    · exact ih (List.pairwise_cons.1 hu).2 (fun q hq=>hl q (List.mem_cons_of_mem _ hq)) p hp
    next g =>
      have g0:¬ 0<wP I a:=by simpa using g
      have h0:0≤wP I p:=spW_nn _
      rcases List.mem_cons.1 hp with rfl | hp
      · omega
      · have:=wP_anti (I:=I) (Nat.le_of_lt ((List.pairwise_cons.1 hu).1 p hp)) (hl a List.mem_cons_self)
        omega
theorem take_pos {I:List It}:∀ {P:List Nat} {p:Nat},p ∈ P.takeWhile (fun p=>decide (0<wP I p))→0<wP I p:=by
  intro P
  induction P with
  | nil=>intro p hp;cases hp
  | cons a P ih =>
    intro p hp
    rw [List.takeWhile_cons] at hp
    split at hp
    next g =>
      rcases List.mem_cons.1 hp with rfl | hp
      · exact of_decide_eq_true g
      · exact ih hp
    · cases hp
/-- The number of marks. -/
theorem Ss.few {w c now:Int} {k:Nat} {P:List Nat} {I:List It} {B1 B2:Nat} (h:Ss w k c now P I) (hk:1≤k) (h1:∀ p ∈ P,wP I p<((2 ^ B1:Nat):Int)) (h2:∀ p ∈ P,((vlF I p).length:Int)<((2 ^ B2:Nat):Int)):P.length≤2 * (6 * k - 1) * (B1+B2)+4:=by
  have h5:=ch3.and h.up h.c5
  have e:=List.takeWhile_append_dropWhile (p:=fun p=>decide (0<wP I p)) (l:=P)
  have hz:=drop_zero I h.up h.lt
  have ht:∀ p ∈ P.takeWhile (fun p=>decide (0<wP I p)),0<wP I p:=fun p hp=>by
    exact take_pos hp
  rw [← e] at h5
  have ek:(((6 * k - 1:Nat):Int))=6 * (k:Int) - 1:=by omega
  have hl1:∀ p ∈ P.takeWhile (fun p=>decide (0<wP I p)),p ∈ P:=fun p hp=>(List.takeWhile_sublist _).subset hp
  have hl2:∀ p ∈ P.dropWhile (fun p=>decide (0<wP I p)),p ∈ P:=fun p hp=>(List.dropWhile_sublist _).subset hp
  have f1:=few_ch3 (wP I) (k:=6 * k - 1) (by omega) B1 (P.takeWhile (fun p=>decide (0<wP I p))) (ch3.imp (fun a ha b hb hab=>by
    rw [ek,show (6 * (k:Int) - 1)+1=6 * (k:Int) by omega]
    exact (not_clW (by omega) hab.2 (h.lt a (hl1 a ha)) hab.1).1 (ht a ha)) h5.prefix_) (fun p _=>spW_nn _) (fun p hp=>h1 p (hl1 p (List.mem_of_mem_head? hp)))
  have f2:=few_ch3 (fun p=>((vlF I p).length:Int)) (k:=6 * k - 1) (by omega) B2 (P.dropWhile (fun p=>decide (0<wP I p))) (ch3.imp (fun a ha b hb hab=>by
    rw [ek,show (6 * (k:Int) - 1)+1=6 * (k:Int) by omega]
    exact (not_clW (by omega) hab.2 (h.lt a (hl2 a ha)) hab.1).2 (hz a ha)) h5.suffix) (fun p _=>Int.natCast_nonneg _) (fun p hp=>h2 p (hl2 p (List.mem_of_mem_head? hp)))
  have e3:=congrArg List.length e
  rw [List.length_append] at e3
  have:2 * (6 * k - 1) * (B1+B2)=2 * (6 * k - 1) * B1+2 * (6 * k - 1) * B2:=Nat.mul_add _ _ _
  omega
end Go.Proofs.YtafkoddgefcpnaaGreat
