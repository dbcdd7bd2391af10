/- Texts of these claims, one after the other. -/
import Derived.Test.YtafkoddgefcpnaaGreatRows
import Derived.Test.YtafkoddgefcpnaaGreatZWFormatq9
namespace Go.Proofs.YtafkoddgefcpnaaGreat
open Go.RowKit

/-- Pairs of int64, and their cells. -/
abbrev It:=Int × Int
def fl:List It→List Value
  | []=>[]
  | p :: L=>.int .i64 p.1 :: .int .i64 p.2 :: fl L
theorem fl_get0 (L:List It) (k:Nat) (h:k<L.length):(fl L)[k * 2]?=some (.int .i64 (L[k]).1):=by
  induction L generalizing k with
  | nil=>simp at h
  | cons p L ih =>
    cases k with
    | zero=>rfl
    | succ k=>rw [show (k+1) * 2=k * 2+1+1 by omega];simpa [fl] using ih k (by simpa using h)
theorem fl_get1 (L:List It) (k:Nat) (h:k<L.length):(fl L)[k * 2+1]?=some (.int .i64 (L[k]).2):=by
  induction L generalizing k with
  | nil=>simp at h
  | cons p L ih =>
    cases k with
    | zero=>rfl
    | succ k=>rw [show (k+1) * 2+1=k * 2+1+1+1 by omega];simpa [fl] using ih k (by simpa using h)
theorem fl_drop (L:List It) (k:Nat):(fl L).drop (k * 2)=fl (L.drop k):=by
  induction L generalizing k with
  | nil=>simp [fl]
  | cons p L ih =>
    cases k with
    | zero=>rfl
    | succ k=>rw [show (k+1) * 2=k * 2+1+1 by omega];simpa [fl] using ih k
theorem fl_set (L:List It) (k:Nat) (p:It):((fl L).set (k * 2) (.int .i64 p.1)).set (k * 2+1) (.int .i64 p.2)=fl (L.set k p):=by
  induction L generalizing k with
  | nil=>simp [fl]
  | cons q L ih =>
    cases k with
    | zero=>rfl
    | succ k=>rw [show (k+1) * 2=k * 2+1+1 by omega];simpa [fl] using ih k

/-- A slice that reads as the list L. -/
def Sl (w:World) (A:Option Addr) (n:Nat) (L:List It):Prop :=
  L.length=n∧(0<n→∃ b o,A=some ⟨b,o,none⟩∧∀ j u,(fl L)[j]?=some u→w.cell? ⟨b,o+j,none⟩=some u)
theorem Sl.none_ {w:World} {A:Option Addr}:Sl w A 0 []:=⟨rfl,fun h=>absurd h (by omega)⟩
theorem Sl.at_ {w:World} {A:Option Addr} {n:Nat} {L:List It} (h:Sl w A n L) {k:Nat} (hk:k<n) :
    ∃ b o,A=some ⟨b,o,none⟩∧w.cell? ⟨b,o+k * 2,none⟩=some (.int .i64 (L.getD k (0,0)).1)∧w.cell? ⟨b,o+k * 2+1,none⟩=some (.int .i64 (L.getD k (0,0)).2):=by
  obtain ⟨b,o,e,hc⟩:=h.2 (by omega)
  have hl:k<L.length:=by rw [h.1];exact hk
  refine ⟨b,o,e,?_,?_⟩
  · rw [hc _ _ (fl_get0 L k hl)];simp [List.getD,hl]
  · rw [Nat.add_assoc,hc _ _ (fl_get1 L k hl)];simp [List.getD,hl]
theorem Sl.up {w w':World} {A:Option Addr} {n:Nat} {L:List It} (h:Sl w A n L) (hu:Up w w'):Sl w' A n L :=
  ⟨h.1,fun hn=>by
    obtain ⟨b,o,e,hc⟩:=h.2 hn
    exact ⟨b,o,e,fun j u hj=>hu.keep _ _ _ (hc j u hj)⟩⟩
/-- The cells s[k:], where A' is what the model makes of the address. -/
theorem Sl.cut {w:World} {A:Option Addr} {n:Nat} {L:List It} (h:Sl w A n L) {k cap:Nat} (hk:k≤n) (hc:n≤cap) :
    Sl w (if cap=k then A else A.map (·.add (k * 2))) (n - k) (L.drop k):=by
  refine ⟨by rw [List.length_drop,h.1],fun hn=>?_⟩
  obtain ⟨b,o,rfl,hcell⟩:=h.2 (by omega)
  rw [if_neg (by omega)]
  refine ⟨b,o+k * 2,by simp [add_at],fun j u hu=>?_⟩
  rw [Nat.add_assoc]
  exact hcell _ u (by rw [← fl_drop,List.getElem?_drop] at hu;exact hu)
/-- Block g is just the cells cs of element type t. -/
def Blk (w:World) (g:Nat) (t:TypeId) (cs:Array Value):Prop:=w.heap[g]?=some (.cells cs t (0,0))
section
variable {w w' : World} {g : Nat} {t : TypeId} {cs : Array Value}
theorem Blk.lt (h:Blk w g t cs):g<w.heap.size:=by
  rcases Nat.lt_or_ge g w.heap.size with hlt | hge
  · exact hlt
  · unfold Blk at h;rw [Array.getElem?_eq_none hge] at h;cases h
theorem Blk.cell (h:Blk w g t cs) (i:Nat):w.cell? ⟨g,i,none⟩=cs[i]?:=cell_of_row w g i cs t (0,0) h
theorem Blk.frozen (h:Blk w g t cs) (i:Nat):w.frozen? ⟨g,i,none⟩=false:=by
  unfold Blk at h
  simp [World.frozen?,h]
theorem Blk.new (w:World) (t:TypeId) (cs:Array Value):Blk (w.alloc (.cells cs t)) w.heap.size t cs:=heap_alloc_new w _
theorem Blk.drew (h:Blk w g t cs):Blk w.drew g t cs:=h
theorem Blk.drewN (h:Blk w g t cs) (n:Nat):Blk (w.drewN n) g t cs:=h
theorem Blk.alloc (h:Blk w g t cs) (o:Obj):Blk (w.alloc o) g t cs:=(Below.heap_alloc w o g h.lt).trans h
theorem Blk.set_ (h:Blk w g t cs) (i:Nat) (u:Value):Blk (w.setCell ⟨g,i,none⟩ u) g t (cs.setIfInBounds i u):=by
  unfold Blk at h ⊢
  simp [World.setCell,Array.getElem?_modify,h]
theorem Blk.far (h:Blk w g t cs) {p:Addr} (hp:g ≠ p.block) (u:Value):Blk (w.setCell p u) g t cs:=(Below.heap_setCell w p u g hp).trans h
theorem Blk.up (h:Blk w g t cs) (hu:Up w w'):Blk w' g t cs:=(hu.below.block g h.lt).trans h
end
/-- A block of items. -/
def Bi (w:World) (g:Nat) (L:List It):Prop:=Blk w g 45 (fl L).toArray
theorem Bi.up {w w':World} {g:Nat} {L:List It} (h:Bi w g L) (hu:Up w w'):Bi w' g L:=Blk.up h hu
theorem Bi.at_ {w:World} {g:Nat} {L:List It} (h:Bi w g L) {k:Nat} (hk:k<L.length) :
    w.cell? ⟨g,k * 2,none⟩=some (.int .i64 (L.getD k (0,0)).1)∧w.cell? ⟨g,k * 2+1,none⟩=some (.int .i64 (L.getD k (0,0)).2):=by
  refine ⟨?_,?_⟩
  · rw [Blk.cell h];simp [fl_get0 L k hk,List.getD,hk]
  · rw [Blk.cell h];simp [fl_get1 L k hk,List.getD,hk]
theorem Bi.set_ {w:World} {g:Nat} {L:List It} (h:Bi w g L) (k:Nat) (a b:Int) :
    Bi ((w.setCell ⟨g,k * 2,none⟩ (.int .i64 a)).setCell ⟨g,k * 2+1,none⟩ (.int .i64 b)) g (L.set k (a,b)):=by
  have h1:=Blk.set_ (Blk.set_ h (k * 2) (.int .i64 a)) (k * 2+1) (.int .i64 b)
  unfold Bi
  rw [← fl_set]
  simpa using h1

end Go.Proofs.YtafkoddgefcpnaaGreat

namespace Go.Proofs.YtafkoddgefcpnaaGreat
open Go.ChangeShapes Go.WideShapes Go.ChangeAt Go.RowKit Go.Joins Go.Deep

theorem laid_out:laidOutB Tryz.prog=true:=by kernel_rfl
section
variable {H : Type} {enc : TypeId × Value → H} {w : World} {base : Nat} {spare : Nat → Bool} {held : Bool}
theorem stay {t:TypeId} (hr:Tryz.prog.readableRec t=true) (hrow:t<Tryz.prog.types.size) {W W':World} {v:Value} {d:DataW H} {ps before:List MemPlace} {sp:Nat→Bool}
    (h:DataW.Trod enc Tryz.prog W 0 (fun _=>true) true t v d ps) (hu:Up W W') (hlt:∀ x ∈ before,x.block<W.heap.size) (hsub:∀ x ∈ ps,x ∈ before) (hsp:∀ x ∈ before,sp x.block=true) :
    DataW.Trod enc Tryz.prog W' 0 sp true t v d ps :=
  WideElems.Trod_stays laid_out hr hrow h (fun x hx=>hu.below.same (hlt x (hsub x hx))) (fun x hx=>hsp x (hsub x hx))
end
end Go.Proofs.YtafkoddgefcpnaaGreat

namespace Go.Proofs.YtafkoddgefcpnaaGreat
open Go.RowKit

/-- A number of three words as a value. -/
def w3 (v:Int):Value:=.agg #[.int .u64 (dg3 v 0),.int .u64 (dg3 v 1),.int .u64 (dg3 v 2)]

end Go.Proofs.YtafkoddgefcpnaaGreat

namespace Go.Proofs.YtafkoddgefcpnaaGreat
open Go.RowKit

/-- The cells that the walks of plus, minus and times hold. -/
structure Wp (w wr:World) (xs ys z:Nat→Int):Prop where
  up:Up w wr
  x:∀ i,i<3→wr.cell? ⟨w.heap.size,i,none⟩=some (.int .u64 (xs i))
  y:∀ i,i<3→wr.cell? ⟨w.heap.size+1,i,none⟩=some (.int .u64 (ys i))
  r:∀ i,i<3→wr.cell? ⟨w.heap.size+1+1,i,none⟩=some (.int .u64 0)
  z:∀ i,i<3→wr.cell? ⟨w.heap.size+1+1+1,i,none⟩=some (.int .u64 (z i))
theorem Wp.keep {w w1 w2:World} {xs ys z:Nat→Int} (h:Wp w w1 xs ys z) (hu:Up w1 w2):Wp w w2 xs ys z :=
  ⟨h.up.trans hu,fun i hi=>hu.keep _ _ _ (h.x i hi),fun i hi=>hu.keep _ _ _ (h.y i hi),fun i hi=>hu.keep _ _ _ (h.r i hi),fun i hi=>hu.keep _ _ _ (h.z i hi)⟩
theorem Wp.far {w w1:World} {g q:Nat} {v:Value} {xs ys z:Nat→Int} (h:Wp w w1 xs ys z) (hg:w.heap.size+1+1+1<g):Wp w (w1.setCell ⟨g,q,none⟩ v) xs ys z :=
  ⟨h.up.setCell (by show w.heap.size≤g;omega) _,fun i hi=>(cell_far (by show g ≠ _;omega)).trans (h.x i hi),fun i hi=>(cell_far (by show g ≠ _;omega)).trans (h.y i hi),fun i hi=>(cell_far (by show g ≠ _;omega)).trans (h.r i hi),fun i hi=>(cell_far (by show g ≠ _;omega)).trans (h.z i hi)⟩
theorem Wp.set {w w1:World} {m:Nat} {t:Int} {xs ys z:Nat→Int} (h:Wp w w1 xs ys z):Wp w (w1.setCell ⟨w.heap.size+1+1+1,m,none⟩ (.int .u64 t)) xs ys (updz z m t) :=
  ⟨h.up.setCell (by show w.heap.size ≤ w.heap.size + 1 + 1 + 1; omega) _, fun i hi => (cell_far (by show w.heap.size + 1 + 1 + 1 ≠ _; omega)).trans (h.x i hi), fun i hi => (cell_far (by show w.heap.size + 1 + 1 + 1 ≠ _; omega)).trans (h.y i hi),
   fun i hi=>(cell_far (by show w.heap.size+1+1+1 ≠ _;omega)).trans (h.r i hi),fun i hi=>by rw [cell_set (h.z i hi)];unfold updz;by_cases e:m=i <;> simp [e,eq_comm]⟩
theorem Wp.start {w wr:World} {xs ys:Nat→Int} (hu:Up w wr) (x0:wr.cell? ⟨w.heap.size,0,none⟩=some (.int .u64 (xs 0))) (x1:wr.cell? ⟨w.heap.size,1,none⟩=some (.int .u64 (xs 1))) (x2:wr.cell? ⟨w.heap.size,2,none⟩=some (.int .u64 (xs 2)))
    (y0:wr.cell? ⟨w.heap.size+1,0,none⟩=some (.int .u64 (ys 0))) (y1:wr.cell? ⟨w.heap.size+1,1,none⟩=some (.int .u64 (ys 1))) (y2:wr.cell? ⟨w.heap.size+1,2,none⟩=some (.int .u64 (ys 2)))
    (r0:wr.cell? ⟨w.heap.size+1+1,0,none⟩=some (.int .u64 0)) (r1:wr.cell? ⟨w.heap.size+1+1,1,none⟩=some (.int .u64 0)) (r2:wr.cell? ⟨w.heap.size+1+1,2,none⟩=some (.int .u64 0))
    (z0:wr.cell? ⟨w.heap.size+1+1+1,0,none⟩=some (.int .u64 0)) (z1:wr.cell? ⟨w.heap.size+1+1+1,1,none⟩=some (.int .u64 0)) (z2:wr.cell? ⟨w.heap.size+1+1+1,2,none⟩=some (.int .u64 0)):Wp w wr xs ys (fun _=>0):=by
  refine ⟨hu,fun i hi=>?_,fun i hi=>?_,fun i hi=>?_,fun i hi=>?_⟩ <;> (rcases (by omega:i=0∨i=1∨i=2) with rfl | rfl | rfl) <;> assumption
end Go.Proofs.YtafkoddgefcpnaaGreat

namespace Go.Proofs.YtafkoddgefcpnaaGreat
open Go.RowKit

/-- A tick; the width of a window; the first tick of a window, or -1; whether a tick is live. -/
def tickB (t:Int):Bool:=decide (0≤t∧t≤16777216)
def winB (v:Int):Bool:=decide (1≤v∧v≤1048576)
def firZ (now v:Int):Int:=if (tickB now && winB v)=true then max 0 (now - v+1) else -1
def liveB (now v t:Int):Bool:=tickB now && winB v && decide (firZ now v≤t) && decide (t≤now)
theorem tickB_yes {t:Int} (h:0≤t) (k:t≤16777216):tickB t=true:=decide_eq_true ⟨h,k⟩
theorem tickB_low {t:Int} (h:t<0):tickB t=false:=decide_eq_false (by omega)
theorem tickB_high {t:Int} (h:16777216<t):tickB t=false:=decide_eq_false (by omega)
theorem tickB_true {t:Int} (h:tickB t=true):0≤t∧t≤16777216:=of_decide_eq_true h
theorem winB_yes {t:Int} (h:1≤t) (k:t≤1048576):winB t=true:=decide_eq_true ⟨h,k⟩
theorem winB_true {t:Int} (h:winB t=true):1≤t∧t≤1048576:=of_decide_eq_true h
theorem winB_false {t:Int} (h:winB t=false):t<1∨1048576<t:=by have:=of_decide_eq_false h;omega
theorem firZ_no {now v:Int} (h:(tickB now && winB v)=false):firZ now v=-1:=by unfold firZ;rw [h];rfl
theorem firZ_yes {now v:Int} (h:(tickB now && winB v)=true):firZ now v=max 0 (now - v+1):=by unfold firZ;rw [if_pos h]
theorem firZ_low {now v:Int} (h:(tickB now && winB v)=true):0≤firZ now v:=by rw [firZ_yes h];omega
theorem isTick_any (t:Int) (w:World) :
    Calls Tryz.prog 98 #[.int .i64 t] w fun e w'=>e=.returned (.bool (tickB t))∧w=w':=by
  by_cases h:0≤t
  · by_cases k:t≤16777216
    · rw [tickB_yes h k]
      go_enter Tryz.func98,Tryz.ntmps98
      go_wp2
      go_ret
      exact ⟨rfl,rfl⟩
    · rw [tickB_high (by omega)]
      go_enter Tryz.func98,Tryz.ntmps98
      go_wp2
      go_ret
      exact ⟨rfl,rfl⟩
  · rw [tickB_low (by omega)]
    go_enter Tryz.func98,Tryz.ntmps98
    go_wp2
    go_ret
    exact ⟨rfl,rfl⟩
theorem first_any (now v:Int) (w:World) :
    Calls Tryz.prog 80 #[.int .i64 now,.int .i64 v] w fun e w'=>e=.returned (.int .i64 (firZ now v))∧w=w':=by
  have KT:=Lib.hid (isTick_any now)
  cases ht:tickB now with
  | false =>
    have HF:=Lib.hid (firZ_no (now:=now) (v:=v) (by rw [ht];rfl))
    rw [ht] at KT
    rw [HF.out]
    clear ht HF
    go_enter Tryz.func80,Tryz.ntmps80
    go_wp2_with (go_at_call 98;(with_reducible refine (KT.out _).mono ?_);rintro e w' ⟨rfl,rfl⟩)
    go_ret
    exact ⟨rfl,rfl⟩
  | true =>
    rw [ht] at KT
    cases hv:winB v with
    | false =>
      have HF:=Lib.hid (firZ_no (now:=now) (v:=v) (by rw [ht,hv];rfl))
      rw [HF.out]
      clear ht HF
      rcases winB_false hv with h | h
      · clear hv
        go_enter Tryz.func80,Tryz.ntmps80
        go_wp2_with (go_at_call 98;(with_reducible refine (KT.out _).mono ?_);rintro e w' ⟨rfl,rfl⟩)
        go_ret
        exact ⟨rfl,rfl⟩
      · clear hv
        have h1:1≤v:=by omega
        go_enter Tryz.func80,Tryz.ntmps80
        go_wp2_with (go_at_call 98;(with_reducible refine (KT.out _).mono ?_);rintro e w' ⟨rfl,rfl⟩)
        go_ret
        exact ⟨rfl,rfl⟩
    | true =>
      have HF:=Lib.hid (firZ_yes (now:=now) (v:=v) (by rw [ht,hv];rfl))
      obtain ⟨n1,n2⟩:=tickB_true ht
      obtain ⟨v1,v2⟩:=winB_true hv
      clear ht hv
      rw [HF.out]
      clear HF
      generalize hx:max 0 (now - v+1)=x
      have HX:=Lib.hid hx
      clear hx
      go_enter Tryz.func80,Tryz.ntmps80
      go_wp2_with (go_at_call 98;(with_reducible refine (KT.out _).mono ?_);rintro e w' ⟨rfl,rfl⟩)
      all_goals go_ret
      all_goals exact ⟨by have hx:=HX.out;first | (rw [show x=0 by omega];rfl) | (rw [show x=now - v+1 by omega];rfl),rfl⟩

theorem advance_any (now td x e:Int) (hx:(if tickB now=true then (if td<now∨16777216<td then (0,3) else (td,0)) else (0,1))=(x,e)) (w:World) :
    Calls Tryz.prog 64 #[.int .i64 now,.int .i64 td] w fun r w'=>r=.returned (.tuple #[.int .i64 x,.int .i64 e])∧w=w':=by
  have KT:=Lib.hid (isTick_any now)
  cases ht:tickB now with
  | false =>
    rw [ht] at KT hx
    simp only [Bool.false_eq_true,if_false,Prod.mk.injEq] at hx
    obtain ⟨rfl,rfl⟩:=hx
    clear ht
    go_enter Tryz.func64,Tryz.ntmps64
    go_wp2_with (go_at_call 98;(with_reducible refine (KT.out _).mono ?_);rintro e w' ⟨rfl,rfl⟩)
    go_ret2
    exact ⟨rfl,rfl⟩
  | true =>
    rw [ht] at KT hx
    clear ht
    rw [if_pos rfl] at hx
    by_cases h:td<now
    · rw [if_pos (Or.inl h),Prod.mk.injEq] at hx
      obtain ⟨rfl,rfl⟩:=hx
      go_enter Tryz.func64,Tryz.ntmps64
      go_wp2_with (go_at_call 98;(with_reducible refine (KT.out _).mono ?_);rintro e w' ⟨rfl,rfl⟩)
      go_ret2
      exact ⟨rfl,rfl⟩
    · by_cases k:16777216<td
      · rw [if_pos (Or.inr k),Prod.mk.injEq] at hx
        obtain ⟨rfl,rfl⟩:=hx
        go_enter Tryz.func64,Tryz.ntmps64
        go_wp2_with (go_at_call 98;(with_reducible refine (KT.out _).mono ?_);rintro e w' ⟨rfl,rfl⟩)
        go_ret2
        exact ⟨rfl,rfl⟩
      · rw [if_neg (by omega),Prod.mk.injEq] at hx
        obtain ⟨rfl,rfl⟩:=hx
        go_enter Tryz.func64,Tryz.ntmps64
        go_wp2_with (go_at_call 98;(with_reducible refine (KT.out _).mono ?_);rintro e w' ⟨rfl,rfl⟩)
        go_ret2
        exact ⟨rfl,rfl⟩

theorem liveB_no {now v t:Int} (h:(tickB now && winB v)=false):liveB now v t=false:=by unfold liveB;rw [h];rfl
theorem liveB_yes {now v t:Int} (h:(tickB now && winB v)=true):liveB now v t=(decide (firZ now v≤t) && decide (t≤now)):=by unfold liveB;rw [h];rfl
theorem live_any (now v t:Int) (w:World) :
    Calls Tryz.prog 99 #[.int .i64 now,.int .i64 v,.int .i64 t] w fun e w'=>e=.returned (.bool (liveB now v t))∧w=w':=by
  have KF:=Lib.hid (first_any now v)
  cases hb:(tickB now && winB v) with
  | false =>
    rw [liveB_no hb]
    rw [firZ_no hb] at KF
    clear hb
    go_enter Tryz.func99,Tryz.ntmps99
    go_wp2_with (go_at_call 80;(with_reducible refine (KF.out _).mono ?_);rintro e w' ⟨rfl,rfl⟩)
    go_ret
    exact ⟨by first | rfl | (simp;done) | (simp;omega),rfl⟩
  | true =>
    rw [liveB_yes hb]
    have h0:=firZ_low hb
    clear hb
    generalize firZ now v=x at *
    by_cases h1:x≤t
    · by_cases h2:t≤now
      · rw [decide_eq_true h1,decide_eq_true h2]
        go_enter Tryz.func99,Tryz.ntmps99
        go_wp2_with (go_at_call 80;(with_reducible refine (KF.out _).mono ?_);rintro e w' ⟨rfl,rfl⟩)
        go_ret
        exact ⟨by first | rfl | (simp;done) | (simp;omega),rfl⟩
      · rw [decide_eq_true h1,decide_eq_false h2]
        go_enter Tryz.func99,Tryz.ntmps99
        go_wp2_with (go_at_call 80;(with_reducible refine (KF.out _).mono ?_);rintro e w' ⟨rfl,rfl⟩)
        go_ret
        exact ⟨by first | rfl | (simp;done) | (simp;omega),rfl⟩
    · rw [decide_eq_false h1]
      go_enter Tryz.func99,Tryz.ntmps99
      go_wp2_with (go_at_call 80;(with_reducible refine (KF.out _).mono ?_);rintro e w' ⟨rfl,rfl⟩)
      go_ret
      exact ⟨by first | rfl | (simp;done) | (simp;omega),rfl⟩
end Go.Proofs.YtafkoddgefcpnaaGreat

namespace Go.Proofs.YtafkoddgefcpnaaGreat
open Go.ChangeShapes Go.WideShapes Go.ChangeAt Go.RowKit Go.Joins Go.Deep

/-- A slice of int64 that reads as the list L. -/
def Sn (w:World) (A:Option Addr) (n:Nat) (L:List Int):Prop :=
  L.length=n∧(0<n→∃ b o,A=some ⟨b,o,none⟩∧∀ j,j<n→w.cell? ⟨b,o+j,none⟩=some (.int .i64 (L.getD j 0)))
theorem Sn.none_ {w:World} {A:Option Addr}:Sn w A 0 []:=⟨rfl,fun h=>absurd h (by omega)⟩
theorem Sn.up {w w':World} {A:Option Addr} {n:Nat} {L:List Int} (h:Sn w A n L) (hu:Up w w'):Sn w' A n L :=
  ⟨h.1,fun hn=>by
    obtain ⟨b,o,e,hc⟩:=h.2 hn
    exact ⟨b,o,e,fun j hj=>hu.keep _ _ _ (hc j hj)⟩⟩
section
variable {H : Type} {enc : TypeId × Value → H} {w : World} {base : Nat} {spare : Nat → Bool} {held : Bool}
end
end Go.Proofs.YtafkoddgefcpnaaGreat

namespace Go.Proofs.YtafkoddgefcpnaaGreat

/-- The least and the greatest value. -/
def mnL:List Int→Int
  | []=>0
  | [x]=>x
  | x :: y :: R=>min x (mnL (y :: R))
def mxL:List Int→Int
  | []=>0
  | [x]=>x
  | x :: y :: R=>max x (mxL (y :: R))
def suL:List Int→Int
  | []=>0
  | x :: R=>x+suL R
def sqL:List Int→Int
  | []=>0
  | x :: R=>x * x+sqL R
theorem mnL_cons (x:Int) {R:List Int} (h:R ≠ []):mnL (x :: R)=min x (mnL R):=by
  cases R with
  | nil=>exact absurd rfl h
  | cons y R=>rfl
theorem mxL_cons (x:Int) {R:List Int} (h:R ≠ []):mxL (x :: R)=max x (mxL R):=by
  cases R with
  | nil=>exact absurd rfl h
  | cons y R=>rfl
theorem mnL_push (v:Int):∀ {R:List Int},R ≠ []→mnL (R ++ [v])=min (mnL R) v:=by
  intro R
  induction R with
  | nil=>intro h;exact absurd rfl h
  | cons x R ih =>
    intro _
    cases R with
    | nil=>rfl
    | cons y R=>rw [List.cons_append,mnL_cons x (by simp),ih (by simp),mnL_cons x (by simp)];omega
theorem mxL_push (v:Int):∀ {R:List Int},R ≠ []→mxL (R ++ [v])=max (mxL R) v:=by
  intro R
  induction R with
  | nil=>intro h;exact absurd rfl h
  | cons x R ih =>
    intro _
    cases R with
    | nil=>rfl
    | cons y R=>rw [List.cons_append,mxL_cons x (by simp),ih (by simp),mxL_cons x (by simp)];omega
theorem mnL_app:∀ {A B:List Int},B ≠ []→mnL (A ++ B)≤mnL B:=by
  intro A
  induction A with
  | nil=>intro B _;exact Int.le_refl _
  | cons x A ih=>intro B h;rw [List.cons_append,mnL_cons x (by simp [h])];have:=ih h;omega
theorem mxL_app:∀ {A B:List Int},B ≠ []→mxL B≤mxL (A ++ B):=by
  intro A
  induction A with
  | nil=>intro B _;exact Int.le_refl _
  | cons x A ih=>intro B h;rw [List.cons_append,mxL_cons x (by simp [h])];have:=ih h;omega
theorem mnL_le:∀ {R:List Int} {x:Int},x ∈ R→mnL R≤x:=by
  intro R
  induction R with
  | nil=>intro x h;cases h
  | cons y R ih =>
    intro x h
    by_cases hR:R=[]
    · subst hR;simp only [List.mem_singleton] at h;subst h;exact Int.le_refl _
    · rw [mnL_cons y hR]
      rcases List.mem_cons.1 h with rfl | h
      · omega
      · have:=ih h;omega
theorem le_mxL:∀ {R:List Int} {x:Int},x ∈ R→x≤mxL R:=by
  intro R
  induction R with
  | nil=>intro x h;cases h
  | cons y R ih =>
    intro x h
    by_cases hR:R=[]
    · subst hR;simp only [List.mem_singleton] at h;subst h;exact Int.le_refl _
    · rw [mxL_cons y hR]
      rcases List.mem_cons.1 h with rfl | h
      · omega
      · have:=ih h;omega
theorem mnL_mem:∀ {R:List Int},R ≠ []→mnL R ∈ R:=by
  intro R
  induction R with
  | nil=>intro h;exact absurd rfl h
  | cons y R ih =>
    intro _
    by_cases hR:R=[]
    · subst hR;exact List.mem_singleton.2 rfl
    · rw [mnL_cons y hR]
      by_cases h:y≤mnL R
      · rw [Int.min_eq_left h];exact List.mem_cons_self
      · rw [Int.min_eq_right (by omega)];exact List.mem_cons_of_mem _ (ih hR)
theorem mxL_mem:∀ {R:List Int},R ≠ []→mxL R ∈ R:=by
  intro R
  induction R with
  | nil=>intro h;exact absurd rfl h
  | cons y R ih =>
    intro _
    by_cases hR:R=[]
    · subst hR;exact List.mem_singleton.2 rfl
    · rw [mxL_cons y hR]
      by_cases h:mxL R≤y
      · rw [Int.max_eq_left h];exact List.mem_cons_self
      · rw [Int.max_eq_right (by omega)];exact List.mem_cons_of_mem _ (ih hR)
theorem mn_le_mx {R:List Int} (h:R ≠ []):mnL R≤mxL R:=Int.le_trans (mnL_le (mxL_mem h)) (Int.le_refl _)
theorem suL_app (A B:List Int):suL (A ++ B)=suL A+suL B:=by
  induction A with
  | nil=>simp [suL]
  | cons x A ih=>simp only [List.cons_append,suL,ih];omega
theorem sqL_app (A B:List Int):sqL (A ++ B)=sqL A+sqL B:=by
  induction A with
  | nil=>simp [sqL]
  | cons x A ih=>simp only [List.cons_append,sqL,ih];omega
theorem sq_nn (x:Int):0≤x * x:=by
  rcases Int.le_total 0 x with h | h
  · exact Int.mul_nonneg h h
  · exact Int.mul_nonneg_of_nonpos_of_nonpos h h
theorem sqL_nn (A:List Int):0≤sqL A:=by
  induction A with
  | nil=>exact Int.le_refl _
  | cons x A ih=>have:=sq_nn x;simp only [sqL];omega
theorem suL_nn {A:List Int} (h:∀ x ∈ A,0≤x):0≤suL A:=by
  induction A with
  | nil=>exact Int.le_refl _
  | cons x A ih=>have:=h x List.mem_cons_self;have:=ih (fun y hy=>h y (List.mem_cons_of_mem _ hy));simp only [suL];omega
/-- Sums of numbers from a to b lie between so many times a and b. -/
theorem suL_ge {A:List Int} {a:Int} (h:∀ x ∈ A,a≤x):(A.length:Int) * a≤suL A:=by
  induction A with
  | nil=>simp [suL]
  | cons x A ih =>
    have:=h x List.mem_cons_self
    have:=ih (fun y hy=>h y (List.mem_cons_of_mem _ hy))
    simp only [suL,List.length_cons]
    rw [show ((A.length+1:Nat):Int)=(A.length:Int)+1 by omega,Int.add_mul,Int.one_mul];omega
theorem suL_le {A:List Int} {b:Int} (h:∀ x ∈ A,x≤b):suL A≤(A.length:Int) * b:=by
  induction A with
  | nil=>simp [suL]
  | cons x A ih =>
    have:=h x List.mem_cons_self
    have:=ih (fun y hy=>h y (List.mem_cons_of_mem _ hy))
    simp only [suL,List.length_cons]
    rw [show ((A.length+1:Nat):Int)=(A.length:Int)+1 by omega,Int.add_mul,Int.one_mul];omega
theorem sq_bd {x m:Int} (h1:-m≤x) (h2:x≤m):x * x≤m * m:=by
  rcases Int.le_total 0 x with h | h
  · exact Int.mul_le_mul h2 h2 h (by omega)
  · have:=Int.mul_le_mul (show -x≤m by omega) (show -x≤m by omega) (by omega) (show 0≤m by omega)
    rwa [Int.neg_mul_neg] at this
theorem sqL_le {A:List Int} {m:Int} (h:∀ x ∈ A, -m≤x∧x≤m):sqL A≤(A.length:Int) * (m * m):=by
  induction A with
  | nil=>simp [sqL]
  | cons x A ih =>
    have h1:=h x List.mem_cons_self
    have:=sq_bd h1.1 h1.2
    have:=ih (fun y hy=>h y (List.mem_cons_of_mem _ hy))
    simp only [sqL,List.length_cons]
    rw [show ((A.length+1:Nat):Int)=(A.length:Int)+1 by omega,Int.add_mul,Int.one_mul];omega
/-- The square of a sum is at most so many times the sum of squares. -/
theorem cauchy:∀ A:List Int,suL A * suL A≤(A.length:Int) * sqL A:=by
  intro A
  induction A with
  | nil=>simp [suL,sqL]
  | cons x A ih =>
    have h2:2 * (x * suL A)≤(A.length:Int) * (x * x)+sqL A:=by
      clear ih
      induction A with
      | nil=>simp [suL,sqL]
      | cons y A ih =>
        simp only [suL,sqL,List.length_cons]
        have h3:=sq_nn (x - y)
        have e:(x - y) * (x - y)=x * x - 2 * (x * y)+y * y:=by
          rw [Int.sub_mul,Int.mul_sub,Int.mul_sub,Int.mul_comm y x];omega
        rw [show ((A.length+1:Nat):Int)=(A.length:Int)+1 by omega,Int.add_mul,Int.one_mul,Int.mul_add]
        omega
    simp only [suL,sqL,List.length_cons]
    rw [show ((A.length+1:Nat):Int)=(A.length:Int)+1 by omega]
    have e1:(x+suL A) * (x+suL A)=x * x+2 * (x * suL A)+suL A * suL A:=by
      rw [Int.add_mul,Int.mul_add,Int.mul_add,Int.mul_comm (suL A) x];omega
    have e2:((A.length:Int)+1) * (x * x+sqL A)=(A.length:Int) * (x * x)+(A.length:Int) * sqL A+(x * x+sqL A):=by
      rw [Int.add_mul,Int.mul_add,Int.one_mul]
    rw [e1,e2]
    omega
/-- The aggregates: 1 the number, 2 the sum, 3 the sum of squares, 4 the range. -/
def agZ (g:Int) (A:List Int):Int:=if g=1 then (A.length:Int) else if g=2 then suL A else if g=3 then sqL A else if g=4 then mxL A - mnL A else 0
theorem ag1 (A:List Int):agZ 1 A=A.length:=rfl
theorem ag2 (A:List Int):agZ 2 A=suL A:=rfl
theorem ag3 (A:List Int):agZ 3 A=sqL A:=rfl
theorem ag4 (A:List Int):agZ 4 A=mxL A - mnL A:=rfl
/-- Which values there are. -/
def valG (g v:Int):Prop := -4096≤v∧v≤4096∧(0≤v∨g=1∨g=4)
theorem ag_nn {g:Int} {A:List Int} (hg:1≤g∧g≤4) (h:∀ x ∈ A,valG g x):0≤agZ g A:=by
  have:g=1∨g=2∨g=3∨g=4:=by omega
  rcases this with rfl | rfl | rfl | rfl
  · rw [ag1];omega
  · rw [ag2];exact suL_nn (fun x hx=>by have:=(h x hx).2.2;omega)
  · rw [ag3];exact sqL_nn A
  · rw [ag4]
    by_cases hA:A=[]
    · subst hA;exact Int.le_refl _
    · have:=mn_le_mx hA;omega
/-- A suffix has no greater aggregate. -/
theorem ag_mono {g:Int} {A B:List Int} (hg:1≤g∧g≤4) (h:∀ x ∈ A ++ B,valG g x):agZ g B≤agZ g (A ++ B):=by
  have hB:∀ x ∈ A,valG g x:=fun x hx=>h x (List.mem_append_left _ hx)
  have:g=1∨g=2∨g=3∨g=4:=by omega
  rcases this with rfl | rfl | rfl | rfl
  · rw [ag1,ag1,List.length_append];omega
  · rw [ag2,ag2,suL_app];have:=ag_nn hg hB;rw [ag2] at this;omega
  · rw [ag3,ag3,sqL_app];have:=sqL_nn A;omega
  · rw [ag4,ag4]
    by_cases hA:B=[]
    · subst hA;rw [List.append_nil];have:=ag_nn hg hB;rw [ag4] at this;simp only [mxL,mnL];omega
    · have:=mnL_app (A:=A) hA;have:=mxL_app (A:=A) hA;omega
/-- What is close stays close by any item. -/
theorem ag_close {g k v:Int} {A B:List Int} (hg:1≤g∧g≤4) (hk:1≤k) (hB:B ≠ []) (h:∀ x ∈ A ++ B,valG g x) (hv:valG g v) (hc:k * agZ g (A ++ B)≤(k+1) * agZ g B):k * agZ g (A ++ B ++ [v])≤(k+1) * agZ g (B ++ [v]):=by
  have key:∀ x y a b:Int,k * x≤(k+1) * y→0≤a→a≤b→k * (x+a)≤(k+1) * (y+b):=by
    intro x y a b h1 h2 h3
    rw [Int.mul_add,Int.mul_add]
    have h4:k * a≤k * b:=Int.mul_le_mul_of_nonneg_left h3 (by omega)
    have h5:(k+1) * b=k * b+b:=by rw [Int.add_mul,Int.one_mul]
    omega
  have:g=1∨g=2∨g=3∨g=4:=by omega
  rcases this with rfl | rfl | rfl | rfl
  · rw [ag1,ag1] at hc
    have e1:((A ++ B ++ [v]).length:Int)=((A ++ B).length:Int)+1:=by rw [List.length_append,List.length_singleton];omega
    have e2:((B ++ [v]).length:Int)=(B.length:Int)+1:=by simp
    rw [ag1,ag1,e1,e2]
    exact key _ _ 1 1 hc (by omega) (by omega)
  · rw [ag2,ag2] at hc
    rw [ag2,ag2,suL_app,suL_app B]
    exact key _ _ _ _ hc (suL_nn (fun x hx=>by simp only [List.mem_singleton] at hx;subst hx;have:=hv.2.2;omega)) (Int.le_refl _)
  · rw [ag3,ag3] at hc
    rw [ag3,ag3,sqL_app,sqL_app B]
    exact key _ _ _ _ hc (sqL_nn _) (Int.le_refl _)
  · rw [ag4,ag4] at hc
    have hA:A ++ B ≠ []:=by simp [hB]
    rw [ag4,ag4,mxL_push v hA,mnL_push v hA,mxL_push v hB,mnL_push v hB]
    have m1:=mnL_app (A:=A) hB
    have m2:=mxL_app (A:=A) hB
    have m3:=mn_le_mx hB
    generalize mxL (A ++ B)=a2 at *
    generalize mnL (A ++ B)=a1 at *
    generalize mxL B=b2 at *
    generalize mnL B=b1 at *
    have:=key (a2 - a1) (b2 - b1) (max a2 v - min a1 v - (a2 - a1)) (max b2 v - min b1 v - (b2 - b1)) hc (by omega) (by omega)
    rwa [show a2 - a1+(max a2 v - min a1 v - (a2 - a1))=max a2 v - min a1 v by omega,show b2 - b1+(max b2 v - min b1 v - (b2 - b1))=max b2 v - min b1 v by omega] at this
end Go.Proofs.YtafkoddgefcpnaaGreat

namespace Go.Proofs.YtafkoddgefcpnaaGreat

/-- Every element and its successor; every element and its second successor. -/
def chn {α:Type} (r:α→α→Prop):List α→Prop
  | []=>True
  | [_]=>True
  | a :: b :: R=>r a b∧chn r (b :: R)
def ch3 {α:Type} (r:α→α→Prop):List α→Prop
  | []=>True
  | [_]=>True
  | [_,_]=>True
  | a :: b :: c :: R=>r a c∧ch3 r (b :: c :: R)
theorem chn.tail {α:Type} {r:α→α→Prop} {a:α} {R:List α} (h:chn r (a :: R)):chn r R:=by
  cases R with
  | nil=>trivial
  | cons b R=>exact h.2
theorem ch3.tail {α:Type} {r:α→α→Prop} {a:α} {R:List α} (h:ch3 r (a :: R)):ch3 r R:=by
  cases R with
  | nil=>trivial
  | cons b R =>
    cases R with
    | nil=>trivial
    | cons c R=>exact h.2
theorem chn.imp {α:Type} {r s:α→α→Prop}:∀ {R:List α},(∀ a ∈ R,∀ b ∈ R,r a b→s a b)→chn r R→chn s R:=by
  intro R
  induction R with
  | nil=>intro _ _;trivial
  | cons a R ih =>
    intro h hc
    cases R with
    | nil=>trivial
    | cons b R=>exact ⟨h a List.mem_cons_self b (by simp) hc.1,ih (fun x hx y hy=>h x (List.mem_cons_of_mem _ hx) y (List.mem_cons_of_mem _ hy)) hc.2⟩
theorem ch3.imp {α:Type} {r s:α→α→Prop}:∀ {R:List α},(∀ a ∈ R,∀ b ∈ R,r a b→s a b)→ch3 r R→ch3 s R:=by
  intro R
  induction R with
  | nil=>intro _ _;trivial
  | cons a R ih =>
    intro h hc
    cases R with
    | nil=>trivial
    | cons b R =>
      cases R with
      | nil=>trivial
      | cons c R=>exact ⟨h a List.mem_cons_self c (by simp) hc.1,ih (fun x hx y hy=>h x (List.mem_cons_of_mem _ hx) y (List.mem_cons_of_mem _ hy)) hc.2⟩
theorem chn.push {α:Type} {r:α→α→Prop} {z:α}:∀ {R:List α},chn r R→(∀ a,R.getLast?=some a→r a z)→chn r (R ++ [z]):=by
  intro R
  induction R with
  | nil=>intro _ _;trivial
  | cons a R ih =>
    intro h hl
    cases R with
    | nil=>exact ⟨hl a rfl,trivial⟩
    | cons b R=>exact ⟨h.1,ih h.2 (fun x hx=>hl x (by rw [List.getLast?_cons_cons];exact hx))⟩
/-- Marks whose successor is not live go; then a single one that is not live. -/
def drL {α:Type} (lv:α→Bool):List α→List α
  | []=>[]
  | [a]=>if lv a then [a] else []
  | a :: b :: R=>if lv b then a :: b :: R else drL lv (b :: R)
/-- Marks between an element and the last one that is close to it go. -/
def cutL {α:Type} (f:α→Bool):List α→List α
  | []=>[]
  | x :: R=>if R.any f then cutL f R else x :: R
theorem cutL_suffix {α:Type} (f:α→Bool):∀ R:List α,∃ Q,R=Q ++ cutL f R:=by
  intro R
  induction R with
  | nil=>exact ⟨[],rfl⟩
  | cons x R ih =>
    simp only [cutL]
    split
    · obtain ⟨Q,e⟩:=ih;exact ⟨x :: Q,by rw [List.cons_append,← e]⟩
    · exact ⟨[],rfl⟩
theorem cutL_ne {α:Type} (f:α→Bool):∀ {R:List α},R ≠ []→cutL f R ≠ []:=by
  intro R
  induction R with
  | nil=>intro h;exact absurd rfl h
  | cons x R ih =>
    intro _
    simp only [cutL]
    split
    next h=>exact ih (by rintro rfl;simp at h)
    next h=>simp
theorem cutL_len {α:Type} (f:α→Bool) (R:List α):(cutL f R).length≤R.length:=by
  obtain ⟨Q,e⟩:=cutL_suffix f R
  have:=congrArg List.length e
  rw [List.length_append] at this
  omega
/-- What is left: an element that is close or the first one, and none that is close behind it. -/
theorem cutL_head {α:Type} (f:α→Bool):∀ {R:List α} {x:α} {T:List α},cutL f R=x :: T→(∀ y ∈ T,f y=false)∧(R=x :: T∨f x=true):=by
  intro R
  induction R with
  | nil=>intro x T h;cases h
  | cons y R ih =>
    intro x T h
    simp only [cutL] at h
    split at h
    next hp =>
      obtain ⟨h1,h2⟩:=ih h
      refine ⟨h1,Or.inr ?_⟩
      rcases h2 with e | e
      · rw [e,List.any_cons,Bool.or_eq_true] at hp
        rcases hp with g | g
        · exact g
        · obtain ⟨z,hz,hf⟩:=List.any_eq_true.1 g
          rw [h1 z hz] at hf;cases hf
      · exact e
    next hp =>
      injection h with e1 e2
      subst e1 e2
      refine ⟨fun z hz=>?_,Or.inl rfl⟩
      cases hf:f z with
      | false=>rfl
      | true=>exact absurd (List.any_eq_true.2 ⟨z,hz,hf⟩) hp
/-- So for each element in turn. -/
def prL {α:Type} (cl:α→α→Bool):Nat→List α→List α
  | 0,L=>L
  | _+1,[]=>[]
  | n+1,a :: R=>a :: prL cl n (cutL (cl a) R)
theorem prL_nil {α:Type} (cl:α→α→Bool) (n:Nat):prL cl n []=[]:=by cases n <;> rfl
theorem prL_sub {α:Type} (cl:α→α→Bool):∀ (n:Nat) (R:List α),(prL cl n R).Sublist R:=by
  intro n
  induction n with
  | zero=>intro R;exact List.Sublist.refl _
  | succ n ih =>
    intro R
    cases R with
    | nil=>exact List.Sublist.refl _
    | cons a R =>
      obtain ⟨Q,e⟩:=cutL_suffix (cl a) R
      have h:=ih (cutL (cl a) R)
      refine List.Sublist.cons_cons a (h.trans ?_)
      have:=List.sublist_append_right Q (cutL (cl a) R)
      rwa [← e] at this
theorem prL_last {α:Type} (cl:α→α→Bool):∀ (n:Nat) (R:List α),(prL cl n R).getLast?=R.getLast?:=by
  intro n
  induction n with
  | zero=>intro R;rfl
  | succ n ih =>
    intro R
    cases R with
    | nil=>rfl
    | cons a R =>
      simp only [prL]
      cases R with
      | nil=>simp [cutL,prL_nil]
      | cons b R =>
        obtain ⟨Q,e⟩:=cutL_suffix (cl a) (b :: R)
        have hne:=cutL_ne (cl a) (R:=b :: R) (by simp)
        have h:=ih (cutL (cl a) (b :: R))
        generalize cutL (cl a) (b :: R)=C at *
        rw [List.getLast?_cons,h,e]
        cases C with
        | nil=>exact absurd rfl hne
        | cons c C=>simp [List.getLast?_append,List.getLast?_cons]
theorem prL_head {α:Type} (cl:α→α→Bool) (n:Nat) (a:α) (R:List α):∃ T,prL cl n (a :: R)=a :: T∧(∀ x ∈ T,x ∈ R):=by
  cases n with
  | zero=>exact ⟨R,rfl,fun x hx=>hx⟩
  | succ n =>
    refine ⟨_,rfl,fun x hx=>?_⟩
    obtain ⟨Q,e⟩:=cutL_suffix (cl a) R
    rw [e]
    exact List.mem_append_right _ ((prL_sub cl n _).subset hx)
/-- Neighbours were neighbours, or are close. -/
theorem prL_chn {α:Type} (cl:α→α→Bool) (r:α→α→Prop) (L:List α) (hcl:∀ a b,a ∈ L→b ∈ L→cl a b=true→r a b):∀ (n:Nat) (R:List α),(∀ x ∈ R,x ∈ L)→chn r R→chn r (prL cl n R):=by
  intro n
  induction n with
  | zero=>intro R _ h;exact h
  | succ n ih =>
    intro R hm h
    cases R with
    | nil=>trivial
    | cons a R =>
      simp only [prL]
      cases hC:cutL (cl a) R with
      | nil=>rw [prL_nil];trivial
      | cons x T =>
        obtain ⟨h1,h2⟩:=cutL_head (cl a) hC
        obtain ⟨Q,e⟩:=cutL_suffix (cl a) R
        rw [hC] at e
        have hm2:∀ y ∈ x :: T,y ∈ L:=fun y hy=>hm y (List.mem_cons_of_mem _ (by rw [e];exact List.mem_append_right _ hy))
        have hx:r a x:=by
          rcases h2 with e2 | e2
          · rw [e2] at h;exact h.1
          · exact hcl a x (hm a List.mem_cons_self) (hm2 x List.mem_cons_self) e2
        have hT:chn r (x :: T):=by
          have h3:=h.tail
          rw [e] at h3
          clear e hC h h2 hx h1 hm hm2
          induction Q with
          | nil=>exact h3
          | cons q Q ihQ=>exact ihQ h3.tail
        have h4:=ih _ hm2 hT
        obtain ⟨T2,e2,_⟩:=prL_head cl n x T
        rw [e2] at h4 ⊢
        exact ⟨hx,h4⟩
/-- No element is close to its second successor. -/
theorem prL_ch3 {α:Type} (cl:α→α→Bool):∀ (n:Nat) (R:List α),R.length≤n→ch3 (fun a c=>cl a c=false) (prL cl n R):=by
  intro n
  induction n with
  | zero=>intro R h;rw [List.length_eq_zero_iff.1 (by omega:R.length=0)];trivial
  | succ n ih =>
    intro R h
    cases R with
    | nil=>trivial
    | cons a R =>
      simp only [prL]
      rw [List.length_cons] at h
      have hl:=cutL_len (cl a) R
      have h4:=ih (cutL (cl a) R) (by omega)
      cases hC:cutL (cl a) R with
      | nil=>rw [prL_nil];trivial
      | cons x T =>
        rw [hC] at h4
        obtain ⟨h1,_⟩:=cutL_head (cl a) hC
        obtain ⟨T2,e2,h5⟩:=prL_head cl n x T
        rw [e2] at h4 ⊢
        cases T2 with
        | nil=>trivial
        | cons c T2=>exact ⟨h1 c (h5 c List.mem_cons_self),h4⟩
end Go.Proofs.YtafkoddgefcpnaaGreat

namespace Go.Proofs.YtafkoddgefcpnaaGreat

theorem cutL_none {α:Type} {f:α→Bool}:∀ {R:List α},(∀ y ∈ R,f y=false)→cutL f R=R:=by
  intro R
  induction R with
  | nil=>intro _;rfl
  | cons a R ih =>
    intro h
    have:R.any f=false:=by
      cases e:R.any f with
      | false=>rfl
      | true =>
        obtain ⟨x,hx,hf⟩:=List.any_eq_true.1 e
        rw [h x (List.mem_cons_of_mem _ hx)] at hf
        cases hf
    unfold cutL
    rw [this]
    rfl
/-- The last element that is close stands at place m. -/
theorem cutL_at {α:Type} {f:α→Bool} (d:α):∀ {R:List α} {m:Nat},m<R.length→f (R.getD m d)=true→(∀ n,m<n→n<R.length→f (R.getD n d)=false)→cutL f R=R.drop m:=by
  intro R
  induction R with
  | nil=>intro m hm;exact absurd hm (Nat.not_lt_zero _)
  | cons a R ih =>
    intro m hm ht hl
    cases m with
    | zero =>
      have:R.any f=false:=by
        cases e:R.any f with
        | false=>rfl
        | true =>
          obtain ⟨x,hx,hf⟩:=List.any_eq_true.1 e
          obtain ⟨n,hn,rfl⟩:=List.mem_iff_getElem.1 hx
          have:=hl (n+1) (by omega) (by simp only [List.length_cons];omega)
          rw [List.getD_cons_succ] at this
          simp only [List.getD,List.getElem?_eq_getElem hn,Option.getD_some] at this
          rw [this] at hf
          cases hf
      unfold cutL
      rw [this]
      rfl
    | succ m =>
      have hm2:m<R.length:=by simpa using hm
      rw [List.getD_cons_succ] at ht
      have:R.any f=true:=List.any_eq_true.2 ⟨R.getD m d,by simp [List.getD,hm2],ht⟩
      unfold cutL
      rw [this,if_pos rfl,List.drop_succ_cons]
      exact ih hm2 ht (fun n h1 h2=>by
        have:=hl (n+1) (by omega) (by simp only [List.length_cons];omega)
        rwa [List.getD_cons_succ] at this)
theorem prL_step {α:Type} (cl:α→α→Bool) (n:Nat) (a:α) (R:List α):prL cl (n+1) (a :: R)=a :: prL cl n (cutL (cl a) R):=rfl
/-- How often is no matter, if it is often enough. -/
theorem prL_fuel {α:Type} (cl:α→α→Bool):∀ (n m:Nat) (R:List α),R.length≤n→R.length≤m→prL cl n R=prL cl m R:=by
  intro n
  induction n with
  | zero =>
    intro m R h _
    have:R=[]:=List.eq_nil_of_length_eq_zero (by omega)
    subst this
    rw [prL_nil,prL_nil]
  | succ n ih =>
    intro m R h1 h2
    cases R with
    | nil=>rw [prL_nil,prL_nil]
    | cons a R =>
      cases m with
      | zero=>simp at h2
      | succ m =>
        have hc:=cutL_len (cl a) R
        simp only [List.length_cons] at h1 h2
        rw [prL_step,prL_step,ih m (cutL (cl a) R) (by omega) (by omega)]
/-- Where the removal is: the marks ahead of place i are done. -/
theorem prL_go {α:Type} {cl:α→α→Bool} {pre R Z:List α} {a:α} {n:Nat} (h:pre ++ prL cl (n+1) (a :: R)=Z):(pre ++ [a]) ++ prL cl n (cutL (cl a) R)=Z:=by
  rw [← h,prL_step,List.append_assoc]
  rfl
end Go.Proofs.YtafkoddgefcpnaaGreat
