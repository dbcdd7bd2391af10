/- Ask of package spread and of its reference. -/
import Derived.Test.YtafkoddgefcpnaaGreatRows
import Derived.Test.YtafkoddgefcpnaaGreatZLBaseq153
namespace Go.Proofs.YtafkoddgefcpnaaGreat
open Go.RowKit
set_option linter.unusedVariables false

/-- The spread of a mark as a fraction; 0 for a mark without items. -/
def spR (m:Mrk):Int × Int:=if m.n=0 then (0,1) else (quoN (spM m) m.n,quoD (spM m) m.n)
theorem spR_0 {m:Mrk} (h:m.n=0):spR m=(0,1):=if_pos h
theorem spR_yes {m:Mrk} (h:myM m=true):spR m=(quoN (spM m) m.n,quoD (spM m) m.n):=if_neg (by have:=(myM_true h).1;omega)
theorem spR_valid {m:Mrk} (h:m.n=0∨myM m=true):validB (spR m).1 (spR m).2=true∧In (spR m).1∧In (spR m).2:=by
  rcases h with h | h
  · rw [spR_0 h];exact ⟨valid_one 0,⟨by decide,by decide⟩,⟨by decide,by decide⟩⟩
  · rw [spR_yes h]
    obtain ⟨_,h1,h2,h3,_⟩:=quo_yes (spM_fit h)
    exact ⟨h3,h1,h2⟩
theorem enM_ok14 {P:Mrk→Prop} {now v:Int} {X:List Mrk} (h0:P mk0) (h:∀ j,j<X.length→P (X.getD j mk0)):P (enM now v X).1∧P (enM now v X).2:=by
  match X,h with
  | [],_=>exact ⟨h0,h0⟩
  | [a],h=>exact ⟨h 0 (by simp),h 0 (by simp)⟩
  | a :: b :: R,h =>
    have ha:P a:=h 0 (by simp)
    have hb:P b:=h 1 (by simp)
    simp only [enM]
    split
    · exact ⟨ha,ha⟩
    · split
      · exact ⟨hb,hb⟩
      · exact ⟨hb,ha⟩
/-- Ask's answer. -/
def akS (ok:Bool) (a b:Int × Int):Value:=if ok=true then .tuple #[.agg #[.int .i64 a.1,.int .i64 a.2,.int .i64 a.1,.int .i64 a.2,.int .i64 b.1,.int .i64 b.2],.int .i64 0] else .tuple #[.agg #[.int .i64 0,.int .i64 0,.int .i64 0,.int .i64 0,.int .i64 0,.int .i64 0],.int .i64 2]
theorem stP_my {v q c now seq:Int} {X:List Mrk} (h:stP v q c now seq X=true):(∀ j,j<X.length→myM (X.getD j mk0)=true)∧(X.length=1→liveB now v (X.getD 0 mk0).t=true)∧∀ j,j<X.length→bdM (X.getD j mk0):=by
  obtain ⟨hm,hx,_⟩:=stP_true h
  obtain ⟨g1,g2,hc,g4⟩:=mayC_facts hm
  obtain ⟨hs2,hok⟩:=mrkB_true hx
  have hm4:mayM 4 v q c now=true:=by unfold mayM;rw [hm];rfl
  exact ⟨fun j hj=>(hok j hj).my hc.2,fun h1=>((okB_pk hm4).1 (hok 0 (by omega))).1.2.2 (Or.inr h1),fun j hj=>(hok j hj).bd hc.2 hs2.2⟩

set_option maxHeartbeats 4000000 in
set_option maxRecDepth 100000 in
theorem spreadOf_0 (sq t s q lo hi:Int) (w:World) :
    Calls Tryz.prog 37 #[.agg #[.int .i64 sq,.int .i64 t,.int .i64 0,.int .i64 s,.int .i64 q,.int .i64 lo,.int .i64 hi]] w fun e w'=>e=.returned (.agg #[.int .i64 0,.int .i64 1])∧Up w w':=by
  have KO:=Lib.hid (ofr_up 0)
  go_enter Tryz.func37,Tryz.ntmps37
  go_wp2_with (go_at_call 74;(with_reducible refine (KO.out _).mono ?_);rintro e w1 ⟨rfl,hu⟩;have HU1:=Lib.hid ((((Up.refl w).alloc _ _).alloc _ _).trans hu);have r0:=hu.keep (w.heap.size+1) 0 (.int .i64 0) (by simp [go_sem]);have r1:=hu.keep (w.heap.size+1) 1 (.int .i64 0) (by simp [go_sem]);have z0:=HU1.out.ownGe (g:=w.heap.size+1) (by omega) 0;have z1:=HU1.out.ownGe (g:=w.heap.size+1) (by omega) 1;clear hu)
  refine bodyPost_ret (v:=.agg #[.int .i64 0,.int .i64 1]) (by simp [results,Tryz.results37,go_sem,r0,r1]) rfl ⟨rfl,?_⟩
  exact HU1.out.setP2 (by omega)
set_option maxHeartbeats 4000000 in
set_option maxRecDepth 100000 in
theorem spreadOf_yes (sq t nn s qq lo hi:Int) (h:myM ⟨sq,t,nn,s,qq,lo,hi⟩=true) (w:World) :
    Calls Tryz.prog 37 #[.agg #[.int .i64 sq,.int .i64 t,.int .i64 nn,.int .i64 s,.int .i64 qq,.int .i64 lo,.int .i64 hi]] w fun e w'=>e=.returned (.agg #[.int .i64 (spR ⟨sq,t,nn,s,qq,lo,hi⟩).1,.int .i64 (spR ⟨sq,t,nn,s,qq,lo,hi⟩).2])∧Up w w':=by
  have KO:=Lib.hid (of14_yes sq t nn s qq lo hi h)
  have hn:¬ (nn=0):=by have:=(myM_true h).1;simp only at this;omega
  have hnb:(nn == 0)=false:=beq_eq_false_iff_ne.2 hn
  rw [spR_yes h]
  simp only [gotR] at KO ⊢
  generalize quoN (spM ⟨sq,t,nn,s,qq,lo,hi⟩) nn=x at *
  generalize quoD (spM ⟨sq,t,nn,s,qq,lo,hi⟩) nn=y at *
  clear h
  go_enter Tryz.func37,Tryz.ntmps37
  go_upto_region 4 with (go_at_call 25;(with_reducible refine (KO.out _).mono ?_);rintro e w1 ⟨rfl,hu⟩;have HU1:=Lib.hid ((((Up.refl w).alloc _ _).alloc _ _).trans hu);have r0:=hu.keep (w.heap.size+1) 0 (.int .i64 0) (by simp [go_sem]);have r1:=hu.keep (w.heap.size+1) 1 (.int .i64 0) (by simp [go_sem]);have z0:=HU1.out.ownGe (g:=w.heap.size+1) (by omega) 0;have z1:=HU1.out.ownGe (g:=w.heap.size+1) (by omega) 1;clear hu)
  obtain ⟨w2,hw2⟩:∃ u,u=w1.alloc (.cells #[.int .i64 x,.int .i64 y] 31):=⟨_,rfl⟩
  rw [← hw2]
  have hv2:Up w1 w2:=by rw [hw2];exact (Up.refl _).alloc _ _
  have HU2:=Lib.hid (HU1.out.trans hv2)
  obtain ⟨e0,e1⟩:w2.cell? ⟨w1.heap.size,0,none⟩=some (.int .i64 x)∧w2.cell? ⟨w1.heap.size,1,none⟩=some (.int .i64 y):=by rw [hw2];simp [go_sem]
  have q0:=hv2.keep _ _ _ r0
  have q1:=hv2.keep _ _ _ r1
  have f0:=HU2.out.ownGe (g:=w.heap.size+1) (by omega) 0
  have f1:=HU2.out.ownGe (g:=w.heap.size+1) (by omega) 1
  clear hw2 hv2 r0 r1 z0 z1
  go_wp2_with fail
  refine bodyPost_ret (v:=.agg #[.int .i64 x,.int .i64 y]) (by simp [results,Tryz.results37,go_sem,q0,q1]) rfl ⟨rfl,?_⟩
  exact HU2.out.setP2 (by omega)
theorem spreadOf_up (m:Mrk) (h:m.n=0∨myM m=true) (w:World) :
    Calls Tryz.prog 37 #[.agg #[.int .i64 m.sq,.int .i64 m.t,.int .i64 m.n,.int .i64 m.s,.int .i64 m.q,.int .i64 m.lo,.int .i64 m.hi]] w fun e w'=>e=.returned (.agg #[.int .i64 (spR m).1,.int .i64 (spR m).2])∧Up w w':=by
  rcases h with h | h
  · rw [spR_0 h]
    have:=spreadOf_0 m.sq m.t m.s m.q m.lo m.hi w
    rw [← h] at this
    rw [h] at this ⊢
    exact this
  · exact spreadOf_yes m.sq m.t m.n m.s m.q m.lo m.hi h w

end Go.Proofs.YtafkoddgefcpnaaGreat
