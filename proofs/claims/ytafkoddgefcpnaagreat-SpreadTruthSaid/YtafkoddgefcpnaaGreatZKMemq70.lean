/- Texts of these claims, one after the other. -/
import Derived.Test.YtafkoddgefcpnaaGreatRows
import Derived.Test.YtafkoddgefcpnaaGreatZIMathq53
namespace Go.Proofs.YtafkoddgefcpnaaGreat
open Go.RowKit
set_option linter.unusedVariables false

/-- The cells of a mark. -/
def cM (m:Mrk):List Value:=[.int .i64 m.sq,.int .i64 m.t,.int .i64 m.n,.int .i64 m.s,.int .i64 m.q,.int .i64 m.lo,.int .i64 m.hi]
theorem cM_len (m:Mrk):(cM m).length=7:=rfl
theorem cM_one (m:Mrk):∀ u ∈ cM m,u.oneCell'=true:=by
  intro u hu
  simp only [cM,List.mem_cons,List.mem_nil_iff,or_false] at hu
  rcases hu with rfl | rfl | rfl | rfl | rfl | rfl | rfl <;> rfl
theorem mrk_at {w:World} {A:Option Addr} {n:Nat} {L:List Mrk} (h:SG cM w A n L) (d:Mrk) {k:Nat} (hk:k<n) :
    ∃ b o,A=some ⟨b,o,none⟩∧w.cell? ⟨b,o+k * 7,none⟩=some (.int .i64 (L.getD k d).sq)∧w.cell? ⟨b,o+k * 7+1,none⟩=some (.int .i64 (L.getD k d).t)∧w.cell? ⟨b,o+k * 7+2,none⟩=some (.int .i64 (L.getD k d).n)∧w.cell? ⟨b,o+k * 7+3,none⟩=some (.int .i64 (L.getD k d).s)∧w.cell? ⟨b,o+k * 7+4,none⟩=some (.int .i64 (L.getD k d).q)∧w.cell? ⟨b,o+k * 7+5,none⟩=some (.int .i64 (L.getD k d).lo)∧w.cell? ⟨b,o+k * 7+6,none⟩=some (.int .i64 (L.getD k d).hi):=by
  obtain ⟨b,o,e,hc⟩:=h.at_ cM_len d hk
  exact ⟨b,o,e,hc 0 _ (by omega) rfl,hc 1 _ (by omega) rfl,hc 2 _ (by omega) rfl,hc 3 _ (by omega) rfl,hc 4 _ (by omega) rfl,hc 5 _ (by omega) rfl,hc 6 _ (by omega) rfl⟩
theorem Up.set7 {w0 w:World} {p:Nat} {v0 v1 v2 v3 v4 v5 v6:Value} (h:Up w0 w) (hp:w0.heap.size≤p):Up w0 (((((((w.setCell ⟨p,0,none⟩ v0).setCell ⟨p,1,none⟩ v1).setCell ⟨p,2,none⟩ v2).setCell ⟨p,3,none⟩ v3).setCell ⟨p,4,none⟩ v4).setCell ⟨p,5,none⟩ v5).setCell ⟨p,6,none⟩ v6) :=
  ((((((h.setCell hp _).setCell hp _).setCell hp _).setCell hp _).setCell hp _).setCell hp _).setCell hp _
theorem SG.off7 {α:Type} {f:α→List Value} {w:World} {A:Option Addr} {n p:Nat} {M:List α} (h:SG f w A n M) (hn:∀ b o,A=some ⟨b,o,none⟩→b ≠ p) (v0 v1 v2 v3 v4 v5 v6:Value):SG f (((((((w.setCell ⟨p,0,none⟩ v0).setCell ⟨p,1,none⟩ v1).setCell ⟨p,2,none⟩ v2).setCell ⟨p,3,none⟩ v3).setCell ⟨p,4,none⟩ v4).setCell ⟨p,5,none⟩ v5).setCell ⟨p,6,none⟩ v6) A n M :=
  ((((((h.off hn _).off hn _).off hn _).off hn _).off hn _).off hn _).off hn _
theorem Sl.off7 {w:World} {A:Option Addr} {n p:Nat} {M:List It} (h:Sl w A n M) (hn:∀ b o,A=some ⟨b,o,none⟩→b ≠ p) (v0 v1 v2 v3 v4 v5 v6:Value):Sl (((((((w.setCell ⟨p,0,none⟩ v0).setCell ⟨p,1,none⟩ v1).setCell ⟨p,2,none⟩ v2).setCell ⟨p,3,none⟩ v3).setCell ⟨p,4,none⟩ v4).setCell ⟨p,5,none⟩ v5).setCell ⟨p,6,none⟩ v6) A n M :=
  ((((((h.off hn _).off hn _).off hn _).off hn _).off hn _).off hn _).off hn _
theorem cells7 {w:World} {p:Nat} {v0 v1 v2 v3 v4 v5 v6 x0 x1 x2 x3 x4 x5 x6:Value} (e0:w.cell? ⟨p,0,none⟩=some x0) (e1:w.cell? ⟨p,1,none⟩=some x1) (e2:w.cell? ⟨p,2,none⟩=some x2) (e3:w.cell? ⟨p,3,none⟩=some x3) (e4:w.cell? ⟨p,4,none⟩=some x4) (e5:w.cell? ⟨p,5,none⟩=some x5) (e6:w.cell? ⟨p,6,none⟩=some x6) :
    let W:=((((((w.setCell ⟨p,0,none⟩ v0).setCell ⟨p,1,none⟩ v1).setCell ⟨p,2,none⟩ v2).setCell ⟨p,3,none⟩ v3).setCell ⟨p,4,none⟩ v4).setCell ⟨p,5,none⟩ v5).setCell ⟨p,6,none⟩ v6
    W.cell? ⟨p,0,none⟩=some v0∧W.cell? ⟨p,1,none⟩=some v1∧W.cell? ⟨p,2,none⟩=some v2∧W.cell? ⟨p,3,none⟩=some v3∧W.cell? ⟨p,4,none⟩=some v4∧W.cell? ⟨p,5,none⟩=some v5∧W.cell? ⟨p,6,none⟩=some v6 :=
  ⟨cell_set (cell_set (cell_set (cell_set (cell_set (cell_set (cell_set (e0))))))),cell_set (cell_set (cell_set (cell_set (cell_set (cell_set (cell_set (e1))))))),cell_set (cell_set (cell_set (cell_set (cell_set (cell_set (cell_set (e2))))))),cell_set (cell_set (cell_set (cell_set (cell_set (cell_set (cell_set (e3))))))),cell_set (cell_set (cell_set (cell_set (cell_set (cell_set (cell_set (e4))))))),cell_set (cell_set (cell_set (cell_set (cell_set (cell_set (cell_set (e5))))))),cell_set (cell_set (cell_set (cell_set (cell_set (cell_set (cell_set (e6)))))))⟩
theorem far7 {w:World} {p g o:Nat} {v0 v1 v2 v3 v4 v5 v6:Value} {u:Value} (h:w.cell? ⟨g,o,none⟩=some u) (hp:p ≠ g):(((((((w.setCell ⟨p,0,none⟩ v0).setCell ⟨p,1,none⟩ v1).setCell ⟨p,2,none⟩ v2).setCell ⟨p,3,none⟩ v3).setCell ⟨p,4,none⟩ v4).setCell ⟨p,5,none⟩ v5).setCell ⟨p,6,none⟩ v6).cell? ⟨g,o,none⟩=some u :=
  (cell_far hp).trans ((cell_far hp).trans ((cell_far hp).trans ((cell_far hp).trans ((cell_far hp).trans ((cell_far hp).trans ((cell_far hp).trans h))))))
theorem keepK7 {w w1 w2:World} {b0 o0 b1 o1 b2 o2 b3 o3 b4 o4 b5 o5 b6 o6:Nat} {x0 x1 x2 x3 x4 x5 x6:Value} (hu:Hid (Up w1 w2)) (h:Up w w1∧w1.cell? ⟨b0,o0,none⟩=some x0∧w1.cell? ⟨b1,o1,none⟩=some x1∧w1.cell? ⟨b2,o2,none⟩=some x2∧w1.cell? ⟨b3,o3,none⟩=some x3∧w1.cell? ⟨b4,o4,none⟩=some x4∧w1.cell? ⟨b5,o5,none⟩=some x5∧w1.cell? ⟨b6,o6,none⟩=some x6):Up w w2∧w2.cell? ⟨b0,o0,none⟩=some x0∧w2.cell? ⟨b1,o1,none⟩=some x1∧w2.cell? ⟨b2,o2,none⟩=some x2∧w2.cell? ⟨b3,o3,none⟩=some x3∧w2.cell? ⟨b4,o4,none⟩=some x4∧w2.cell? ⟨b5,o5,none⟩=some x5∧w2.cell? ⟨b6,o6,none⟩=some x6 :=
  ⟨h.1.trans hu.out,hu.out.keep _ _ _ h.2.1,hu.out.keep _ _ _ h.2.2.1,hu.out.keep _ _ _ h.2.2.2.1,hu.out.keep _ _ _ h.2.2.2.2.1,hu.out.keep _ _ _ h.2.2.2.2.2.1,hu.out.keep _ _ _ h.2.2.2.2.2.2.1,hu.out.keep _ _ _ h.2.2.2.2.2.2.2⟩
theorem keepK14 {w w1 w2:World} {b0 o0 b1 o1 b2 o2 b3 o3 b4 o4 b5 o5 b6 o6 b7 o7 b8 o8 b9 o9 b10 o10 b11 o11 b12 o12 b13 o13:Nat} {x0 x1 x2 x3 x4 x5 x6 x7 x8 x9 x10 x11 x12 x13:Value} (hu:Hid (Up w1 w2)) (h:Up w w1∧w1.cell? ⟨b0,o0,none⟩=some x0∧w1.cell? ⟨b1,o1,none⟩=some x1∧w1.cell? ⟨b2,o2,none⟩=some x2∧w1.cell? ⟨b3,o3,none⟩=some x3∧w1.cell? ⟨b4,o4,none⟩=some x4∧w1.cell? ⟨b5,o5,none⟩=some x5∧w1.cell? ⟨b6,o6,none⟩=some x6∧w1.cell? ⟨b7,o7,none⟩=some x7∧w1.cell? ⟨b8,o8,none⟩=some x8∧w1.cell? ⟨b9,o9,none⟩=some x9∧w1.cell? ⟨b10,o10,none⟩=some x10∧w1.cell? ⟨b11,o11,none⟩=some x11∧w1.cell? ⟨b12,o12,none⟩=some x12∧w1.cell? ⟨b13,o13,none⟩=some x13):Up w w2∧w2.cell? ⟨b0,o0,none⟩=some x0∧w2.cell? ⟨b1,o1,none⟩=some x1∧w2.cell? ⟨b2,o2,none⟩=some x2∧w2.cell? ⟨b3,o3,none⟩=some x3∧w2.cell? ⟨b4,o4,none⟩=some x4∧w2.cell? ⟨b5,o5,none⟩=some x5∧w2.cell? ⟨b6,o6,none⟩=some x6∧w2.cell? ⟨b7,o7,none⟩=some x7∧w2.cell? ⟨b8,o8,none⟩=some x8∧w2.cell? ⟨b9,o9,none⟩=some x9∧w2.cell? ⟨b10,o10,none⟩=some x10∧w2.cell? ⟨b11,o11,none⟩=some x11∧w2.cell? ⟨b12,o12,none⟩=some x12∧w2.cell? ⟨b13,o13,none⟩=some x13 :=
  ⟨h.1.trans hu.out,hu.out.keep _ _ _ h.2.1,hu.out.keep _ _ _ h.2.2.1,hu.out.keep _ _ _ h.2.2.2.1,hu.out.keep _ _ _ h.2.2.2.2.1,hu.out.keep _ _ _ h.2.2.2.2.2.1,hu.out.keep _ _ _ h.2.2.2.2.2.2.1,hu.out.keep _ _ _ h.2.2.2.2.2.2.2.1,hu.out.keep _ _ _ h.2.2.2.2.2.2.2.2.1,hu.out.keep _ _ _ h.2.2.2.2.2.2.2.2.2.1,hu.out.keep _ _ _ h.2.2.2.2.2.2.2.2.2.2.1,hu.out.keep _ _ _ h.2.2.2.2.2.2.2.2.2.2.2.1,hu.out.keep _ _ _ h.2.2.2.2.2.2.2.2.2.2.2.2.1,hu.out.keep _ _ _ h.2.2.2.2.2.2.2.2.2.2.2.2.2.1,hu.out.keep _ _ _ h.2.2.2.2.2.2.2.2.2.2.2.2.2.2⟩
end Go.Proofs.YtafkoddgefcpnaaGreat

namespace Go.Proofs.YtafkoddgefcpnaaGreat
open Go.RowKit
set_option linter.unusedVariables false

set_option maxHeartbeats 4000000 in
set_option maxRecDepth 100000 in
theorem validSizes13_any (g q c:Int) (w:World) :
    Calls Tryz.prog 79 #[.int .i64 g,.int .i64 q,.int .i64 c] w fun e w'=>e=.returned (.bool ((agB g && (decide (1≤q∧q≤64) && decide (1≤c∧c≤65536)))))∧w=w':=by
  have HV:(agB g && (decide (1≤q∧q≤64) && decide (1≤c∧c≤65536)))=decide (1≤g∧g≤4∧1≤q∧q≤64∧1≤c∧c≤65536):=by unfold agB;simp [Bool.decide_and,Bool.and_assoc]
  rw [HV]
  clear HV
  have HB:Hid (∀ _:¬ (1≤g∧g≤4∧1≤q∧q≤64∧1≤c∧c≤65536),decide (1≤g∧g≤4∧1≤q∧q≤64∧1≤c∧c≤65536)=false):=Lib.hid (fun h=>decide_eq_false h)
  have HT:Hid (1≤g∧g≤4∧1≤q∧q≤64∧1≤c∧c≤65536→decide (1≤g∧g≤4∧1≤q∧q≤64∧1≤c∧c≤65536)=true):=Lib.hid (fun h=>decide_eq_true h)
  generalize decide (1≤g∧g≤4∧1≤q∧q≤64∧1≤c∧c≤65536)=r at *
  by_cases h0:¬ (1≤g)
  · obtain rfl:r=false:=HB.out (fun h=>h0 h.1)
    clear HB HT
    go_enter Tryz.func79,Tryz.ntmps79
    go_wp2
    go_ret
    exact ⟨rfl,rfl⟩
  have h0:=Classical.not_not.1 h0
  by_cases h1:¬ (g≤4)
  · obtain rfl:r=false:=HB.out (fun h=>h1 h.2.1)
    clear HB HT
    go_enter Tryz.func79,Tryz.ntmps79
    go_wp2
    go_ret
    exact ⟨rfl,rfl⟩
  have h1:=Classical.not_not.1 h1
  by_cases h2:¬ (1≤q)
  · obtain rfl:r=false:=HB.out (fun h=>h2 h.2.2.1)
    clear HB HT
    go_enter Tryz.func79,Tryz.ntmps79
    go_wp2
    go_ret
    exact ⟨rfl,rfl⟩
  have h2:=Classical.not_not.1 h2
  by_cases h3:¬ (q≤64)
  · obtain rfl:r=false:=HB.out (fun h=>h3 h.2.2.2.1)
    clear HB HT
    go_enter Tryz.func79,Tryz.ntmps79
    go_wp2
    go_ret
    exact ⟨rfl,rfl⟩
  have h3:=Classical.not_not.1 h3
  by_cases h4:¬ (1≤c)
  · obtain rfl:r=false:=HB.out (fun h=>h4 h.2.2.2.2.1)
    clear HB HT
    go_enter Tryz.func79,Tryz.ntmps79
    go_wp2
    go_ret
    exact ⟨rfl,rfl⟩
  have h4:=Classical.not_not.1 h4
  by_cases h5:¬ (c≤65536)
  · obtain rfl:r=false:=HB.out (fun h=>h5 h.2.2.2.2.2)
    clear HB HT
    go_enter Tryz.func79,Tryz.ntmps79
    go_wp2
    go_ret
    exact ⟨rfl,rfl⟩
  have h5:=Classical.not_not.1 h5
  obtain rfl:r=true:=HT.out ⟨h0,h1,h2,h3,h4,h5⟩
  clear HB HT
  go_enter Tryz.func79,Tryz.ntmps79
  go_wp2
  go_ret
  exact ⟨rfl,rfl⟩

set_option maxHeartbeats 4000000 in
theorem isValue13_any (v g:Int) (w:World) :
    Calls Tryz.prog 66 #[.int .i64 v,.int .i64 g] w fun e w'=>e=.returned (.bool (decide (-4096≤v∧v≤4096∧(0≤v∨¬ (g=2∨g=3)))))∧w=w':=by
  have HB:Hid (∀ _:¬ (-4096≤v∧v≤4096∧(0≤v∨¬ (g=2∨g=3))),decide (-4096≤v∧v≤4096∧(0≤v∨¬ (g=2∨g=3)))=false):=Lib.hid (fun h=>decide_eq_false h)
  have HT:Hid (∀ _:(-4096≤v∧v≤4096∧(0≤v∨¬ (g=2∨g=3))),decide (-4096≤v∧v≤4096∧(0≤v∨¬ (g=2∨g=3)))=true):=Lib.hid (fun h=>decide_eq_true h)
  generalize decide (-4096≤v∧v≤4096∧(0≤v∨¬ (g=2∨g=3)))=r at *
  by_cases h1:g=2
  · subst h1
    by_cases h2:0≤v
    · by_cases h3:v≤4096
      · obtain rfl:r=true:=HT.out ⟨by omega,h3,Or.inl h2⟩
        clear HB HT
        go_enter Tryz.func66,Tryz.ntmps66
        go_wp2
        go_ret
        exact ⟨rfl,rfl⟩
      · obtain rfl:r=false:=HB.out (fun h=>h3 h.2.1)
        clear HB HT
        go_enter Tryz.func66,Tryz.ntmps66
        go_wp2
        go_ret
        exact ⟨rfl,rfl⟩
    · obtain rfl:r=false:=HB.out (fun h=>h.2.2.elim h2 (fun x=>x (Or.inl rfl)))
      clear HB HT
      go_enter Tryz.func66,Tryz.ntmps66
      go_wp2
      go_ret
      exact ⟨rfl,rfl⟩
  by_cases h1b:g=3
  · subst h1b
    clear h1
    by_cases h2:0≤v
    · by_cases h3:v≤4096
      · obtain rfl:r=true:=HT.out ⟨by omega,h3,Or.inl h2⟩
        clear HB HT
        go_enter Tryz.func66,Tryz.ntmps66
        go_wp2
        go_ret
        exact ⟨rfl,rfl⟩
      · obtain rfl:r=false:=HB.out (fun h=>h3 h.2.1)
        clear HB HT
        go_enter Tryz.func66,Tryz.ntmps66
        go_wp2
        go_ret
        exact ⟨rfl,rfl⟩
    · obtain rfl:r=false:=HB.out (fun h=>h.2.2.elim h2 (fun x=>x (Or.inr rfl)))
      clear HB HT
      go_enter Tryz.func66,Tryz.ntmps66
      go_wp2
      go_ret
      exact ⟨rfl,rfl⟩
  have t1:(g == 2)=false:=beq_eq_false_iff_ne.2 h1
  have t2:(g == 3)=false:=beq_eq_false_iff_ne.2 h1b
  have hx:Hid (¬ (g=2∨g=3)):=Lib.hid (fun h=>h.elim h1 h1b)
  by_cases h2:-4096≤v
  · by_cases h3:v≤4096
    · obtain rfl:r=true:=HT.out ⟨h2,h3,Or.inr hx.out⟩
      clear HB HT
      go_enter Tryz.func66,Tryz.ntmps66
      go_wp2
      go_ret
      exact ⟨rfl,rfl⟩
    · obtain rfl:r=false:=HB.out (fun h=>h3 h.2.1)
      clear HB HT
      go_enter Tryz.func66,Tryz.ntmps66
      go_wp2
      go_ret
      exact ⟨rfl,rfl⟩
  · obtain rfl:r=false:=HB.out (fun h=>h2 h.1)
    clear HB HT
    go_enter Tryz.func66,Tryz.ntmps66
    go_wp2
    go_ret
    exact ⟨rfl,rfl⟩
theorem valG_form {g v:Int} (hg:1≤g∧g≤4):(-4096≤v∧v≤4096∧(0≤v∨¬ (g=2∨g=3))) ↔ valG g v:=by unfold valG;omega
theorem isValueG_any (v g:Int) (hg:1≤g∧g≤4) (w:World) :
    Calls Tryz.prog 66 #[.int .i64 v,.int .i64 g] w fun e w'=>e=.returned (.bool (decide (valG g v)))∧w=w':=by
  rw [show decide (valG g v)=decide (-4096≤v∧v≤4096∧(0≤v∨¬ (g=2∨g=3))) from decide_eq_decide.2 (valG_form hg).symm]
  exact isValue13_any v g w
theorem isLive13_up (g v q c now sq0:Int) (nn k:Nat) (A:Option Addr) (sq t n s qq lo hi:Int) (w:World) :
    Calls Tryz.prog 65 #[.agg #[.int .i64 g,.int .i64 v,.int .i64 q,.int .i64 c,.int .i64 now,.int .i64 sq0,.slice A nn k],.agg #[.int .i64 sq,.int .i64 t,.int .i64 n,.int .i64 s,.int .i64 qq,.int .i64 lo,.int .i64 hi]] w fun e w'=>e=.returned (.bool (liveB now v t))∧Up w w':=by
  have KL:=Lib.hid (live_any now v t)
  generalize liveB now v t=r at *
  go_enter Tryz.func65,Tryz.ntmps65
  go_wp2_with (go_at_call 99;(with_reducible refine (KL.out _).mono ?_);rintro e w' ⟨rfl,rfl⟩)
  go_ret
  exact ⟨rfl,((Up.refl w).alloc _ _).alloc _ _⟩

theorem fit_facts {n s q lo hi:Int} (h1:1≤n) (h2:n≤65536) (h3:-4096≤lo) (h4:lo≤4096) (h5:-4096≤hi) (h6:hi≤4096):(-268435456≤n * lo∧n * lo≤268435456)∧(-268435456≤n * hi∧n * hi≤268435456)∧(n * 4096 * 4096≤1099511627776):=by
  have a1:n * (-4096)≤n * lo:=Int.mul_le_mul_of_nonneg_left h3 (by omega)
  have a2:n * lo≤n * 4096:=Int.mul_le_mul_of_nonneg_left h4 (by omega)
  have a3:n * (-4096)≤n * hi:=Int.mul_le_mul_of_nonneg_left h5 (by omega)
  have a4:n * hi≤n * 4096:=Int.mul_le_mul_of_nonneg_left h6 (by omega)
  omega
theorem fit_facts2 {n s q lo hi:Int} (h1:1≤n) (h2:n≤65536) (h3:-4096≤lo) (h4:lo≤4096) (h5:-4096≤hi) (h6:hi≤4096) (a:n * lo≤s) (b:s≤n * hi) (c:0≤q) (d:q≤n * 4096 * 4096):(0≤s * s∧s * s≤72057594037927936)∧(0≤n * q∧n * q≤72057594037927936):=by
  obtain ⟨x1,x2,x3⟩:=fit_facts (s:=s) (q:=q) h1 h2 h3 h4 h5 h6
  have y1:=sq_bd (x:=s) (m:=268435456) (by omega) (by omega)
  have y2:=sq_nn s
  have y3:0≤n * q:=Int.mul_nonneg (by omega) c
  have y4:n * q≤65536 * q:=Int.mul_le_mul_of_nonneg_right h2 c
  omega

set_option maxHeartbeats 4000000 in
set_option maxRecDepth 100000 in
theorem fit13_any (n s q lo hi:Int) (h1:1≤n) (h2:n≤65536) (h3:-4096≤lo) (h4:lo≤4096) (h5:-4096≤hi) (h6:hi≤4096) (w:World) :
    Calls Tryz.prog 115 #[.int .i64 n,.int .i64 s,.int .i64 q,.int .i64 lo,.int .i64 hi] w fun e w'=>e=.returned (.bool (decide (prtP n s q lo hi)))∧w=w':=by
  obtain ⟨⟨x1,x2⟩,⟨x3,x4⟩,x5⟩:=fit_facts (s:=s) (q:=q) h1 h2 h3 h4 h5 h6
  have HF:=Lib.hid (fit_facts2 (s:=s) (q:=q) h1 h2 h3 h4 h5 h6)
  have HB:Hid (∀ _:¬ (n * lo≤s∧s≤n * hi∧0≤q∧q≤n * 4096 * 4096∧s * s≤n * q),decide (prtP n s q lo hi)=false):=Lib.hid (fun h=>decide_eq_false h)
  have HT:Hid (n * lo≤s∧s≤n * hi∧0≤q∧q≤n * 4096 * 4096∧s * s≤n * q→decide (prtP n s q lo hi)=true):=Lib.hid (fun h=>decide_eq_true h)
  generalize decide (prtP n s q lo hi)=r at *
  have z1:0≤n * 4096 * 4096:=by omega
  by_cases k0:¬ (n * lo≤s)
  · obtain rfl:r=false:=HB.out (fun h=>k0 h.1)
    have u0:=Int.not_le.1 k0
    clear HB HT HF
    go_enter Tryz.func115,Tryz.ntmps115
    go_wp2
    go_ret
    exact ⟨rfl,rfl⟩
  have k0:=Classical.not_not.1 k0
  have u0:¬ (s<n * lo):=Int.not_lt.2 k0
  by_cases k1:¬ (s≤n * hi)
  · obtain rfl:r=false:=HB.out (fun h=>k1 h.2.1)
    have u1:=Int.not_le.1 k1
    clear HB HT HF
    go_enter Tryz.func115,Tryz.ntmps115
    go_wp2
    go_ret
    exact ⟨rfl,rfl⟩
  have k1:=Classical.not_not.1 k1
  have u1:¬ (n * hi<s):=Int.not_lt.2 k1
  by_cases k2:¬ (0≤q)
  · obtain rfl:r=false:=HB.out (fun h=>k2 h.2.2.1)
    have u2:=Int.not_le.1 k2
    clear HB HT HF
    go_enter Tryz.func115,Tryz.ntmps115
    go_wp2
    go_ret
    exact ⟨rfl,rfl⟩
  have k2:=Classical.not_not.1 k2
  have u2:¬ (q<0):=Int.not_lt.2 k2
  by_cases k3:¬ (q≤n * 4096 * 4096)
  · obtain rfl:r=false:=HB.out (fun h=>k3 h.2.2.2.1)
    have u3:=Int.not_le.1 k3
    clear HB HT HF
    go_enter Tryz.func115,Tryz.ntmps115
    go_wp2
    go_ret
    exact ⟨rfl,rfl⟩
  have k3:=Classical.not_not.1 k3
  have u3:¬ (n * 4096 * 4096<q):=Int.not_lt.2 k3
  obtain ⟨⟨y1,y2⟩,y3,y4⟩:=HF.out k0 k1 k2 k3
  by_cases k4:¬ (s * s≤n * q)
  · obtain rfl:r=false:=HB.out (fun h=>k4 h.2.2.2.2)
    have u4:=Int.not_le.1 k4
    clear HB HT HF
    go_enter Tryz.func115,Tryz.ntmps115
    go_wp2
    go_ret
    exact ⟨rfl,rfl⟩
  have k4:=Classical.not_not.1 k4
  have u4:¬ (n * q<s * s):=Int.not_lt.2 k4
  obtain rfl:r=true:=HT.out ⟨k0,k1,k2,k3,k4⟩
  clear HB HT HF
  go_enter Tryz.func115,Tryz.ntmps115
  go_wp2
  go_ret
  exact ⟨rfl,rfl⟩

end Go.Proofs.YtafkoddgefcpnaaGreat

namespace Go.Proofs.YtafkoddgefcpnaaGreat
open Go.RowKit
set_option linter.unusedVariables false

def mkB (g c now seq:Int) (m:Mrk):Bool:=decide (1≤m.sq∧m.sq≤seq∧m.n=seq - m.sq+1∧m.n≤c∧0≤m.t∧m.t≤now∧valG g m.lo∧valG g m.hi∧m.lo≤m.hi∧prtP m.n m.s m.q m.lo m.hi)
def spB (a b:Mrk):Bool:=decide (a.sq<b.sq∧a.t≤b.t∧a.lo≤b.lo∧b.hi≤a.hi∧prtP (a.n - b.n) (a.s - b.s) (a.q - b.q) a.lo a.hi)
def laB (seq:Int) (m:Mrk):Bool:=decide (m.sq=seq∧m.lo=m.s∧m.hi=m.s∧m.q=m.s * m.s)
/-- How great the numbers of a mark are. -/
def bdM (m:Mrk):Prop:=(1≤m.n∧m.n≤65536)∧(-268435456≤m.s∧m.s≤268435456)∧(0≤m.q∧m.q≤1099511627776)∧(-4096≤m.lo∧m.lo≤4096)∧(-4096≤m.hi∧m.hi≤4096)∧(1≤m.sq∧m.sq≤1099511627776)
theorem mkB_bd {g c now seq:Int} {m:Mrk} (h:mkB g c now seq m=true) (hc:c≤65536) (hs:seq≤1099511627776):bdM m:=by
  obtain ⟨a1,a2,a3,a4,a5,a6,a7,a8,a9,a10⟩:=of_decide_eq_true h
  obtain ⟨p1,p2,p3,p4⟩:=prt_bd a10 (by omega) a7.1 a8.2.1
  exact ⟨⟨by omega,by omega⟩,⟨by omega,by omega⟩,⟨p3,by omega⟩,⟨a7.1,a7.2.1⟩,⟨a8.1,a8.2.1⟩,⟨a1,by omega⟩⟩
/-- What the code asks of a mark within its loop. -/
def pkB (g v c now seq:Int) (X:List Mrk) (j:Nat):Prop:=mkB g c now seq (X.getD j mk0)=true∧(0<j→spB (X.getD (j - 1) mk0) (X.getD j mk0)=true)∧(0<j∨X.length=1→liveB now v (X.getD j mk0).t=true)
theorem okB_pk {g v q c now seq:Int} {X:List Mrk} {j:Nat} (hm:mayM g v q c now=true):OkB g v c now seq X j ↔ pkB g v c now seq X j∧(j+1=X.length→laB seq (X.getD j mk0)=true):=by
  obtain ⟨g1,g2,g3,g4⟩:=mayC_facts (mayM_true hm).2
  rw [okB_iff]
  unfold pkB mkB spB laB
  simp only [decide_eq_true_eq]
  constructor
  · rintro ⟨a1,a2,a3,a4,a5,a6,a7,a8,a9,a10,a11,a12,a13,a14,a15,a16⟩
    exact ⟨⟨⟨a1,a2,a3,a4,a6.1,a6.2,a9,a10,a11,a12⟩,fun h=>⟨a5 h,a7 h,a14 h,a15 h,a16 h⟩,fun h=>(live_iff g4 a6.1).2 ⟨a8 h,a6.2⟩⟩,a13⟩
  · rintro ⟨⟨⟨a1,a2,a3,a4,a5,a6,a7,a8,a9,a10⟩,b,c⟩,d⟩
    exact ⟨a1,a2,a3,a4,fun h=>(b h).1,⟨a5,a6⟩,fun h=>(b h).2.1,fun h=>((live_iff g4 a5).1 (c h)).1,a7,a8,a9,a10,d,fun h=>(b h).2.2.1,fun h=>(b h).2.2.2.1,fun h=>(b h).2.2.2.2⟩
theorem mrkB_pk {g v q c now seq:Int} {X:List Mrk} (hm:mayM g v q c now=true) (hs:sqB seq=true) (h1:∀ j,j<X.length→pkB g v c now seq X j) (h2:0<X.length→laB seq (X.getD (X.length - 1) mk0)=true):mrkB g v c now seq X=true:=by
  have:=sqB_true hs
  refine mrkB_yes this.1 this.2 (fun j hj=>(okB_pk hm).2 ⟨h1 j hj,fun e=>?_⟩)
  rw [show j=X.length - 1 by omega]
  exact h2 (by omega)
theorem mrkB_nopk {g v q c now seq:Int} {X:List Mrk} {j:Nat} (hm:mayM g v q c now=true) (hj:j<X.length) (h:¬ pkB g v c now seq X j):mrkB g v c now seq X=false:=mrkB_bad hj (fun hx=>h ((okB_pk hm).1 hx).1)
theorem mrkB_nola {g v q c now seq:Int} {X:List Mrk} (hm:mayM g v q c now=true) (hj:0<X.length) (h:laB seq (X.getD (X.length - 1) mk0)=false):mrkB g v c now seq X=false :=
  mrkB_bad (j:=X.length - 1) (by omega) (fun hx=>by rw [((okB_pk hm).1 hx).2 (by omega)] at h;cases h)

set_option maxHeartbeats 4000000 in
set_option maxRecDepth 100000 in
theorem validMark_up (g v q c now seq:Int) (nn k:Nat) (A:Option Addr) (sq t n s qq lo hi:Int) (hg:1≤g∧g≤4) (hc:1≤c∧c≤65536) (hs:0≤seq∧seq≤1099511627776) (w:World) :
    Calls Tryz.prog 101 #[.agg #[.int .i64 g,.int .i64 v,.int .i64 q,.int .i64 c,.int .i64 now,.int .i64 seq,.slice A nn k],.agg #[.int .i64 sq,.int .i64 t,.int .i64 n,.int .i64 s,.int .i64 qq,.int .i64 lo,.int .i64 hi]] w fun e w'=>e=.returned (.bool (mkB g c now seq ⟨sq,t,n,s,qq,lo,hi⟩))∧Up w w':=by
  have K1:=Lib.hid (isValueG_any lo g hg)
  have K2:=Lib.hid (isValueG_any hi g hg)
  have KF:=Lib.hid (fit13_any n s qq lo hi)
  have HB:Hid (∀ _:¬ (1≤sq∧sq≤seq∧n=seq - sq+1∧n≤c∧0≤t∧t≤now∧valG g lo∧valG g hi∧lo≤hi∧prtP n s qq lo hi),mkB g c now seq ⟨sq,t,n,s,qq,lo,hi⟩=false):=Lib.hid (fun h=>decide_eq_false h)
  have HT:Hid (∀ _:1≤sq∧sq≤seq∧n=seq - sq+1∧n≤c∧0≤t∧t≤now∧valG g lo∧valG g hi∧lo≤hi∧prtP n s qq lo hi,mkB g c now seq ⟨sq,t,n,s,qq,lo,hi⟩=true):=Lib.hid (fun h=>decide_eq_true h)
  generalize mkB g c now seq ⟨sq,t,n,s,qq,lo,hi⟩=r at *
  have HU:Hid (∀ a b x y,Up w ((w.alloc (.cells a x)).alloc (.cells b y))):=Lib.hid (fun a b x y=>((Up.refl w).alloc _ _).alloc _ _)
  by_cases k0:¬ (1≤sq)
  · obtain rfl:r=false:=HB.out (fun h=>k0 h.1)
    clear HB HT KF
    have KF2:Hid (∀ w:World,True):=Lib.hid (fun _=>trivial)
    go_enter Tryz.func101,Tryz.ntmps101
    go_wp2_with (first | (go_at_call 66;(with_reducible refine (K1.out _).mono ?_);rintro e w' ⟨rfl,rfl⟩) | (go_at_call 66;(with_reducible refine (K2.out _).mono ?_);rintro e w' ⟨rfl,rfl⟩) | (go_at_call 115;(with_reducible refine (KF2.out _).mono ?_);rintro e w' ⟨rfl,rfl⟩))
    go_ret
    exact ⟨rfl,HU.out _ _ _ _⟩
  have k0:=Classical.not_not.1 k0
  have u0:¬ (sq<1):=by omega
  by_cases k1:¬ (sq≤seq)
  · obtain rfl:r=false:=HB.out (fun h=>k1 h.2.1)
    clear HB HT KF
    have KF2:Hid (∀ w:World,True):=Lib.hid (fun _=>trivial)
    go_enter Tryz.func101,Tryz.ntmps101
    go_wp2_with (first | (go_at_call 66;(with_reducible refine (K1.out _).mono ?_);rintro e w' ⟨rfl,rfl⟩) | (go_at_call 66;(with_reducible refine (K2.out _).mono ?_);rintro e w' ⟨rfl,rfl⟩) | (go_at_call 115;(with_reducible refine (KF2.out _).mono ?_);rintro e w' ⟨rfl,rfl⟩))
    go_ret
    exact ⟨rfl,HU.out _ _ _ _⟩
  have k1:=Classical.not_not.1 k1
  have u1:¬ (seq<sq):=by omega
  by_cases k2:¬ (n=seq - sq+1)
  · obtain rfl:r=false:=HB.out (fun h=>k2 h.2.2.1)
    have u2:(n == seq - sq+1)=false:=beq_eq_false_iff_ne.2 k2
    clear HB HT KF
    have KF2:Hid (∀ w:World,True):=Lib.hid (fun _=>trivial)
    go_enter Tryz.func101,Tryz.ntmps101
    go_wp2_with (first | (go_at_call 66;(with_reducible refine (K1.out _).mono ?_);rintro e w' ⟨rfl,rfl⟩) | (go_at_call 66;(with_reducible refine (K2.out _).mono ?_);rintro e w' ⟨rfl,rfl⟩) | (go_at_call 115;(with_reducible refine (KF2.out _).mono ?_);rintro e w' ⟨rfl,rfl⟩))
    go_ret
    exact ⟨rfl,HU.out _ _ _ _⟩
  have k2:=Classical.not_not.1 k2
  subst k2
  by_cases k3:¬ (seq - sq+1≤c)
  · obtain rfl:r=false:=HB.out (fun h=>k3 h.2.2.2.1)
    clear HB HT KF
    have KF2:Hid (∀ w:World,True):=Lib.hid (fun _=>trivial)
    go_enter Tryz.func101,Tryz.ntmps101
    go_wp2_with (first | (go_at_call 66;(with_reducible refine (K1.out _).mono ?_);rintro e w' ⟨rfl,rfl⟩) | (go_at_call 66;(with_reducible refine (K2.out _).mono ?_);rintro e w' ⟨rfl,rfl⟩) | (go_at_call 115;(with_reducible refine (KF2.out _).mono ?_);rintro e w' ⟨rfl,rfl⟩))
    go_ret
    exact ⟨rfl,HU.out _ _ _ _⟩
  have k3:=Classical.not_not.1 k3
  have u3:¬ (c<seq - sq+1):=by omega
  by_cases k4:¬ (0≤t)
  · obtain rfl:r=false:=HB.out (fun h=>k4 h.2.2.2.2.1)
    clear HB HT KF
    have KF2:Hid (∀ w:World,True):=Lib.hid (fun _=>trivial)
    go_enter Tryz.func101,Tryz.ntmps101
    go_wp2_with (first | (go_at_call 66;(with_reducible refine (K1.out _).mono ?_);rintro e w' ⟨rfl,rfl⟩) | (go_at_call 66;(with_reducible refine (K2.out _).mono ?_);rintro e w' ⟨rfl,rfl⟩) | (go_at_call 115;(with_reducible refine (KF2.out _).mono ?_);rintro e w' ⟨rfl,rfl⟩))
    go_ret
    exact ⟨rfl,HU.out _ _ _ _⟩
  have k4:=Classical.not_not.1 k4
  have u4:¬ (t<0):=by omega
  by_cases k5:¬ (t≤now)
  · obtain rfl:r=false:=HB.out (fun h=>k5 h.2.2.2.2.2.1)
    clear HB HT KF
    have KF2:Hid (∀ w:World,True):=Lib.hid (fun _=>trivial)
    go_enter Tryz.func101,Tryz.ntmps101
    go_wp2_with (first | (go_at_call 66;(with_reducible refine (K1.out _).mono ?_);rintro e w' ⟨rfl,rfl⟩) | (go_at_call 66;(with_reducible refine (K2.out _).mono ?_);rintro e w' ⟨rfl,rfl⟩) | (go_at_call 115;(with_reducible refine (KF2.out _).mono ?_);rintro e w' ⟨rfl,rfl⟩))
    go_ret
    exact ⟨rfl,HU.out _ _ _ _⟩
  have k5:=Classical.not_not.1 k5
  have u5:¬ (now<t):=by omega
  have KF2:Hid (∀ w:World,True):=Lib.hid (fun _=>trivial)
  by_cases k6:¬ (valG g lo)
  · obtain rfl:r=false:=HB.out (fun h=>k6 h.2.2.2.2.2.2.1)
    rw [decide_eq_false k6] at K1
    clear k6
    clear HB HT KF
    go_enter Tryz.func101,Tryz.ntmps101
    go_wp2_with (first | (go_at_call 66;(with_reducible refine (K1.out _).mono ?_);rintro e w' ⟨rfl,rfl⟩) | (go_at_call 66;(with_reducible refine (K2.out _).mono ?_);rintro e w' ⟨rfl,rfl⟩) | (go_at_call 115;(with_reducible refine (KF2.out _).mono ?_);rintro e w' ⟨rfl,rfl⟩))
    go_ret
    exact ⟨rfl,HU.out _ _ _ _⟩
  have k6:=Classical.not_not.1 k6
  rw [decide_eq_true k6] at K1
  by_cases k7:¬ (valG g hi)
  · obtain rfl:r=false:=HB.out (fun h=>k7 h.2.2.2.2.2.2.2.1)
    rw [decide_eq_false k7] at K2
    clear k7
    clear HB HT KF
    go_enter Tryz.func101,Tryz.ntmps101
    go_wp2_with (first | (go_at_call 66;(with_reducible refine (K1.out _).mono ?_);rintro e w' ⟨rfl,rfl⟩) | (go_at_call 66;(with_reducible refine (K2.out _).mono ?_);rintro e w' ⟨rfl,rfl⟩) | (go_at_call 115;(with_reducible refine (KF2.out _).mono ?_);rintro e w' ⟨rfl,rfl⟩))
    go_ret
    exact ⟨rfl,HU.out _ _ _ _⟩
  have k7:=Classical.not_not.1 k7
  rw [decide_eq_true k7] at K2
  by_cases k8:¬ (lo≤hi)
  · obtain rfl:r=false:=HB.out (fun h=>k8 h.2.2.2.2.2.2.2.2.1)
    clear HB HT KF
    go_enter Tryz.func101,Tryz.ntmps101
    go_wp2_with (first | (go_at_call 66;(with_reducible refine (K1.out _).mono ?_);rintro e w' ⟨rfl,rfl⟩) | (go_at_call 66;(with_reducible refine (K2.out _).mono ?_);rintro e w' ⟨rfl,rfl⟩) | (go_at_call 115;(with_reducible refine (KF2.out _).mono ?_);rintro e w' ⟨rfl,rfl⟩))
    go_ret
    exact ⟨rfl,HU.out _ _ _ _⟩
  have k8:=Classical.not_not.1 k8
  clear KF2
  have KF2:=Lib.hid (KF.out (by omega) (by omega) k6.1 k6.2.1 k7.1 k7.2.1)
  by_cases k9:¬ (prtP (seq - sq+1) s qq lo hi)
  · obtain rfl:r=false:=HB.out (fun h=>k9 h.2.2.2.2.2.2.2.2.2)
    rw [decide_eq_false k9] at KF2
    clear k9
    clear HB HT KF
    go_enter Tryz.func101,Tryz.ntmps101
    go_wp2_with (first | (go_at_call 66;(with_reducible refine (K1.out _).mono ?_);rintro e w' ⟨rfl,rfl⟩) | (go_at_call 66;(with_reducible refine (K2.out _).mono ?_);rintro e w' ⟨rfl,rfl⟩) | (go_at_call 115;(with_reducible refine (KF2.out _).mono ?_);rintro e w' ⟨rfl,rfl⟩))
    go_ret
    exact ⟨rfl,HU.out _ _ _ _⟩
  have k9:=Classical.not_not.1 k9
  rw [decide_eq_true k9] at KF2
  obtain rfl:r=true:=HT.out ⟨k0,k1,rfl,k3,k4,k5,k6,k7,k8,k9⟩
  clear HB HT KF k6 k7 k9
  go_enter Tryz.func101,Tryz.ntmps101
  go_wp2_with (first | (go_at_call 66;(with_reducible refine (K1.out _).mono ?_);rintro e w' ⟨rfl,rfl⟩) | (go_at_call 66;(with_reducible refine (K2.out _).mono ?_);rintro e w' ⟨rfl,rfl⟩) | (go_at_call 115;(with_reducible refine (KF2.out _).mono ?_);rintro e w' ⟨rfl,rfl⟩))
  go_ret
  exact ⟨rfl,HU.out _ _ _ _⟩

set_option maxHeartbeats 4000000 in
set_option maxRecDepth 100000 in
theorem validStep_up (sq t n s q lo hi sq2 t2 n2 s2 q2 lo2 hi2:Int) (h1:bdM ⟨sq,t,n,s,q,lo,hi⟩) (h2:bdM ⟨sq2,t2,n2,s2,q2,lo2,hi2⟩) (hn:sq<sq2→1≤n - n2) (w:World) :
    Calls Tryz.prog 102 #[.agg #[.int .i64 sq,.int .i64 t,.int .i64 n,.int .i64 s,.int .i64 q,.int .i64 lo,.int .i64 hi],.agg #[.int .i64 sq2,.int .i64 t2,.int .i64 n2,.int .i64 s2,.int .i64 q2,.int .i64 lo2,.int .i64 hi2]] w fun e w'=>e=.returned (.bool (spB ⟨sq,t,n,s,q,lo,hi⟩ ⟨sq2,t2,n2,s2,q2,lo2,hi2⟩))∧Up w w':=by
  obtain ⟨⟨a1,a2⟩,⟨a3,a4⟩,⟨a5,a6⟩,⟨a7,a8⟩,⟨a9,a10⟩,⟨a11,a12⟩⟩:=h1
  obtain ⟨⟨b1,b2⟩,⟨b3,b4⟩,⟨b5,b6⟩,⟨b7,b8⟩,⟨b9,b10⟩,⟨b11,b12⟩⟩:=h2
  simp only at a1 a2 a3 a4 a5 a6 a7 a8 a9 a10 a11 a12 b1 b2 b3 b4 b5 b6 b7 b8 b9 b10 b11 b12
  have KF:=Lib.hid (fun h=>fit13_any (n - n2) (s - s2) (q - q2) lo hi (hn h) (by omega) a7 a8 a9 a10)
  have HB:Hid (∀ _:¬ (sq<sq2∧t≤t2∧lo≤lo2∧hi2≤hi∧prtP (n - n2) (s - s2) (q - q2) lo hi),spB ⟨sq,t,n,s,q,lo,hi⟩ ⟨sq2,t2,n2,s2,q2,lo2,hi2⟩=false):=Lib.hid (fun h=>decide_eq_false h)
  have HT:Hid (∀ _:sq<sq2∧t≤t2∧lo≤lo2∧hi2≤hi∧prtP (n - n2) (s - s2) (q - q2) lo hi,spB ⟨sq,t,n,s,q,lo,hi⟩ ⟨sq2,t2,n2,s2,q2,lo2,hi2⟩=true):=Lib.hid (fun h=>decide_eq_true h)
  generalize spB ⟨sq,t,n,s,q,lo,hi⟩ ⟨sq2,t2,n2,s2,q2,lo2,hi2⟩=r at *
  have HU:Hid (∀ a b x y,Up w ((w.alloc (.cells a x)).alloc (.cells b y))):=Lib.hid (fun a b x y=>((Up.refl w).alloc _ _).alloc _ _)
  clear hn
  by_cases k0:¬ (sq<sq2)
  · obtain rfl:r=false:=HB.out (fun h=>k0 h.1)
    clear HB HT KF
    have KF2:Hid (∀ w:World,True):=Lib.hid (fun _=>trivial)
    have u0:sq2≤sq:=by omega
    go_enter Tryz.func102,Tryz.ntmps102
    go_wp2_with (go_at_call 115;(with_reducible refine (KF2.out _).mono ?_);rintro e w' ⟨rfl,rfl⟩)
    go_ret
    exact ⟨rfl,HU.out _ _ _ _⟩
  have k0:=Classical.not_not.1 k0
  have u0:¬ (sq2≤sq):=by omega
  by_cases k1:¬ (t≤t2)
  · obtain rfl:r=false:=HB.out (fun h=>k1 h.2.1)
    clear HB HT KF
    have KF2:Hid (∀ w:World,True):=Lib.hid (fun _=>trivial)
    have u1:t2<t:=by omega
    go_enter Tryz.func102,Tryz.ntmps102
    go_wp2_with (go_at_call 115;(with_reducible refine (KF2.out _).mono ?_);rintro e w' ⟨rfl,rfl⟩)
    go_ret
    exact ⟨rfl,HU.out _ _ _ _⟩
  have k1:=Classical.not_not.1 k1
  have u1:¬ (t2<t):=by omega
  by_cases k2:¬ (lo≤lo2)
  · obtain rfl:r=false:=HB.out (fun h=>k2 h.2.2.1)
    clear HB HT KF
    have KF2:Hid (∀ w:World,True):=Lib.hid (fun _=>trivial)
    have u2:lo2<lo:=by omega
    go_enter Tryz.func102,Tryz.ntmps102
    go_wp2_with (go_at_call 115;(with_reducible refine (KF2.out _).mono ?_);rintro e w' ⟨rfl,rfl⟩)
    go_ret
    exact ⟨rfl,HU.out _ _ _ _⟩
  have k2:=Classical.not_not.1 k2
  have u2:¬ (lo2<lo):=by omega
  by_cases k3:¬ (hi2≤hi)
  · obtain rfl:r=false:=HB.out (fun h=>k3 h.2.2.2.1)
    clear HB HT KF
    have KF2:Hid (∀ w:World,True):=Lib.hid (fun _=>trivial)
    have u3:hi<hi2:=by omega
    go_enter Tryz.func102,Tryz.ntmps102
    go_wp2_with (go_at_call 115;(with_reducible refine (KF2.out _).mono ?_);rintro e w' ⟨rfl,rfl⟩)
    go_ret
    exact ⟨rfl,HU.out _ _ _ _⟩
  have k3:=Classical.not_not.1 k3
  have u3:¬ (hi<hi2):=by omega
  have KF2:=Lib.hid (KF.out k0)
  by_cases k4:¬ (prtP (n - n2) (s - s2) (q - q2) lo hi)
  · obtain rfl:r=false:=HB.out (fun h=>k4 h.2.2.2.2)
    rw [decide_eq_false k4] at KF2
    clear k4
    clear HB HT KF
    go_enter Tryz.func102,Tryz.ntmps102
    go_wp2_with (go_at_call 115;(with_reducible refine (KF2.out _).mono ?_);rintro e w' ⟨rfl,rfl⟩)
    go_ret
    exact ⟨rfl,HU.out _ _ _ _⟩
  have k4:=Classical.not_not.1 k4
  rw [decide_eq_true k4] at KF2
  obtain rfl:r=true:=HT.out ⟨k0,k1,k2,k3,k4⟩
  clear HB HT KF k4
  go_enter Tryz.func102,Tryz.ntmps102
  go_wp2_with (go_at_call 115;(with_reducible refine (KF2.out _).mono ?_);rintro e w' ⟨rfl,rfl⟩)
  go_ret
  exact ⟨rfl,HU.out _ _ _ _⟩

set_option maxHeartbeats 4000000 in
set_option maxRecDepth 100000 in
theorem isLast_up (g v q c now seq:Int) (nn k:Nat) (A:Option Addr) (sq t n s qq lo hi:Int) (h1:-268435456≤s) (h2:s≤268435456) (w:World) :
    Calls Tryz.prog 103 #[.agg #[.int .i64 g,.int .i64 v,.int .i64 q,.int .i64 c,.int .i64 now,.int .i64 seq,.slice A nn k],.agg #[.int .i64 sq,.int .i64 t,.int .i64 n,.int .i64 s,.int .i64 qq,.int .i64 lo,.int .i64 hi]] w fun e w'=>e=.returned (.bool (laB seq ⟨sq,t,n,s,qq,lo,hi⟩))∧Up w w':=by
  have y1:=sq_bd (x:=s) (m:=268435456) (by omega) h2
  have y2:=sq_nn s
  have HB:Hid (∀ _:¬ (sq=seq∧lo=s∧hi=s∧qq=s * s),laB seq ⟨sq,t,n,s,qq,lo,hi⟩=false):=Lib.hid (fun h=>decide_eq_false h)
  have HT:Hid (∀ _:sq=seq∧lo=s∧hi=s∧qq=s * s,laB seq ⟨sq,t,n,s,qq,lo,hi⟩=true):=Lib.hid (fun h=>decide_eq_true h)
  generalize laB seq ⟨sq,t,n,s,qq,lo,hi⟩=r at *
  have HU:Hid (∀ a b x y,Up w ((w.alloc (.cells a x)).alloc (.cells b y))):=Lib.hid (fun a b x y=>((Up.refl w).alloc _ _).alloc _ _)
  by_cases k0:¬ (sq=seq)
  · obtain rfl:r=false:=HB.out (fun h=>k0 h.1)
    have u0:(sq == seq)=false:=beq_eq_false_iff_ne.2 k0
    clear HB HT
    go_enter Tryz.func103,Tryz.ntmps103
    go_wp2
    go_ret
    exact ⟨rfl,HU.out _ _ _ _⟩
  have k0:=Lib.hid (Classical.not_not.1 k0)
  have u0:(sq == seq)=true:=beq_iff_eq.2 k0.out
  by_cases k1:¬ (lo=s)
  · obtain rfl:r=false:=HB.out (fun h=>k1 h.2.1)
    have u1:(lo == s)=false:=beq_eq_false_iff_ne.2 k1
    clear HB HT
    go_enter Tryz.func103,Tryz.ntmps103
    go_wp2
    go_ret
    exact ⟨rfl,HU.out _ _ _ _⟩
  have k1:=Lib.hid (Classical.not_not.1 k1)
  have u1:(lo == s)=true:=beq_iff_eq.2 k1.out
  by_cases k2:¬ (hi=s)
  · obtain rfl:r=false:=HB.out (fun h=>k2 h.2.2.1)
    have u2:(hi == s)=false:=beq_eq_false_iff_ne.2 k2
    clear HB HT
    go_enter Tryz.func103,Tryz.ntmps103
    go_wp2
    go_ret
    exact ⟨rfl,HU.out _ _ _ _⟩
  have k2:=Lib.hid (Classical.not_not.1 k2)
  have u2:(hi == s)=true:=beq_iff_eq.2 k2.out
  by_cases k3:¬ (qq=s * s)
  · obtain rfl:r=false:=HB.out (fun h=>k3 h.2.2.2)
    have u3:(qq == s * s)=false:=beq_eq_false_iff_ne.2 k3
    clear HB HT
    go_enter Tryz.func103,Tryz.ntmps103
    go_wp2
    go_ret
    exact ⟨rfl,HU.out _ _ _ _⟩
  have k3:=Lib.hid (Classical.not_not.1 k3)
  have u3:(qq == s * s)=true:=beq_iff_eq.2 k3.out
  obtain rfl:r=true:=HT.out ⟨k0.out,k1.out,k2.out,k3.out⟩
  clear HB HT
  go_enter Tryz.func103,Tryz.ntmps103
  go_wp2
  go_ret
  exact ⟨rfl,HU.out _ _ _ _⟩
end Go.Proofs.YtafkoddgefcpnaaGreat

namespace Go.Proofs.YtafkoddgefcpnaaGreat
open Go.RowKit
set_option linter.unusedVariables false

theorem mark_info:(Tryz.prog.info? 56).map (fun i=>(i.zero,i.size,i.bytes))=some (some (.agg #[.int .i64 0,.int .i64 0,.int .i64 0,.int .i64 0,.int .i64 0,.int .i64 0,.int .i64 0]),7,56):=by kernel_rfl
def OwM (w0 w:World) (v:Value) (n:Nat) (L:List Mrk):Prop:=OG cM 56 7 w0 w v n L
theorem appendM (ty:TypeId) (w0 w:World) (v:Value) (n:Nat) (L:List Mrk) (hO:OwM w0 w v n L) (hu:Up w0 w) (A:Option Addr) (m c:Nat) (M:List Mrk) (hS:SG cM w A m M) (hlen:n+m≤1000000) :
    ∃ A' k' w',(Builtin.append_ #[22,22] ty #[v,.slice A m c]).run Tryz.prog w=.ok (.slice A' (n+m) k') w'∧OwM w0 w' (.slice A' (n+m) k') (n+m) (L ++ M)∧Up w0 w':=by
  have hm:M.length=m:=hS.1
  have hl0:L.length=n:=hO.1
  by_cases h0:m=0
  · subst h0
    have hM:M=[]:=List.eq_nil_of_length_eq_zero hm
    subst hM
    obtain ⟨i,hi,hz,hs,hb⟩:=info_parts mark_info
    have ht:=Tryz.underlying22
    have hl:∀ (x:Addr),(loadCells x 0).run Tryz.prog w=.ok #[] w:=fun x=>by simpa using run_loadCells_list (P:=Tryz.prog) w x [] (by simp)
    rcases hO.2.2 with ⟨h1,rfl⟩ | ⟨g,cap,cur,h1,_,hh,hnc,_⟩
    · subst h1
      refine ⟨none,0,w,?_,by simpa using hO,hu⟩
      cases A <;> simp [Builtin.append_,run_underlying ht,sizeOf,typeInfo,hi,Builtin.lenOf,Builtin.firstCells,hl]
    · subst h1
      refine ⟨_,cap,w,?_,by simpa using hO,hu⟩
      cases A <;> simp [Builtin.append_,run_underlying ht,sizeOf,typeInfo,hi,Builtin.lenOf,Builtin.firstCells,hnc,storeCells,hl]
  · obtain ⟨b,o,rfl,hc⟩:=hS.2 (by omega)
    have hz:(Value.agg #[Value.int IntKind.i64 0,Value.int IntKind.i64 0,Value.int IntKind.i64 0,Value.int IntKind.i64 0,Value.int IntKind.i64 0,Value.int IntKind.i64 0,Value.int IntKind.i64 0]).cells.size=7:=rfl
    obtain ⟨g',k',w',hr,h1,h2,h3,h4⟩:=appendG 22 56 ty _ 7 56 Tryz.underlying22 mark_info hz (by omega) w0 w v n (flG cM L) hO.2 hu b o m c (flG cM M) (by rw [flG_len cM_len,hm]) (by omega) hc (flG_one cM_one M) hlen
    rw [← flG_app] at h1
    exact ⟨_,k',w',hr,⟨by rw [List.length_append,hl0,hm],h1⟩,h2⟩
/-- One mark that has just been made. -/
theorem oneM_row (w:World) (m:Mrk):SG cM (w.alloc (.cells (cM m).toArray 56)) (some ⟨w.heap.size,0,none⟩) 1 [m]:=by
  refine ⟨rfl,fun _=>⟨w.heap.size,0,rfl,fun j u hj=>?_⟩⟩
  rw [Nat.zero_add,Blk.cell (Blk.new w _ _)]
  simpa [flG] using hj
theorem append1M (w0 w:World) (A:Option Addr) (n k:Nat) (L:List Mrk) (sq t nn s qq lo hi:Int) (hO:OwM w0 w (.slice A n k) n L) (hu:Up w0 w) (hn:n+1≤1000000) :
    ∃ A' k' w',(Builtin.append_ #[22,22] 22 #[.slice A n k,.slice (some ⟨w.heap.size,0,none⟩) 1 1]).run Tryz.prog (w.alloc (.cells #[.int .i64 sq,.int .i64 t,.int .i64 nn,.int .i64 s,.int .i64 qq,.int .i64 lo,.int .i64 hi] 56))=.ok (.slice A' (n+1) k') w'∧OwM w0 w' (.slice A' (n+1) k') (n+1) (L ++ [⟨sq,t,nn,s,qq,lo,hi⟩])∧Up w0 w' :=
  appendM 22 w0 (w.alloc (.cells #[.int .i64 sq,.int .i64 t,.int .i64 nn,.int .i64 s,.int .i64 qq,.int .i64 lo,.int .i64 hi] 56)) (.slice A n k) n L ⟨hO.1,hO.2.of_up ((Up.refl _).alloc _ _)⟩ (hu.alloc _ _) (some ⟨w.heap.size,0,none⟩) 1 1 [⟨sq,t,nn,s,qq,lo,hi⟩] (oneM_row w ⟨sq,t,nn,s,qq,lo,hi⟩) hn
end Go.Proofs.YtafkoddgefcpnaaGreat
