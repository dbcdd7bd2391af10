/- Texts of this claim, one after the other. -/
import Derived.Laws.MakeOwn
import Derived.Test.YtflahclphdlolaaGreatZCClock
import Derived.Test.YtflahclphdlolaaGreatZELive
import Derived.Test.YtflahclphdlolaaGreatZELive2
import Derived.Test.YtflahclphdlolaaGreatZESq
import Derived.Test.YtflahclphdlolaaGreatZETotal
import Derived.Test.YtflahclphdlolaaGreatZEWords
import Derived.Test.YtflahclphdlolaaGreatZFAdd
import Derived.Test.YtflahclphdlolaaGreatZFAdv
import Derived.Test.YtflahclphdlolaaGreatZFBase
import Derived.Test.YtflahclphdlolaaGreatZFVal
import Derived.Test.YtflahclphdlolaaGreatZG0a
import Derived.Test.YtflahclphdlolaaGreatZG2a
import Derived.Test.YtflahclphdlolaaGreatZG4a
import Derived.Test.YtflahclphdlolaaGreatZG5a
import Derived.Test.YtflahclphdlolaaGreatZG6a
import Derived.Test.YtflahclphdlolaaGreatZG7a
import Derived.Test.YtflahclphdlolaaGreatZG8a
import Derived.Test.YtflahclphdlolaaGreatZGLaw
import Derived.Test.YtflahclphdlolaaGreatZRValid
import Derived.Test.YtflahclphdlolaaGreatZWAdd
import Derived.Test.YtflahclphdlolaaGreatZWCmp
/- What awake of the laws of package recent returns. -/
namespace Go.Proofs.YtflahclphdlolaaGreat
open Go.RowKit

theorem awk9_new (W : World) : Calls Tryz.prog 9 #[.int .i64 3, .int .i64 2, .int .i64 0] W fun e w' => e = .returned (.tuple #[.agg #[.int .i64 3, .int .i64 2, .int .i64 0, .slice none 0 0], .int .i64 0]) ∧ Up W w' :=
  new9_yes 3 2 0 (by decide) W
theorem awk9_add (W : World) : Calls Tryz.prog 10 #[.agg #[.int .i64 3, .int .i64 2, .int .i64 0, .slice none 0 0], .int .i64 5] W fun e w' => ∃ g' k', e = .returned (.tuple #[.agg #[.int .i64 3, .int .i64 2, .int .i64 0, .slice (some ⟨g', 0, none⟩) 1 k'], .int .i64 0]) ∧ Up W w' :=
  (add9_good 3 2 0 5 0 0 none [] (Nat.le_refl _) (by decide) (by decide) (by decide) W Sl.none_).mono (fun _ _ ⟨g', k', h1, _, _, _, h4⟩ => ⟨g', k', h1, h4⟩)

set_option maxHeartbeats 4000000 in
set_option maxRecDepth 100000 in
theorem awake9_up (w : World) : Calls Tryz.prog 5 #[] w fun e w' => e = .returned (.bool true) ∧ Up w w' := by
  have K1 := Lib.hid awk9_new
  have K2 := Lib.hid awk9_add
  go_enter Tryz.func5, Tryz.ntmps5
  go_wp2_with (first
    | (go_at_call 9; (with_reducible refine (K1.out _).mono ?_); rintro e w1 ⟨rfl, hu⟩; have HU1 := Lib.hid hu; clear hu)
    | (go_at_call 10; (with_reducible refine (K2.out _).mono ?_); rintro e w2 ⟨g2, k2, rfl, hu⟩; have HU2 := Lib.hid ((HU1.out.alloc _ _).trans hu);
        have a0 := hu.keep w1.heap.size 0 (.int .i64 3) (by simp [go_sem]); have a1 := hu.keep w1.heap.size 1 (.int .i64 2) (by simp [go_sem]); have a2 := hu.keep w1.heap.size 2 (.int .i64 0) (by simp [go_sem]); have a3 := hu.keep w1.heap.size 3 (.slice none 0 0) (by simp [go_sem]);
        have hw1 := HU1.out.size; have f0 := HU2.out.ownGe (g := w1.heap.size) hw1 0; have f1 := HU2.out.ownGe (g := w1.heap.size) hw1 1; have f2 := HU2.out.ownGe (g := w1.heap.size) hw1 2; have f3 := HU2.out.ownGe (g := w1.heap.size) hw1 3; clear hu))
  go_ret
  exact ⟨rfl, HU2.out.set4 hw1⟩
end Go.Proofs.YtflahclphdlolaaGreat

/- The states that Advance and Add lead to are valid; where RecentRuns is. -/
namespace Go.Proofs.YtflahclphdlolaaGreat
open Go.RowKit

theorem getD_mem {L : List It} {j : Nat} (h : j < L.length) : L.getD j (0, 0) ∈ L := by simp [List.getD, h]
theorem getD_at {L : List It} {j : Nat} (h : j < L.length) : L.getD j (0, 0) = L[j] := by simp [List.getD, h]
theorem asc_all {L : List It} (h : ∀ j, j < L.length → 0 < j → (L.getD (j - 1) (0, 0)).1 ≤ (L.getD j (0, 0)).1) : ∀ d i, i + d < L.length → (L.getD i (0, 0)).1 ≤ (L.getD (i + d) (0, 0)).1 := by
  intro d
  induction d with
  | zero => intro i _; exact Int.le_refl _
  | succ d ih =>
    intro i hi
    have h1 := ih i (by omega)
    have h2 := h (i + (d + 1)) hi (by omega)
    rw [show i + (d + 1) - 1 = i + d by omega] at h2
    omega
theorem val_iff {L : List It} {now : Int} : valB L now = true ↔ tickB now = true ∧ (∀ x ∈ L, 0 ≤ x.1 ∧ x.1 ≤ now) ∧ L.Pairwise (fun x y => x.1 ≤ y.1) := by
  unfold valB
  rw [Bool.and_eq_true, decide_eq_true_eq]
  constructor
  · rintro ⟨h1, h2⟩
    refine ⟨h1, fun x hx => ?_, ?_⟩
    · obtain ⟨j, hj, rfl⟩ := List.mem_iff_getElem.1 hx
      have g := h2 j hj
      rw [← getD_at hj]
      exact ⟨g.1, g.2.1⟩
    · rw [List.pairwise_iff_getElem]
      intro i j hi hj hij
      have g := asc_all (fun j hj h0 => (h2 j hj).2.2 h0) (j - i) i (by omega)
      rw [show i + (j - i) = j by omega, getD_at hi, getD_at hj] at g
      exact g
  · rintro ⟨h1, h2, h3⟩
    refine ⟨h1, fun j hj => ⟨(h2 _ (getD_mem hj)).1, (h2 _ (getD_mem hj)).2, fun h0 => ?_⟩⟩
    rw [getD_at hj, getD_at (show j - 1 < L.length by omega)]
    exact List.pairwise_iff_getElem.1 h3 (j - 1) j (by omega) hj (by omega)
theorem ok_iff {L : List It} {now v : Int} : okB now v L = true ↔ ∀ x ∈ L, liveB now v x.1 = true ∧ valueB x.2 = true := by
  unfold okB okI
  rw [decide_eq_true_eq]
  constructor
  · intro h x hx
    obtain ⟨j, hj, rfl⟩ := List.mem_iff_getElem.1 hx
    rw [← getD_at hj]
    exact h j hj
  · intro h j hj
    exact h _ (getD_mem hj)
theorem adv_state {L : List It} {v c now z : Int} (h : stB v c now L = true) (h1 : now ≤ z) (h2 : z ≤ 16777216) : livE L z v = livL L z v ∧ stB v c z (livE L z v) = true ∧ valB L z = true := by
  have g := stB_true h
  obtain ⟨m1, m2, m3, m4⟩ := mayB_true g.1
  have hz : tickB z = true := tickB_yes (by have := tickB_true m1; omega) h2
  have hvz : valB L z = true := by
    obtain ⟨a, b, d⟩ := val_iff.1 g.2.2.1
    exact val_iff.2 ⟨hz, fun x hx => ⟨(b x hx).1, by have := (b x hx).2; omega⟩, d⟩
  have e : livE L z v = livL L z v := by unfold livE; rw [hvz, m2]; rfl
  obtain ⟨a, b, d⟩ := val_iff.1 hvz
  have hok := ok_iff.1 g.2.2.2
  refine ⟨e, ?_, hvz⟩
  rw [e]
  refine stB_yes ?_ ?_ ?_ ?_
  · unfold mayB; rw [hz, m2, decide_eq_true ⟨m3, m4⟩]; rfl
  · have := livL_len L z v; have := g.2.1; omega
  · exact val_iff.2 ⟨hz, fun x hx => b x (List.mem_filter.1 hx).1, d.filter _⟩
  · exact ok_iff.2 (fun x hx => ⟨(List.mem_filter.1 hx).2, (hok x (List.mem_filter.1 hx).1).2⟩)
theorem add_state {L : List It} {v c now x : Int} (h : stB v c now L = true) (hx : valueB x = true) (hn : (L.length : Int) ≠ c) : stB v c now (L ++ [(now, x)]) = true := by
  have g := stB_true h
  obtain ⟨m1, m2, m3, m4⟩ := mayB_true g.1
  have ht := tickB_true m1
  obtain ⟨a, b, d⟩ := val_iff.1 g.2.2.1
  refine stB_yes g.1 ?_ (val_iff.2 ⟨a, ?_, ?_⟩) (ok_iff.2 ?_)
  · rw [List.length_append]; have := g.2.1; simp only [List.length_cons, List.length_nil]; omega
  · intro y hy
    rcases List.mem_append.1 hy with hy | hy
    · exact b y hy
    · simp only [List.mem_singleton] at hy; subst hy; exact ⟨ht.1, Int.le_refl _⟩
  · rw [List.pairwise_append]
    refine ⟨d, List.pairwise_singleton _ _, ?_⟩
    intro y hy z hz
    simp only [List.mem_singleton] at hz
    subst hz
    exact (b y hy).2
  · intro y hy
    rcases List.mem_append.1 hy with hy | hy
    · exact ok_iff.1 g.2.2.2 y hy
    · simp only [List.mem_singleton] at hy; subst hy
      refine ⟨?_, hx⟩
      have hb : (tickB now && winB v) = true := by rw [m1, m2]; rfl
      rw [liveB_yes hb, firZ_yes hb]
      have := winB_true m2
      simp only [Bool.and_eq_true, decide_eq_true_eq]
      exact ⟨by omega, Int.le_refl _⟩

/-- Where a walk over RecentRuns is: the state behind its variable in block p, and the plain list. -/
def Rn (w wr : World) (p : Nat) (v c : Int) (Am : Option Addr) (nm : Nat) (M : List It) (i : Nat) (s : Value) : Prop :=
  ∃ (now : Int) (K : List It) (A B : Option Addr) (k kb : Nat), s = .slice B K.length kb ∧ K.length ≤ k ∧ Sl wr A K.length K ∧ Sl wr B K.length K ∧ Sl wr Am nm M ∧ stB v c now K = true ∧ (i < nm → now ≤ (M.getD i (0, 0)).1) ∧
    wr.cell? ⟨p, 0, none⟩ = some (.int .i64 v) ∧ wr.cell? ⟨p, 1, none⟩ = some (.int .i64 c) ∧ wr.cell? ⟨p, 2, none⟩ = some (.int .i64 now) ∧ wr.cell? ⟨p, 3, none⟩ = some (.slice A K.length k) ∧ Up w wr ∧ (∀ b o, B = some ⟨b, o, none⟩ → b ≠ p)
theorem Nw.off {w : World} {A : Option Addr} {p : Nat} (h : Nw w A) (hp : p < w.heap.size) : ∀ b o, A = some ⟨b, o, none⟩ → b ≠ p := fun b o e => by have := h b o e; omega
/-- The cells of a variable behind a store of all four. -/
theorem cells4 {w : World} {p : Nat} {v0 v1 v2 v3 x0 x1 x2 x3 : Value} (e0 : w.cell? ⟨p, 0, none⟩ = some x0) (e1 : w.cell? ⟨p, 1, none⟩ = some x1) (e2 : w.cell? ⟨p, 2, none⟩ = some x2) (e3 : w.cell? ⟨p, 3, none⟩ = some x3) :
    let W := (((w.setCell ⟨p, 0, none⟩ v0).setCell ⟨p, 1, none⟩ v1).setCell ⟨p, 2, none⟩ v2).setCell ⟨p, 3, none⟩ v3
    W.cell? ⟨p, 0, none⟩ = some v0 ∧ W.cell? ⟨p, 1, none⟩ = some v1 ∧ W.cell? ⟨p, 2, none⟩ = some v2 ∧ W.cell? ⟨p, 3, none⟩ = some v3 :=
  ⟨cell_set (cell_set (cell_set (cell_set e0))), cell_set (cell_set (cell_set (cell_set e1))), cell_set (cell_set (cell_set (cell_set e2))), cell_set (cell_set (cell_set (cell_set e3)))⟩
end Go.Proofs.YtflahclphdlolaaGreat

/- The numbers of the answers of package recent: what each question is answered with, and that all of it fits. -/
namespace Go.Proofs.YtflahclphdlolaaGreat
open Go.RowKit

def smallI (L : List It) : Prop := ∀ x ∈ L, -4096 ≤ x.2 ∧ x.2 ≤ 4096
theorem smallI.tail {x : It} {L : List It} (h : smallI (x :: L)) : smallI L := fun y hy => h y (List.mem_cons_of_mem _ hy)
theorem st_small {v c now : Int} {L : List It} (h : stB v c now L = true) : InI L ∧ L.length ≤ 65536 ∧ smallI L := by
  have g := stB_true h
  obtain ⟨m1, m2, m3, m4⟩ := mayB_true g.1
  have ht := tickB_true m1
  have hv := val_iff.1 g.2.2.1
  have ho := ok_iff.1 g.2.2.2
  have hs : smallI L := fun x hx => valueB_true (ho x hx).2
  refine ⟨fun x hx => ?_, by have := g.2.1; omega, hs⟩
  have h1 := hv.2.1 x hx
  have h2 := hs x hx
  unfold In
  exact ⟨⟨by omega, by omega⟩, by omega, by omega⟩
theorem sq4096 {x : Int} (h1 : -4096 ≤ x) (h2 : x ≤ 4096) : 0 ≤ x * x ∧ x * x ≤ 16777216 := by
  have h3 : 0 ≤ (4096 - x) * (4096 + x) := Int.mul_nonneg (by omega) (by omega)
  have h4 : 0 ≤ (x.natAbs : Int) * (x.natAbs : Int) := Int.mul_nonneg (by omega) (by omega)
  rw [sq_abs] at h4
  rw [Int.sub_mul, Int.mul_add, Int.mul_add, Int.mul_comm x 4096] at h3
  exact ⟨h4, by omega⟩
theorem sm_bound {L : List It} (h : smallI L) : -(4096 * (L.length : Int)) ≤ smZ L ∧ smZ L ≤ 4096 * (L.length : Int) := by
  induction L with
  | nil => simp [smZ]
  | cons x L ih =>
    have h1 := h x (List.mem_cons_self ..)
    have h2 := ih h.tail
    have e : smZ (x :: L) = x.2 + smZ L := by simp [smZ]
    rw [e, List.length_cons]
    omega
theorem sq_bound {L : List It} (h : smallI L) : 0 ≤ sqZ L ∧ sqZ L ≤ 16777216 * (L.length : Int) := by
  induction L with
  | nil => simp [sqZ]
  | cons x L ih =>
    have h1 := h x (List.mem_cons_self ..)
    have h2 := ih h.tail
    have h3 := sq4096 h1.1 h1.2
    have e : sqZ (x :: L) = x.2 * x.2 + sqZ L := by simp [sqZ]
    rw [e, List.length_cons]
    omega
theorem dv_bound {L : List It} (h : smallI L) (hl : L.length ≤ 65536) : 0 ≤ dvZ L ∧ dvZ L ≤ 72057594037927936 := by
  refine ⟨dvZ_nonneg L, ?_⟩
  have h1 := sq_bound h
  have h2 : 0 ≤ smZ L * smZ L := by
    have : 0 ≤ ((smZ L).natAbs : Int) * ((smZ L).natAbs : Int) := Int.mul_nonneg (by omega) (by omega)
    rwa [sq_abs] at this
  have h3 : (L.length : Int) * sqZ L ≤ 65536 * 1099511627776 := Int.mul_le_mul (by omega) (by omega) h1.1 (by omega)
  unfold dvZ
  omega
theorem quo_fit {p q : Int} (h0 : 0 ≤ p) (h1 : p ≤ 4611686018427387904) (h2 : 1 ≤ q) (h3 : q ≤ 4611686018427387904) : quoB p q = true := by
  have hg := quoG_pos (p := p) (q := q) (by omega)
  have e1 : quoP p q = p / quoG p q := by unfold quoP; rw [if_neg (by omega)]
  have a1 : 0 ≤ p / quoG p q := Int.ediv_nonneg h0 (by omega)
  have a2 : p / quoG p q ≤ p := Int.ediv_le_self _ h0
  have e2 : quoQ p q = q / quoG p q := by unfold quoQ; rw [show (q.natAbs : Int) = q by omega]
  have b1 : 0 ≤ q / quoG p q := Int.ediv_nonneg (by omega) (by omega)
  have b2 : q / quoG p q ≤ q := Int.ediv_le_self _ (by omega)
  unfold quoB
  rw [e1, e2, fits_yes (show In (p / quoG p q) by unfold In; omega), fits_yes (show In (q / quoG p q) by unfold In; omega), decide_eq_true (show q ≠ 0 by omega)]
  rfl
theorem spr_ok {L : List It} (h : smallI L) (hl : L.length ≤ 65536) : validB (sprN L) (sprD L) = true ∧ In (sprN L) ∧ In (sprD L) ∧ sprB L = true := by
  by_cases he : L = []
  · unfold sprN sprD sprB
    rw [if_pos he, if_pos he, if_pos he]
    exact ⟨by decide, by unfold In; omega, by unfold In; omega, rfl⟩
  · unfold sprN sprD sprB
    rw [if_neg he, if_neg he, if_neg he]
    have h1 := dv_bound h hl
    have h2 : 0 < L.length := List.length_pos_iff.2 he
    have h3 := quo_fit h1.1 (by omega) (show (1 : Int) ≤ L.length by omega) (by omega)
    obtain ⟨_, a, b, d, _⟩ := quo_yes h3
    exact ⟨d, a, b, h3⟩
theorem valid_one (n : Int) : validB n 1 = true := by unfold validB; exact decide_eq_true ⟨Int.le_refl _, by simp⟩
def leV (L : List It) : Int := if L = [] then 0 else leZ (L.getD 0 (0, 0)).2 L
def grV (L : List It) : Int := if L = [] then 0 else grZ (L.getD 0 (0, 0)).2 L
theorem leE_V (L : List It) : leE L = got (leV L) (decide (L ≠ [])) := by
  unfold leE leV
  by_cases h : L = []
  · rw [if_pos h, if_pos h, decide_eq_false (by simp [h])]
  · rw [if_neg h, if_neg h, decide_eq_true h]
theorem grE_V (L : List It) : grE L = got (grV L) (decide (L ≠ [])) := by
  unfold grE grV
  by_cases h : L = []
  · rw [if_pos h, if_pos h, decide_eq_false (by simp [h])]
  · rw [if_neg h, if_neg h, decide_eq_true h]
theorem leZ_in {L : List It} (h : smallI L) : ∀ x, -4096 ≤ x → x ≤ 4096 → -4096 ≤ leZ x L ∧ leZ x L ≤ 4096 := by
  induction L with
  | nil => intro x h1 h2; exact ⟨h1, h2⟩
  | cons y L ih =>
    intro x h1 h2
    have h3 := h y (List.mem_cons_self ..)
    exact ih h.tail (min x y.2) (by omega) (by omega)
theorem grZ_in {L : List It} (h : smallI L) : ∀ x, -4096 ≤ x → x ≤ 4096 → -4096 ≤ grZ x L ∧ grZ x L ≤ 4096 := by
  induction L with
  | nil => intro x h1 h2; exact ⟨h1, h2⟩
  | cons y L ih =>
    intro x h1 h2
    have h3 := h y (List.mem_cons_self ..)
    exact ih h.tail (max x y.2) (by omega) (by omega)
theorem ext_in {L : List It} (h : smallI L) : -4096 ≤ leV L ∧ leV L ≤ 4096 ∧ -4096 ≤ grV L ∧ grV L ≤ 4096 := by
  by_cases he : L = []
  · unfold leV grV
    rw [if_pos he, if_pos he]
    omega
  · unfold leV grV
    rw [if_neg he, if_neg he]
    have h1 := h _ (getD_mem (List.length_pos_iff.2 he))
    have h2 := leZ_in h _ h1.1 h1.2
    have h3 := grZ_in h _ h1.1 h1.2
    omega

/-- What a question is answered with: the number (zero if there is none), the values, the error. -/
def askR (v c now : Int) (L : List It) (o a b : Int) : Int × Int × List Int × Int :=
  if stB v c now L = false then (0, 0, [], 2)
  else if o = 1 then ((L.length : Int), 1, [], 0)
  else if o = 2 then (smZ L, 1, [], 0)
  else if o = 3 then (sqZ L, 1, [], 0)
  else if o = 4 then (grV L - leV L, 1, [], 0)
  else if o = 5 then (sprN L, sprD L, [], 0)
  else if o = 6 then (if L = [] then (0, 0, [], 7) else (0, 0, [leV L, grV L], 0))
  else if o = 7 then ((rkN a L : Int), 1, [], 0)
  else if o = 8 then (if askB a b = false then (0, 0, [], 1) else if (qnO L a b).isSome = true then (0, 0, [(qnO L a b).getD 0], 0) else (0, 0, [], 7))
  else (0, 0, [], 12)
theorem Lo.refl (w : World) : Lo w w := Lo.of_up (Up.refl w)
theorem Lo.frozen9 {W W' : World} (h : Lo W W') (a : Addr) (ha : a.block < W.heap.size) : W'.frozen? a = W.frozen? a := by
  have := h.block a.block ha
  unfold World.frozen?
  rw [this]
theorem Sn.lo {w w' : World} {A : Option Addr} {n : Nat} {L : List Int} (h : Sn w A n L) (hu : Lo w w') : Sn w' A n L := by
  refine ⟨h.1, fun hn => ?_⟩
  obtain ⟨b, o, e, hc⟩ := h.2 hn
  exact ⟨b, o, e, fun j hj => hu.keep _ _ _ (hc j hj)⟩
end Go.Proofs.YtflahclphdlolaaGreat

/- Exact of package bounds and of its reference for a number in lowest terms; number and integer of package recent, Whole of the reference. -/
namespace Go.Proofs.YtflahclphdlolaaGreat
open Go.RowKit

theorem Up.set11 {w0 w : World} {p : Nat} {v0 v1 v2 v3 v4 v5 v6 v7 v8 v9 v10 : Value} (h : Up w0 w) (hp : w0.heap.size ≤ p) : Up w0 ((((((((((((w.setCell ⟨p, 0, none⟩ v0).setCell ⟨p, 1, none⟩ v1).setCell ⟨p, 2, none⟩ v2).setCell ⟨p, 3, none⟩ v3).setCell ⟨p, 4, none⟩ v4).setCell ⟨p, 5, none⟩ v5).setCell ⟨p, 6, none⟩ v6).setCell ⟨p, 7, none⟩ v7).setCell ⟨p, 8, none⟩ v8).setCell ⟨p, 9, none⟩ v9).setCell ⟨p, 10, none⟩ v10)) :=
  (((((((((((h.setCell hp _).setCell hp _).setCell hp _).setCell hp _).setCell hp _).setCell hp _).setCell hp _).setCell hp _).setCell hp _).setCell hp _).setCell hp _)
theorem Up.set6 {w0 w : World} {p : Nat} {v0 v1 v2 v3 v4 v5 : Value} (h : Up w0 w) (hp : w0.heap.size ≤ p) : Up w0 (((((((w.setCell ⟨p, 0, none⟩ v0).setCell ⟨p, 1, none⟩ v1).setCell ⟨p, 2, none⟩ v2).setCell ⟨p, 3, none⟩ v3).setCell ⟨p, 4, none⟩ v4).setCell ⟨p, 5, none⟩ v5)) :=
  ((((((h.setCell hp _).setCell hp _).setCell hp _).setCell hp _).setCell hp _).setCell hp _)
theorem Lo.set11 {w0 w : World} {p : Nat} {v0 v1 v2 v3 v4 v5 v6 v7 v8 v9 v10 : Value} (h : Lo w0 w) (hp : w0.heap.size ≤ p) : Lo w0 ((((((((((((w.setCell ⟨p, 0, none⟩ v0).setCell ⟨p, 1, none⟩ v1).setCell ⟨p, 2, none⟩ v2).setCell ⟨p, 3, none⟩ v3).setCell ⟨p, 4, none⟩ v4).setCell ⟨p, 5, none⟩ v5).setCell ⟨p, 6, none⟩ v6).setCell ⟨p, 7, none⟩ v7).setCell ⟨p, 8, none⟩ v8).setCell ⟨p, 9, none⟩ v9).setCell ⟨p, 10, none⟩ v10)) := by
  unfold Lo at *
  exact (((((((((((h.setCell hp _).setCell hp _).setCell hp _).setCell hp _).setCell hp _).setCell hp _).setCell hp _).setCell hp _).setCell hp _).setCell hp _).setCell hp _)
theorem Nw.none_ {w : World} : Nw w none := fun _ _ e => by cases e
theorem Sn.off {w : World} {A : Option Addr} {n p o : Nat} {M : List Int} (h : Sn w A n M) (hn : ∀ b o, A = some ⟨b, o, none⟩ → b ≠ p) (x : Value) : Sn (w.setCell ⟨p, o, none⟩ x) A n M := by
  refine ⟨h.1, fun h0 => ?_⟩
  obtain ⟨b, o, e, hc⟩ := h.2 h0
  exact ⟨b, o, e, fun j hj => (cell_far (fun hp => hn b o e hp.symm)).trans (hc j hj)⟩
theorem Sn.set11 {w : World} {A : Option Addr} {n p : Nat} {M : List Int} {v0 v1 v2 v3 v4 v5 v6 v7 v8 v9 v10 : Value} (h : Sn w A n M) (hp : ∀ b o, A = some ⟨b, o, none⟩ → b ≠ p) : Sn ((((((((((((w.setCell ⟨p, 0, none⟩ v0).setCell ⟨p, 1, none⟩ v1).setCell ⟨p, 2, none⟩ v2).setCell ⟨p, 3, none⟩ v3).setCell ⟨p, 4, none⟩ v4).setCell ⟨p, 5, none⟩ v5).setCell ⟨p, 6, none⟩ v6).setCell ⟨p, 7, none⟩ v7).setCell ⟨p, 8, none⟩ v8).setCell ⟨p, 9, none⟩ v9).setCell ⟨p, 10, none⟩ v10)) A n M :=
  (((((((((((h.off hp _).off hp _).off hp _).off hp _).off hp _).off hp _).off hp _).off hp _).off hp _).off hp _).off hp _)

set_option maxHeartbeats 8000000 in
set_option maxRecDepth 100000 in
theorem exact9_up (n d : Int) (hv : validB n d = true) (hn : In n) (hd : In d) (w : World) :
    Calls Tryz.prog 49 #[.agg #[.int .i64 n, .int .i64 d]] w fun e w' => e = .returned (.agg #[.int .i64 n, .int .i64 d, .int .i64 n, .int .i64 d, .int .i64 n, .int .i64 d]) ∧ Up w w' := by
  have H1 := Lib.hid (fun W => valid_up n d hn hd W)
  rw [hv] at H1
  clear hn hd hv
  go_enter Tryz.func49, Tryz.ntmps49
  go_wp2_with fail
  refine (H1.out _).mono ?_
  rintro e w1 ⟨rfl, hu⟩
  have HU1 := Lib.hid ((((Up.refl w).alloc #[.int .i64 n, .int .i64 d] 30).alloc #[.int .i64 0, .int .i64 0, .int .i64 0, .int .i64 0, .int .i64 0, .int .i64 0] 32).trans hu)
  have c0 := hu.keep (w.heap.size) 0 (.int .i64 n) (by simp [go_sem])
  have c1 := hu.keep (w.heap.size) 1 (.int .i64 d) (by simp [go_sem])
  have r0 := hu.keep (w.heap.size + 1) 0 (.int .i64 0) (by simp [go_sem])
  have r1 := hu.keep (w.heap.size + 1) 1 (.int .i64 0) (by simp [go_sem])
  have r2 := hu.keep (w.heap.size + 1) 2 (.int .i64 0) (by simp [go_sem])
  have r3 := hu.keep (w.heap.size + 1) 3 (.int .i64 0) (by simp [go_sem])
  have r4 := hu.keep (w.heap.size + 1) 4 (.int .i64 0) (by simp [go_sem])
  have r5 := hu.keep (w.heap.size + 1) 5 (.int .i64 0) (by simp [go_sem])
  have z0 := HU1.out.ownGe (g := w.heap.size + 1) (by omega) 0
  have z1 := HU1.out.ownGe (g := w.heap.size + 1) (by omega) 1
  have z2 := HU1.out.ownGe (g := w.heap.size + 1) (by omega) 2
  have z3 := HU1.out.ownGe (g := w.heap.size + 1) (by omega) 3
  have z4 := HU1.out.ownGe (g := w.heap.size + 1) (by omega) 4
  have z5 := HU1.out.ownGe (g := w.heap.size + 1) (by omega) 5
  clear hu
  go_wp2_with fail
  refine bodyPost_ret (v := .agg #[.int .i64 n, .int .i64 d, .int .i64 n, .int .i64 d, .int .i64 n, .int .i64 d]) (by simp [results, Tryz.results49, go_sem, r0, r1, r2, r3, r4, r5]) rfl ⟨rfl, ?_⟩
  exact HU1.out.set6 (by omega)

set_option maxHeartbeats 8000000 in
set_option maxRecDepth 100000 in
theorem rexact9_up (n d : Int) (hv : validB n d = true) (hn : In n) (hd : In d) (w : World) :
    Calls Tryz.prog 27 #[.agg #[.int .i64 n, .int .i64 d]] w fun e w' => e = .returned (.agg #[.int .i64 n, .int .i64 d, .int .i64 n, .int .i64 d, .int .i64 n, .int .i64 d]) ∧ Up w w' := by
  have H1 := Lib.hid (fun W => rvalid_up n d hn hd W)
  rw [hv] at H1
  clear hn hd hv
  go_enter Tryz.func27, Tryz.ntmps27
  go_wp2_with fail
  refine (H1.out _).mono ?_
  rintro e w1 ⟨rfl, hu⟩
  have HU1 := Lib.hid ((((Up.refl w).alloc #[.int .i64 n, .int .i64 d] 30).alloc #[.int .i64 0, .int .i64 0, .int .i64 0, .int .i64 0, .int .i64 0, .int .i64 0] 32).trans hu)
  have c0 := hu.keep (w.heap.size) 0 (.int .i64 n) (by simp [go_sem])
  have c1 := hu.keep (w.heap.size) 1 (.int .i64 d) (by simp [go_sem])
  have r0 := hu.keep (w.heap.size + 1) 0 (.int .i64 0) (by simp [go_sem])
  have r1 := hu.keep (w.heap.size + 1) 1 (.int .i64 0) (by simp [go_sem])
  have r2 := hu.keep (w.heap.size + 1) 2 (.int .i64 0) (by simp [go_sem])
  have r3 := hu.keep (w.heap.size + 1) 3 (.int .i64 0) (by simp [go_sem])
  have r4 := hu.keep (w.heap.size + 1) 4 (.int .i64 0) (by simp [go_sem])
  have r5 := hu.keep (w.heap.size + 1) 5 (.int .i64 0) (by simp [go_sem])
  have z0 := HU1.out.ownGe (g := w.heap.size + 1) (by omega) 0
  have z1 := HU1.out.ownGe (g := w.heap.size + 1) (by omega) 1
  have z2 := HU1.out.ownGe (g := w.heap.size + 1) (by omega) 2
  have z3 := HU1.out.ownGe (g := w.heap.size + 1) (by omega) 3
  have z4 := HU1.out.ownGe (g := w.heap.size + 1) (by omega) 4
  have z5 := HU1.out.ownGe (g := w.heap.size + 1) (by omega) 5
  clear hu
  go_wp2_with fail
  refine bodyPost_ret (v := .agg #[.int .i64 n, .int .i64 d, .int .i64 n, .int .i64 d, .int .i64 n, .int .i64 d]) (by simp [results, Tryz.results27, go_sem, r0, r1, r2, r3, r4, r5]) rfl ⟨rfl, ?_⟩
  exact HU1.out.set6 (by omega)

set_option maxHeartbeats 8000000 in
set_option maxRecDepth 100000 in
theorem number_up (n d : Int) (hv : validB n d = true) (hn : In n) (hd : In d) (w : World) :
    Calls Tryz.prog 18 #[.agg #[.int .i64 n, .int .i64 d]] w fun e w' => e = .returned (.agg #[.int .i64 n, .int .i64 d, .int .i64 n, .int .i64 d, .int .i64 n, .int .i64 d, .slice none 0 0, .int .u64 0, .int .u64 0, .int .u64 0, .int .u64 0]) ∧ Up w w' := by
  have H1 := Lib.hid (fun W => exact9_up n d hv hn hd W)
  clear hn hd hv
  go_enter Tryz.func18, Tryz.ntmps18
  go_wp2_with fail
  refine (H1.out _).mono ?_
  rintro e w1 ⟨rfl, hu⟩
  have HU1 := Lib.hid ((((Up.refl w).alloc #[.int .i64 n, .int .i64 d] 30).alloc #[.int .i64 0, .int .i64 0, .int .i64 0, .int .i64 0, .int .i64 0, .int .i64 0, .slice none 0 0, .int .u64 0, .int .u64 0, .int .u64 0, .int .u64 0] 40).trans hu)
  have r0 := hu.keep (w.heap.size + 1) 0 (.int .i64 0) (by simp [go_sem])
  have r1 := hu.keep (w.heap.size + 1) 1 (.int .i64 0) (by simp [go_sem])
  have r2 := hu.keep (w.heap.size + 1) 2 (.int .i64 0) (by simp [go_sem])
  have r3 := hu.keep (w.heap.size + 1) 3 (.int .i64 0) (by simp [go_sem])
  have r4 := hu.keep (w.heap.size + 1) 4 (.int .i64 0) (by simp [go_sem])
  have r5 := hu.keep (w.heap.size + 1) 5 (.int .i64 0) (by simp [go_sem])
  have r6 := hu.keep (w.heap.size + 1) 6 (.slice none 0 0) (by simp [go_sem])
  have r7 := hu.keep (w.heap.size + 1) 7 (.int .u64 0) (by simp [go_sem])
  have r8 := hu.keep (w.heap.size + 1) 8 (.int .u64 0) (by simp [go_sem])
  have r9 := hu.keep (w.heap.size + 1) 9 (.int .u64 0) (by simp [go_sem])
  have r10 := hu.keep (w.heap.size + 1) 10 (.int .u64 0) (by simp [go_sem])
  have z0 := HU1.out.ownGe (g := w.heap.size + 1) (by omega) 0
  have z1 := HU1.out.ownGe (g := w.heap.size + 1) (by omega) 1
  have z2 := HU1.out.ownGe (g := w.heap.size + 1) (by omega) 2
  have z3 := HU1.out.ownGe (g := w.heap.size + 1) (by omega) 3
  have z4 := HU1.out.ownGe (g := w.heap.size + 1) (by omega) 4
  have z5 := HU1.out.ownGe (g := w.heap.size + 1) (by omega) 5
  have z6 := HU1.out.ownGe (g := w.heap.size + 1) (by omega) 6
  have z7 := HU1.out.ownGe (g := w.heap.size + 1) (by omega) 7
  have z8 := HU1.out.ownGe (g := w.heap.size + 1) (by omega) 8
  have z9 := HU1.out.ownGe (g := w.heap.size + 1) (by omega) 9
  have z10 := HU1.out.ownGe (g := w.heap.size + 1) (by omega) 10
  clear hu
  go_wp2_with fail
  refine bodyPost_ret (v := .agg #[.int .i64 n, .int .i64 d, .int .i64 n, .int .i64 d, .int .i64 n, .int .i64 d, .slice none 0 0, .int .u64 0, .int .u64 0, .int .u64 0, .int .u64 0]) (by simp [results, Tryz.results18, go_sem, r0, r1, r2, r3, r4, r5, r6, r7, r8, r9, r10]) rfl ⟨rfl, ?_⟩
  exact HU1.out.set11 (by omega)

set_option maxHeartbeats 8000000 in
set_option maxRecDepth 100000 in
theorem integer_up (n : Int) (hn : In n) (w : World) :
    Calls Tryz.prog 12 #[.int .i64 n] w fun e w' => e = .returned (.agg #[.int .i64 n, .int .i64 1, .int .i64 n, .int .i64 1, .int .i64 n, .int .i64 1, .slice none 0 0, .int .u64 0, .int .u64 0, .int .u64 0, .int .u64 0]) ∧ Up w w' := by
  have H1 := Lib.hid (fun W => ofr_up n W)
  have H2 := Lib.hid (fun W => number_up n 1 (valid_one n) hn (by unfold In; omega) W)
  clear hn
  go_enter Tryz.func12, Tryz.ntmps12
  go_wp2_with fail
  refine (H1.out _).mono ?_
  rintro e w1 ⟨rfl, hu⟩
  go_wp2_with fail
  refine (H2.out _).mono ?_
  rintro e w2 ⟨rfl, hu2⟩
  have hv := hu.trans hu2
  have HU1 := Lib.hid (((Up.refl w).alloc #[.int .i64 0, .int .i64 0, .int .i64 0, .int .i64 0, .int .i64 0, .int .i64 0, .slice none 0 0, .int .u64 0, .int .u64 0, .int .u64 0, .int .u64 0] 40).trans hv)
  have r0 := hv.keep (w.heap.size) 0 (.int .i64 0) (by simp [go_sem])
  have r1 := hv.keep (w.heap.size) 1 (.int .i64 0) (by simp [go_sem])
  have r2 := hv.keep (w.heap.size) 2 (.int .i64 0) (by simp [go_sem])
  have r3 := hv.keep (w.heap.size) 3 (.int .i64 0) (by simp [go_sem])
  have r4 := hv.keep (w.heap.size) 4 (.int .i64 0) (by simp [go_sem])
  have r5 := hv.keep (w.heap.size) 5 (.int .i64 0) (by simp [go_sem])
  have r6 := hv.keep (w.heap.size) 6 (.slice none 0 0) (by simp [go_sem])
  have r7 := hv.keep (w.heap.size) 7 (.int .u64 0) (by simp [go_sem])
  have r8 := hv.keep (w.heap.size) 8 (.int .u64 0) (by simp [go_sem])
  have r9 := hv.keep (w.heap.size) 9 (.int .u64 0) (by simp [go_sem])
  have r10 := hv.keep (w.heap.size) 10 (.int .u64 0) (by simp [go_sem])
  have z0 := HU1.out.ownGe (g := w.heap.size) (by omega) 0
  have z1 := HU1.out.ownGe (g := w.heap.size) (by omega) 1
  have z2 := HU1.out.ownGe (g := w.heap.size) (by omega) 2
  have z3 := HU1.out.ownGe (g := w.heap.size) (by omega) 3
  have z4 := HU1.out.ownGe (g := w.heap.size) (by omega) 4
  have z5 := HU1.out.ownGe (g := w.heap.size) (by omega) 5
  have z6 := HU1.out.ownGe (g := w.heap.size) (by omega) 6
  have z7 := HU1.out.ownGe (g := w.heap.size) (by omega) 7
  have z8 := HU1.out.ownGe (g := w.heap.size) (by omega) 8
  have z9 := HU1.out.ownGe (g := w.heap.size) (by omega) 9
  have z10 := HU1.out.ownGe (g := w.heap.size) (by omega) 10
  clear hu hu2 hv
  go_wp2_with fail
  refine bodyPost_ret (v := .agg #[.int .i64 n, .int .i64 1, .int .i64 n, .int .i64 1, .int .i64 n, .int .i64 1, .slice none 0 0, .int .u64 0, .int .u64 0, .int .u64 0, .int .u64 0]) (by simp [results, Tryz.results12, go_sem, r0, r1, r2, r3, r4, r5, r6, r7, r8, r9, r10]) rfl ⟨rfl, ?_⟩
  exact HU1.out.set11 (by omega)

set_option maxHeartbeats 8000000 in
set_option maxRecDepth 100000 in
theorem whole8_up (n : Int) (hn : In n) (w : World) :
    Calls Tryz.prog 26 #[.int .i64 n] w fun e w' => e = .returned (.agg #[.int .i64 n, .int .i64 1, .int .i64 n, .int .i64 1, .int .i64 n, .int .i64 1]) ∧ Up w w' := by
  have H1 := Lib.hid (fun W => rofr_up n W)
  have H2 := Lib.hid (fun W => rexact9_up n 1 (valid_one n) hn (by unfold In; omega) W)
  clear hn
  go_enter Tryz.func26, Tryz.ntmps26
  go_wp2_with fail
  refine (H1.out _).mono ?_
  rintro e w1 ⟨rfl, hu⟩
  go_wp2_with fail
  refine (H2.out _).mono ?_
  rintro e w2 ⟨rfl, hu2⟩
  have hv := hu.trans hu2
  have HU1 := Lib.hid (((Up.refl w).alloc #[.int .i64 0, .int .i64 0, .int .i64 0, .int .i64 0, .int .i64 0, .int .i64 0] 32).trans hv)
  have r0 := hv.keep (w.heap.size) 0 (.int .i64 0) (by simp [go_sem])
  have r1 := hv.keep (w.heap.size) 1 (.int .i64 0) (by simp [go_sem])
  have r2 := hv.keep (w.heap.size) 2 (.int .i64 0) (by simp [go_sem])
  have r3 := hv.keep (w.heap.size) 3 (.int .i64 0) (by simp [go_sem])
  have r4 := hv.keep (w.heap.size) 4 (.int .i64 0) (by simp [go_sem])
  have r5 := hv.keep (w.heap.size) 5 (.int .i64 0) (by simp [go_sem])
  have z0 := HU1.out.ownGe (g := w.heap.size) (by omega) 0
  have z1 := HU1.out.ownGe (g := w.heap.size) (by omega) 1
  have z2 := HU1.out.ownGe (g := w.heap.size) (by omega) 2
  have z3 := HU1.out.ownGe (g := w.heap.size) (by omega) 3
  have z4 := HU1.out.ownGe (g := w.heap.size) (by omega) 4
  have z5 := HU1.out.ownGe (g := w.heap.size) (by omega) 5
  clear hu hu2 hv
  go_wp2_with fail
  refine bodyPost_ret (v := .agg #[.int .i64 n, .int .i64 1, .int .i64 n, .int .i64 1, .int .i64 n, .int .i64 1]) (by simp [results, Tryz.results26, go_sem, r0, r1, r2, r3, r4, r5]) rfl ⟨rfl, ?_⟩
  exact HU1.out.set6 (by omega)

set_option maxHeartbeats 8000000 in
set_option maxRecDepth 100000 in
theorem distance_up (n k : Nat) (A : Option Addr) (L : List It) (hn : n ≤ 1000000) (hs : smallI L) (w : World) (hS : Sl w A n L) :
    Calls Tryz.prog 16 #[.slice A n k] w fun e w' => e = .returned (.int .i64 (grV L - leV L)) ∧ Up w w' := by
  have K1 := Lib.hid (fun W (h : Sl W A n L) => least_up n k A L hn W h)
  have K2 := Lib.hid (fun W (h : Sl W A n L) => greatest_up n k A L hn W h)
  rw [leE_V] at K1
  rw [grE_V] at K2
  have HS := Lib.hid hS
  obtain ⟨x1, x2, x3, x4⟩ := ext_in hs
  generalize leV L = x at *
  generalize grV L = y at *
  clear hS
  unfold got at K1 K2
  go_enter Tryz.func16, Tryz.ntmps16
  go_wp2_with fail
  refine (K1.out _ HS.out).mono ?_
  rintro e w1 ⟨rfl, hu⟩
  go_wp2_with fail
  refine (K2.out _ (HS.out.up hu)).mono ?_
  rintro e w2 ⟨rfl, hu2⟩
  have HU := Lib.hid (hu.trans hu2)
  clear hu hu2
  go_wp2_with fail
  go_ret
  exact ⟨rfl, HU.out⟩
end Go.Proofs.YtflahclphdlolaaGreat

/- extremes and quantile of package recent. -/
namespace Go.Proofs.YtflahclphdlolaaGreat
open Go.RowKit

set_option maxHeartbeats 8000000 in
set_option maxRecDepth 100000 in
theorem extremes_up (n k : Nat) (A : Option Addr) (L : List It) (hn : n ≤ 1000000) (w : World) (hS : Sl w A n L) {N D e0 : Int} {Vs : List Int} (h : (if L = [] then ((0 : Int), (0 : Int), ([] : List Int), (7 : Int)) else (0, 0, [leV L, grV L], 0)) = (N, D, Vs, e0)) :
    Calls Tryz.prog 19 #[.slice A n k] w fun e w' => ∃ A' k', e = .returned (.tuple #[.agg #[.int .i64 N, .int .i64 D, .int .i64 N, .int .i64 D, .int .i64 N, .int .i64 D, .slice A' Vs.length k', .int .u64 0, .int .u64 0, .int .u64 0, .int .u64 0], .int .i64 e0]) ∧ Sn w' A' Vs.length Vs ∧ Nw w A' ∧ Up w w' := by
  have K1 := Lib.hid (fun W (h : Sl W A n L) => least_up n k A L hn W h)
  have K2 := Lib.hid (fun W (h : Sl W A n L) => greatest_up n k A L hn W h)
  rw [leE_V] at K1
  rw [grE_V] at K2
  have HS := Lib.hid hS
  by_cases he : L = []
  · rw [if_pos he] at h
    rw [decide_eq_false (show ¬ L ≠ [] by simp [he])] at K1
    cases h
    generalize leV L = x at *
    clear hS he K2
    unfold got at K1
    go_enter Tryz.func19, Tryz.ntmps19
    go_wp2_with fail
    refine (K1.out _ (HS.out.up ((Up.refl _).alloc _ _))).mono ?_
    rintro e w1 ⟨rfl, hu⟩
    have HU1 := Lib.hid (((Up.refl w).alloc #[.int .i64 0, .int .i64 0, .int .i64 0, .int .i64 0, .int .i64 0, .int .i64 0, .slice none 0 0, .int .u64 0, .int .u64 0, .int .u64 0, .int .u64 0] 40).trans hu)
    have r0 := hu.keep (w.heap.size) 0 (.int .i64 0) (by simp [go_sem])
    have r1 := hu.keep (w.heap.size) 1 (.int .i64 0) (by simp [go_sem])
    have r2 := hu.keep (w.heap.size) 2 (.int .i64 0) (by simp [go_sem])
    have r3 := hu.keep (w.heap.size) 3 (.int .i64 0) (by simp [go_sem])
    have r4 := hu.keep (w.heap.size) 4 (.int .i64 0) (by simp [go_sem])
    have r5 := hu.keep (w.heap.size) 5 (.int .i64 0) (by simp [go_sem])
    have r6 := hu.keep (w.heap.size) 6 (.slice none 0 0) (by simp [go_sem])
    have r7 := hu.keep (w.heap.size) 7 (.int .u64 0) (by simp [go_sem])
    have r8 := hu.keep (w.heap.size) 8 (.int .u64 0) (by simp [go_sem])
    have r9 := hu.keep (w.heap.size) 9 (.int .u64 0) (by simp [go_sem])
    have r10 := hu.keep (w.heap.size) 10 (.int .u64 0) (by simp [go_sem])
    have z0 := HU1.out.ownGe (g := w.heap.size) (by omega) 0
    have z1 := HU1.out.ownGe (g := w.heap.size) (by omega) 1
    have z2 := HU1.out.ownGe (g := w.heap.size) (by omega) 2
    have z3 := HU1.out.ownGe (g := w.heap.size) (by omega) 3
    have z4 := HU1.out.ownGe (g := w.heap.size) (by omega) 4
    have z5 := HU1.out.ownGe (g := w.heap.size) (by omega) 5
    have z6 := HU1.out.ownGe (g := w.heap.size) (by omega) 6
    have z7 := HU1.out.ownGe (g := w.heap.size) (by omega) 7
    have z8 := HU1.out.ownGe (g := w.heap.size) (by omega) 8
    have z9 := HU1.out.ownGe (g := w.heap.size) (by omega) 9
    have z10 := HU1.out.ownGe (g := w.heap.size) (by omega) 10
    clear hu
    go_wp2_with fail
    refine bodyPost_ret (v := .tuple #[.agg #[.int .i64 0, .int .i64 0, .int .i64 0, .int .i64 0, .int .i64 0, .int .i64 0, .slice none 0 0, .int .u64 0, .int .u64 0, .int .u64 0, .int .u64 0], .int .i64 7]) (by simp [results, Tryz.results19, go_sem, r0, r1, r2, r3, r4, r5, r6, r7, r8, r9, r10]) rfl ⟨none, 0, rfl, Sn.none_, Nw.none_, ?_⟩
    exact HU1.out.set11 (Nat.le_refl _)
  · rw [if_neg he] at h
    rw [decide_eq_true (show L ≠ [] from he)] at K1 K2
    cases h
    generalize leV L = x at *
    generalize grV L = y at *
    clear hS he
    unfold got at K1 K2
    go_enter Tryz.func19, Tryz.ntmps19
    go_wp2_with fail
    refine (K1.out _ (HS.out.up ((Up.refl _).alloc _ _))).mono ?_
    rintro e w1 ⟨rfl, hu⟩
    have HU1 := Lib.hid (((Up.refl w).alloc #[.int .i64 0, .int .i64 0, .int .i64 0, .int .i64 0, .int .i64 0, .int .i64 0, .slice none 0 0, .int .u64 0, .int .u64 0, .int .u64 0, .int .u64 0] 40).trans hu)
    go_wp2_with fail
    refine (K2.out _ (HS.out.up HU1.out)).mono ?_
    rintro e w2 ⟨rfl, hu2⟩
    have hv := hu.trans hu2
    have HU2 := Lib.hid (HU1.out.trans hu2)
    have r0 := hv.keep (w.heap.size) 0 (.int .i64 0) (by simp [go_sem])
    have r1 := hv.keep (w.heap.size) 1 (.int .i64 0) (by simp [go_sem])
    have r2 := hv.keep (w.heap.size) 2 (.int .i64 0) (by simp [go_sem])
    have r3 := hv.keep (w.heap.size) 3 (.int .i64 0) (by simp [go_sem])
    have r4 := hv.keep (w.heap.size) 4 (.int .i64 0) (by simp [go_sem])
    have r5 := hv.keep (w.heap.size) 5 (.int .i64 0) (by simp [go_sem])
    have r6 := hv.keep (w.heap.size) 6 (.slice none 0 0) (by simp [go_sem])
    have r7 := hv.keep (w.heap.size) 7 (.int .u64 0) (by simp [go_sem])
    have r8 := hv.keep (w.heap.size) 8 (.int .u64 0) (by simp [go_sem])
    have r9 := hv.keep (w.heap.size) 9 (.int .u64 0) (by simp [go_sem])
    have r10 := hv.keep (w.heap.size) 10 (.int .u64 0) (by simp [go_sem])
    have z0 := HU2.out.ownGe (g := w.heap.size) (by omega) 0
    have z1 := HU2.out.ownGe (g := w.heap.size) (by omega) 1
    have z2 := HU2.out.ownGe (g := w.heap.size) (by omega) 2
    have z3 := HU2.out.ownGe (g := w.heap.size) (by omega) 3
    have z4 := HU2.out.ownGe (g := w.heap.size) (by omega) 4
    have z5 := HU2.out.ownGe (g := w.heap.size) (by omega) 5
    have z6 := HU2.out.ownGe (g := w.heap.size) (by omega) 6
    have z7 := HU2.out.ownGe (g := w.heap.size) (by omega) 7
    have z8 := HU2.out.ownGe (g := w.heap.size) (by omega) 8
    have z9 := HU2.out.ownGe (g := w.heap.size) (by omega) 9
    have z10 := HU2.out.ownGe (g := w.heap.size) (by omega) 10
    have hlt : w.heap.size < w2.heap.size := World.block_lt_of_cell? _ _ r0
    clear hu hu2 hv
    go_wp2_with fail
    refine bodyPost_ret (v := .tuple #[.agg #[.int .i64 0, .int .i64 0, .int .i64 0, .int .i64 0, .int .i64 0, .int .i64 0, .slice (some ⟨w2.heap.size, 0, none⟩) 2 2, .int .u64 0, .int .u64 0, .int .u64 0, .int .u64 0], .int .i64 0]) (by simp [results, Tryz.results19, go_sem, r0, r1, r2, r3, r4, r5, r6, r7, r8, r9, r10, hlt]) rfl ⟨some ⟨w2.heap.size, 0, none⟩, 2, rfl, ?_, fun b o e => by cases e; exact HU2.out.size, ?_⟩
    · exact (Bn.new _ [x, y] _ (by simp [World.setCell])).sn rfl
    · exact (HU2.out.set11 (Nat.le_refl _)).alloc _ _

set_option maxHeartbeats 8000000 in
set_option maxRecDepth 100000 in
theorem quantile9_lo (n k : Nat) (A : Option Addr) (L : List It) (a b : Int) (hb : b ≤ 9223372036854775807) (hn : n ≤ 1000000) (w : World) (hS : Sl w A n L) {N D e0 : Int} {Vs : List Int}
    (h : (if askB a b = false then ((0 : Int), (0 : Int), ([] : List Int), (1 : Int)) else if (qnO L a b).isSome = true then (0, 0, [(qnO L a b).getD 0], 0) else (0, 0, [], 7)) = (N, D, Vs, e0)) :
    Calls Tryz.prog 21 #[.slice A n k, .int .i64 a, .int .i64 b] w fun e w' => ∃ A' k', e = .returned (.tuple #[.agg #[.int .i64 N, .int .i64 D, .int .i64 N, .int .i64 D, .int .i64 N, .int .i64 D, .slice A' Vs.length k', .int .u64 0, .int .u64 0, .int .u64 0, .int .u64 0], .int .i64 e0]) ∧ Sn w' A' Vs.length Vs ∧ Nw w A' ∧ Lo w w' := by
  have K1 := Lib.hid (fun W (h : Sl W A n L) => quantile_lo n k A L a b hb hn W h)
  have HS := Lib.hid hS
  by_cases ha : askB a b = false
  · rw [if_pos ha] at h
    cases h
    have h3 : b < 1 ∨ a < 0 ∨ b < a := by have := of_decide_eq_false ha; omega
    clear K1 hS ha
    by_cases h1 : b < 1
    · have t1 : decide (b < 1) = true := decide_eq_true h1
      clear h1 h3
      go_enter Tryz.func21, Tryz.ntmps21
      go_wp2_with fail
      refine bodyPost_ret (v := .tuple #[.agg #[.int .i64 0, .int .i64 0, .int .i64 0, .int .i64 0, .int .i64 0, .int .i64 0, .slice none 0 0, .int .u64 0, .int .u64 0, .int .u64 0, .int .u64 0], .int .i64 1]) (by simp [results, Tryz.results21, go_sem]) rfl ⟨none, 0, rfl, Sn.none_, Nw.none_, ?_⟩
      exact Lo.of_up (by repeat (first | exact Up.refl _ | refine Up.alloc ?_ _ _ | refine Up.setCell ?_ (by first | (simp; done) | (simp; omega) | omega) _ | refine Up.drewN ?_ _ | refine Up.drew ?_))
    have t1 : decide (b < 1) = false := decide_eq_false h1
    by_cases h2 : a < 0
    · have t2 : decide (a < 0) = true := decide_eq_true h2
      clear h1 h2 h3
      go_enter Tryz.func21, Tryz.ntmps21
      go_wp2_with fail
      refine bodyPost_ret (v := .tuple #[.agg #[.int .i64 0, .int .i64 0, .int .i64 0, .int .i64 0, .int .i64 0, .int .i64 0, .slice none 0 0, .int .u64 0, .int .u64 0, .int .u64 0, .int .u64 0], .int .i64 1]) (by simp [results, Tryz.results21, go_sem]) rfl ⟨none, 0, rfl, Sn.none_, Nw.none_, ?_⟩
      exact Lo.of_up (by repeat (first | exact Up.refl _ | refine Up.alloc ?_ _ _ | refine Up.setCell ?_ (by first | (simp; done) | (simp; omega) | omega) _ | refine Up.drewN ?_ _ | refine Up.drew ?_))
    have t2 : decide (a < 0) = false := decide_eq_false h2
    have t3 : decide (b < a) = true := decide_eq_true (by omega)
    clear h1 h2 h3
    go_enter Tryz.func21, Tryz.ntmps21
    go_wp2_with fail
    refine bodyPost_ret (v := .tuple #[.agg #[.int .i64 0, .int .i64 0, .int .i64 0, .int .i64 0, .int .i64 0, .int .i64 0, .slice none 0 0, .int .u64 0, .int .u64 0, .int .u64 0, .int .u64 0], .int .i64 1]) (by simp [results, Tryz.results21, go_sem]) rfl ⟨none, 0, rfl, Sn.none_, Nw.none_, ?_⟩
    exact Lo.of_up (by repeat (first | exact Up.refl _ | refine Up.alloc ?_ _ _ | refine Up.setCell ?_ (by first | (simp; done) | (simp; omega) | omega) _ | refine Up.drewN ?_ _ | refine Up.drew ?_))
  rw [if_neg ha] at h
  have h3 : 1 ≤ b ∧ 0 ≤ a ∧ a ≤ b := of_decide_eq_true (by rw [Bool.not_eq_false] at ha; exact ha)
  have t1 : decide (b < 1) = false := decide_eq_false (by omega)
  have t2 : decide (a < 0) = false := decide_eq_false (by omega)
  have t3 : decide (b < a) = false := decide_eq_false (by omega)
  clear h3 ha hS
  generalize (qnO L a b).getD 0 = y at *
  generalize (qnO L a b).isSome = s at *
  unfold got at K1
  cases s with
  | false =>
    rw [if_neg (by simp)] at h
    cases h
    go_enter Tryz.func21, Tryz.ntmps21
    go_wp2_with fail
    refine (K1.out _ (HS.out.up ((Up.refl _).alloc _ _))).mono ?_
    rintro e w1 ⟨rfl, hu⟩
    have HV : Hid (Lo (w.alloc (.cells #[.int .i64 0, .int .i64 0, .int .i64 0, .int .i64 0, .int .i64 0, .int .i64 0, .slice none 0 0, .int .u64 0, .int .u64 0, .int .u64 0, .int .u64 0] 40)) w1) := Lib.hid hu
    have HU1 : Hid (Lo w w1) := Lib.hid (Below.trans ((Up.refl w).alloc #[.int .i64 0, .int .i64 0, .int .i64 0, .int .i64 0, .int .i64 0, .int .i64 0, .slice none 0 0, .int .u64 0, .int .u64 0, .int .u64 0, .int .u64 0] 40).below (hu.mono (by simp)))
    have r0 := HV.out.keep (w.heap.size) 0 (.int .i64 0) (by simp [go_sem])
    have r1 := HV.out.keep (w.heap.size) 1 (.int .i64 0) (by simp [go_sem])
    have r2 := HV.out.keep (w.heap.size) 2 (.int .i64 0) (by simp [go_sem])
    have r3 := HV.out.keep (w.heap.size) 3 (.int .i64 0) (by simp [go_sem])
    have r4 := HV.out.keep (w.heap.size) 4 (.int .i64 0) (by simp [go_sem])
    have r5 := HV.out.keep (w.heap.size) 5 (.int .i64 0) (by simp [go_sem])
    have r6 := HV.out.keep (w.heap.size) 6 (.slice none 0 0) (by simp [go_sem])
    have r7 := HV.out.keep (w.heap.size) 7 (.int .u64 0) (by simp [go_sem])
    have r8 := HV.out.keep (w.heap.size) 8 (.int .u64 0) (by simp [go_sem])
    have r9 := HV.out.keep (w.heap.size) 9 (.int .u64 0) (by simp [go_sem])
    have r10 := HV.out.keep (w.heap.size) 10 (.int .u64 0) (by simp [go_sem])
    have z0 : w1.frozen? ⟨w.heap.size, 0, none⟩ = false := (HV.out.frozen9 _ (by simp)).trans ((Blk.new w _ _).frozen 0)
    have z1 : w1.frozen? ⟨w.heap.size, 1, none⟩ = false := (HV.out.frozen9 _ (by simp)).trans ((Blk.new w _ _).frozen 1)
    have z2 : w1.frozen? ⟨w.heap.size, 2, none⟩ = false := (HV.out.frozen9 _ (by simp)).trans ((Blk.new w _ _).frozen 2)
    have z3 : w1.frozen? ⟨w.heap.size, 3, none⟩ = false := (HV.out.frozen9 _ (by simp)).trans ((Blk.new w _ _).frozen 3)
    have z4 : w1.frozen? ⟨w.heap.size, 4, none⟩ = false := (HV.out.frozen9 _ (by simp)).trans ((Blk.new w _ _).frozen 4)
    have z5 : w1.frozen? ⟨w.heap.size, 5, none⟩ = false := (HV.out.frozen9 _ (by simp)).trans ((Blk.new w _ _).frozen 5)
    have z6 : w1.frozen? ⟨w.heap.size, 6, none⟩ = false := (HV.out.frozen9 _ (by simp)).trans ((Blk.new w _ _).frozen 6)
    have z7 : w1.frozen? ⟨w.heap.size, 7, none⟩ = false := (HV.out.frozen9 _ (by simp)).trans ((Blk.new w _ _).frozen 7)
    have z8 : w1.frozen? ⟨w.heap.size, 8, none⟩ = false := (HV.out.frozen9 _ (by simp)).trans ((Blk.new w _ _).frozen 8)
    have z9 : w1.frozen? ⟨w.heap.size, 9, none⟩ = false := (HV.out.frozen9 _ (by simp)).trans ((Blk.new w _ _).frozen 9)
    have z10 : w1.frozen? ⟨w.heap.size, 10, none⟩ = false := (HV.out.frozen9 _ (by simp)).trans ((Blk.new w _ _).frozen 10)
    clear hu
    go_wp2_with fail
    refine bodyPost_ret (v := .tuple #[.agg #[.int .i64 0, .int .i64 0, .int .i64 0, .int .i64 0, .int .i64 0, .int .i64 0, .slice none 0 0, .int .u64 0, .int .u64 0, .int .u64 0, .int .u64 0], .int .i64 7]) (by simp [results, Tryz.results21, go_sem, r0, r1, r2, r3, r4, r5, r6, r7, r8, r9, r10]) rfl ⟨none, 0, rfl, Sn.none_, Nw.none_, ?_⟩
    exact HU1.out.set11 (Nat.le_refl _)
  | true =>
    rw [if_pos rfl] at h
    cases h
    go_enter Tryz.func21, Tryz.ntmps21
    go_wp2_with fail
    refine (K1.out _ (HS.out.up ((Up.refl _).alloc _ _))).mono ?_
    rintro e w1 ⟨rfl, hu⟩
    have HV : Hid (Lo (w.alloc (.cells #[.int .i64 0, .int .i64 0, .int .i64 0, .int .i64 0, .int .i64 0, .int .i64 0, .slice none 0 0, .int .u64 0, .int .u64 0, .int .u64 0, .int .u64 0] 40)) w1) := Lib.hid hu
    have HU1 : Hid (Lo w w1) := Lib.hid (Below.trans ((Up.refl w).alloc #[.int .i64 0, .int .i64 0, .int .i64 0, .int .i64 0, .int .i64 0, .int .i64 0, .slice none 0 0, .int .u64 0, .int .u64 0, .int .u64 0, .int .u64 0] 40).below (hu.mono (by simp)))
    have r0 := HV.out.keep (w.heap.size) 0 (.int .i64 0) (by simp [go_sem])
    have r1 := HV.out.keep (w.heap.size) 1 (.int .i64 0) (by simp [go_sem])
    have r2 := HV.out.keep (w.heap.size) 2 (.int .i64 0) (by simp [go_sem])
    have r3 := HV.out.keep (w.heap.size) 3 (.int .i64 0) (by simp [go_sem])
    have r4 := HV.out.keep (w.heap.size) 4 (.int .i64 0) (by simp [go_sem])
    have r5 := HV.out.keep (w.heap.size) 5 (.int .i64 0) (by simp [go_sem])
    have r6 := HV.out.keep (w.heap.size) 6 (.slice none 0 0) (by simp [go_sem])
    have r7 := HV.out.keep (w.heap.size) 7 (.int .u64 0) (by simp [go_sem])
    have r8 := HV.out.keep (w.heap.size) 8 (.int .u64 0) (by simp [go_sem])
    have r9 := HV.out.keep (w.heap.size) 9 (.int .u64 0) (by simp [go_sem])
    have r10 := HV.out.keep (w.heap.size) 10 (.int .u64 0) (by simp [go_sem])
    have z0 : w1.frozen? ⟨w.heap.size, 0, none⟩ = false := (HV.out.frozen9 _ (by simp)).trans ((Blk.new w _ _).frozen 0)
    have z1 : w1.frozen? ⟨w.heap.size, 1, none⟩ = false := (HV.out.frozen9 _ (by simp)).trans ((Blk.new w _ _).frozen 1)
    have z2 : w1.frozen? ⟨w.heap.size, 2, none⟩ = false := (HV.out.frozen9 _ (by simp)).trans ((Blk.new w _ _).frozen 2)
    have z3 : w1.frozen? ⟨w.heap.size, 3, none⟩ = false := (HV.out.frozen9 _ (by simp)).trans ((Blk.new w _ _).frozen 3)
    have z4 : w1.frozen? ⟨w.heap.size, 4, none⟩ = false := (HV.out.frozen9 _ (by simp)).trans ((Blk.new w _ _).frozen 4)
    have z5 : w1.frozen? ⟨w.heap.size, 5, none⟩ = false := (HV.out.frozen9 _ (by simp)).trans ((Blk.new w _ _).frozen 5)
    have z6 : w1.frozen? ⟨w.heap.size, 6, none⟩ = false := (HV.out.frozen9 _ (by simp)).trans ((Blk.new w _ _).frozen 6)
    have z7 : w1.frozen? ⟨w.heap.size, 7, none⟩ = false := (HV.out.frozen9 _ (by simp)).trans ((Blk.new w _ _).frozen 7)
    have z8 : w1.frozen? ⟨w.heap.size, 8, none⟩ = false := (HV.out.frozen9 _ (by simp)).trans ((Blk.new w _ _).frozen 8)
    have z9 : w1.frozen? ⟨w.heap.size, 9, none⟩ = false := (HV.out.frozen9 _ (by simp)).trans ((Blk.new w _ _).frozen 9)
    have z10 : w1.frozen? ⟨w.heap.size, 10, none⟩ = false := (HV.out.frozen9 _ (by simp)).trans ((Blk.new w _ _).frozen 10)
    have hlt : w.heap.size < w1.heap.size := World.block_lt_of_cell? _ _ r0
    clear hu
    go_wp2_with fail
    refine bodyPost_ret (v := .tuple #[.agg #[.int .i64 0, .int .i64 0, .int .i64 0, .int .i64 0, .int .i64 0, .int .i64 0, .slice (some ⟨w1.heap.size, 0, none⟩) 1 1, .int .u64 0, .int .u64 0, .int .u64 0, .int .u64 0], .int .i64 0]) (by simp [results, Tryz.results21, go_sem, r0, r1, r2, r3, r4, r5, r6, r7, r8, r9, r10, hlt]) rfl ⟨some ⟨w1.heap.size, 0, none⟩, 1, rfl, ?_, fun b o e => by cases e; exact Nat.le_of_lt hlt, ?_⟩
    · exact (Bn.new _ [y] _ (by simp [World.setCell])).sn rfl
    · exact (HU1.out.set11 (Nat.le_refl _)).up ((Up.refl _).alloc _ _)
end Go.Proofs.YtflahclphdlolaaGreat

/- What Ask of package recent returns. -/
namespace Go.Proofs.YtflahclphdlolaaGreat
open Go.RowKit

set_option maxHeartbeats 8000000 in
set_option maxRecDepth 100000 in
theorem ask9_bad (v c now o a b : Int) (n k : Nat) (A : Option Addr) (L : List It) (hst : stB v c now L = false) (w : World) (hS : Sl w A n L) :
    Calls Tryz.prog 6 #[.agg #[.int .i64 v, .int .i64 c, .int .i64 now, .slice A n k], .agg #[.int .i64 o, .int .i64 a, .int .i64 b]] w fun e w' => e = .returned (.tuple #[.agg #[.int .i64 0, .int .i64 0, .int .i64 0, .int .i64 0, .int .i64 0, .int .i64 0, .slice none 0 0, .int .u64 0, .int .u64 0, .int .u64 0, .int .u64 0], .int .i64 2]) ∧ Up w w' := by
  have KV := Lib.hid (fun W (h : Sl W A n L) => validate9_up v c now n k A L W h)
  rw [stE_no hst] at KV
  have HS := Lib.hid hS
  clear hS hst
  go_enter Tryz.func6, Tryz.ntmps6
  go_wp2_with (go_at_call 11; (with_reducible refine (KV.out _ (HS.out.up ((((Up.refl w).alloc _ _).alloc _ _).alloc _ _))).mono ?_); rintro e w1 ⟨rfl, hu⟩; have HU1 := Lib.hid (((((Up.refl w).alloc #[.int .i64 v, .int .i64 c, .int .i64 now, .slice A n k] 24).alloc #[.int .i64 o, .int .i64 a, .int .i64 b] 26).alloc #[.int .i64 0, .int .i64 0, .int .i64 0, .int .i64 0, .int .i64 0, .int .i64 0, .slice none 0 0, .int .u64 0, .int .u64 0, .int .u64 0, .int .u64 0] 40).trans hu); have s3 := hu.keep w.heap.size 3 (.slice A n k) (by simp [go_sem]); have q0 := hu.keep (w.heap.size + 1) 0 (.int .i64 o) (by simp [go_sem]); have q1 := hu.keep (w.heap.size + 1) 1 (.int .i64 a) (by simp [go_sem]); have q2 := hu.keep (w.heap.size + 1) 2 (.int .i64 b) (by simp [go_sem]); have r0 := hu.keep (w.heap.size + 1 + 1) 0 (.int .i64 0) (by simp [go_sem]); have r1 := hu.keep (w.heap.size + 1 + 1) 1 (.int .i64 0) (by simp [go_sem]); have r2 := hu.keep (w.heap.size + 1 + 1) 2 (.int .i64 0) (by simp [go_sem]); have r3 := hu.keep (w.heap.size + 1 + 1) 3 (.int .i64 0) (by simp [go_sem]); have r4 := hu.keep (w.heap.size + 1 + 1) 4 (.int .i64 0) (by simp [go_sem]); have r5 := hu.keep (w.heap.size + 1 + 1) 5 (.int .i64 0) (by simp [go_sem]); have r6 := hu.keep (w.heap.size + 1 + 1) 6 (.slice none 0 0) (by simp [go_sem]); have r7 := hu.keep (w.heap.size + 1 + 1) 7 (.int .u64 0) (by simp [go_sem]); have r8 := hu.keep (w.heap.size + 1 + 1) 8 (.int .u64 0) (by simp [go_sem]); have r9 := hu.keep (w.heap.size + 1 + 1) 9 (.int .u64 0) (by simp [go_sem]); have r10 := hu.keep (w.heap.size + 1 + 1) 10 (.int .u64 0) (by simp [go_sem]); have z0 := HU1.out.ownGe (g := w.heap.size + 1 + 1) (by omega) 0; have z1 := HU1.out.ownGe (g := w.heap.size + 1 + 1) (by omega) 1; have z2 := HU1.out.ownGe (g := w.heap.size + 1 + 1) (by omega) 2; have z3 := HU1.out.ownGe (g := w.heap.size + 1 + 1) (by omega) 3; have z4 := HU1.out.ownGe (g := w.heap.size + 1 + 1) (by omega) 4; have z5 := HU1.out.ownGe (g := w.heap.size + 1 + 1) (by omega) 5; have z6 := HU1.out.ownGe (g := w.heap.size + 1 + 1) (by omega) 6; have z7 := HU1.out.ownGe (g := w.heap.size + 1 + 1) (by omega) 7; have z8 := HU1.out.ownGe (g := w.heap.size + 1 + 1) (by omega) 8; have z9 := HU1.out.ownGe (g := w.heap.size + 1 + 1) (by omega) 9; have z10 := HU1.out.ownGe (g := w.heap.size + 1 + 1) (by omega) 10; have hlt : w.heap.size + 1 + 1 < w1.heap.size := World.block_lt_of_cell? _ _ r0; clear hu)
  refine bodyPost_ret (v := .tuple #[.agg #[.int .i64 0, .int .i64 0, .int .i64 0, .int .i64 0, .int .i64 0, .int .i64 0, .slice none 0 0, .int .u64 0, .int .u64 0, .int .u64 0, .int .u64 0], .int .i64 2]) (by simp [results, Tryz.results6, go_sem, r0, r1, r2, r3, r4, r5, r6, r7, r8, r9, r10]) rfl ⟨rfl, ?_⟩
  exact HU1.out.set11 (by omega)

set_option maxHeartbeats 8000000 in
set_option maxRecDepth 100000 in
theorem ask9_other (v c now o a b : Int) (n k : Nat) (A : Option Addr) (L : List It) (hst : stB v c now L = true) (ho : ¬ (1 ≤ o ∧ o ≤ 8)) (w : World) (hS : Sl w A n L) :
    Calls Tryz.prog 6 #[.agg #[.int .i64 v, .int .i64 c, .int .i64 now, .slice A n k], .agg #[.int .i64 o, .int .i64 a, .int .i64 b]] w fun e w' => e = .returned (.tuple #[.agg #[.int .i64 0, .int .i64 0, .int .i64 0, .int .i64 0, .int .i64 0, .int .i64 0, .slice none 0 0, .int .u64 0, .int .u64 0, .int .u64 0, .int .u64 0], .int .i64 12]) ∧ Up w w' := by
  have KV := Lib.hid (fun W (h : Sl W A n L) => validate9_up v c now n k A L W h)
  rw [stE_yes hst] at KV
  have HS := Lib.hid hS
  have t1 : (o == 1) = false := by simp; omega
  have t2 : (o == 2) = false := by simp; omega
  have t3 : (o == 3) = false := by simp; omega
  have t4 : (o == 4) = false := by simp; omega
  have t5 : (o == 5) = false := by simp; omega
  have t6 : (o == 6) = false := by simp; omega
  have t7 : (o == 7) = false := by simp; omega
  have t8 : (o == 8) = false := by simp; omega
  clear hS hst ho
  go_enter Tryz.func6, Tryz.ntmps6
  go_wp2_with (go_at_call 11; (with_reducible refine (KV.out _ (HS.out.up ((((Up.refl w).alloc _ _).alloc _ _).alloc _ _))).mono ?_); rintro e w1 ⟨rfl, hu⟩; have HU1 := Lib.hid (((((Up.refl w).alloc #[.int .i64 v, .int .i64 c, .int .i64 now, .slice A n k] 24).alloc #[.int .i64 o, .int .i64 a, .int .i64 b] 26).alloc #[.int .i64 0, .int .i64 0, .int .i64 0, .int .i64 0, .int .i64 0, .int .i64 0, .slice none 0 0, .int .u64 0, .int .u64 0, .int .u64 0, .int .u64 0] 40).trans hu); have s3 := hu.keep w.heap.size 3 (.slice A n k) (by simp [go_sem]); have q0 := hu.keep (w.heap.size + 1) 0 (.int .i64 o) (by simp [go_sem]); have q1 := hu.keep (w.heap.size + 1) 1 (.int .i64 a) (by simp [go_sem]); have q2 := hu.keep (w.heap.size + 1) 2 (.int .i64 b) (by simp [go_sem]); have r0 := hu.keep (w.heap.size + 1 + 1) 0 (.int .i64 0) (by simp [go_sem]); have r1 := hu.keep (w.heap.size + 1 + 1) 1 (.int .i64 0) (by simp [go_sem]); have r2 := hu.keep (w.heap.size + 1 + 1) 2 (.int .i64 0) (by simp [go_sem]); have r3 := hu.keep (w.heap.size + 1 + 1) 3 (.int .i64 0) (by simp [go_sem]); have r4 := hu.keep (w.heap.size + 1 + 1) 4 (.int .i64 0) (by simp [go_sem]); have r5 := hu.keep (w.heap.size + 1 + 1) 5 (.int .i64 0) (by simp [go_sem]); have r6 := hu.keep (w.heap.size + 1 + 1) 6 (.slice none 0 0) (by simp [go_sem]); have r7 := hu.keep (w.heap.size + 1 + 1) 7 (.int .u64 0) (by simp [go_sem]); have r8 := hu.keep (w.heap.size + 1 + 1) 8 (.int .u64 0) (by simp [go_sem]); have r9 := hu.keep (w.heap.size + 1 + 1) 9 (.int .u64 0) (by simp [go_sem]); have r10 := hu.keep (w.heap.size + 1 + 1) 10 (.int .u64 0) (by simp [go_sem]); have z0 := HU1.out.ownGe (g := w.heap.size + 1 + 1) (by omega) 0; have z1 := HU1.out.ownGe (g := w.heap.size + 1 + 1) (by omega) 1; have z2 := HU1.out.ownGe (g := w.heap.size + 1 + 1) (by omega) 2; have z3 := HU1.out.ownGe (g := w.heap.size + 1 + 1) (by omega) 3; have z4 := HU1.out.ownGe (g := w.heap.size + 1 + 1) (by omega) 4; have z5 := HU1.out.ownGe (g := w.heap.size + 1 + 1) (by omega) 5; have z6 := HU1.out.ownGe (g := w.heap.size + 1 + 1) (by omega) 6; have z7 := HU1.out.ownGe (g := w.heap.size + 1 + 1) (by omega) 7; have z8 := HU1.out.ownGe (g := w.heap.size + 1 + 1) (by omega) 8; have z9 := HU1.out.ownGe (g := w.heap.size + 1 + 1) (by omega) 9; have z10 := HU1.out.ownGe (g := w.heap.size + 1 + 1) (by omega) 10; have hlt : w.heap.size + 1 + 1 < w1.heap.size := World.block_lt_of_cell? _ _ r0; clear hu)
  refine bodyPost_ret (v := .tuple #[.agg #[.int .i64 0, .int .i64 0, .int .i64 0, .int .i64 0, .int .i64 0, .int .i64 0, .slice none 0 0, .int .u64 0, .int .u64 0, .int .u64 0, .int .u64 0], .int .i64 12]) (by simp [results, Tryz.results6, go_sem, r0, r1, r2, r3, r4, r5, r6, r7, r8, r9, r10]) rfl ⟨rfl, ?_⟩
  exact HU1.out.set11 (by omega)

set_option maxHeartbeats 8000000 in
set_option maxRecDepth 100000 in
theorem ask9_1 (v c now a b : Int) (n k : Nat) (A : Option Addr) (L : List It) (hst : stB v c now L = true) (w : World) (hS : Sl w A n L) :
    Calls Tryz.prog 6 #[.agg #[.int .i64 v, .int .i64 c, .int .i64 now, .slice A n k], .agg #[.int .i64 1, .int .i64 a, .int .i64 b]] w fun e w' => e = .returned (.tuple #[.agg #[.int .i64 (L.length : Int), .int .i64 1, .int .i64 (L.length : Int), .int .i64 1, .int .i64 (L.length : Int), .int .i64 1, .slice none 0 0, .int .u64 0, .int .u64 0, .int .u64 0, .int .u64 0], .int .i64 0]) ∧ Up w w' := by
  have KV := Lib.hid (fun W (h : Sl W A n L) => validate9_up v c now n k A L W h)
  rw [stE_yes hst] at KV
  have HS := Lib.hid hS
  obtain ⟨hI, hl, hs⟩ := st_small hst
  have hn : n ≤ 65536 := by rw [← hS.1]; exact hl
  have KA := Lib.hid (fun W => count_any n k A W)
  have KB := Lib.hid (fun W => integer_up (n : Int) (by unfold In; omega) W)
  rw [show (L.length : Int) = n by rw [hS.1]]
  clear hS hst hI hl hs hn
  go_enter Tryz.func6, Tryz.ntmps6
  go_wp2_with (go_at_call 11; (with_reducible refine (KV.out _ (HS.out.up ((((Up.refl w).alloc _ _).alloc _ _).alloc _ _))).mono ?_); rintro e w1 ⟨rfl, hu⟩; have HU1 := Lib.hid (((((Up.refl w).alloc #[.int .i64 v, .int .i64 c, .int .i64 now, .slice A n k] 24).alloc #[.int .i64 1, .int .i64 a, .int .i64 b] 26).alloc #[.int .i64 0, .int .i64 0, .int .i64 0, .int .i64 0, .int .i64 0, .int .i64 0, .slice none 0 0, .int .u64 0, .int .u64 0, .int .u64 0, .int .u64 0] 40).trans hu); have s3 := hu.keep w.heap.size 3 (.slice A n k) (by simp [go_sem]); have q0 := hu.keep (w.heap.size + 1) 0 (.int .i64 1) (by simp [go_sem]); have q1 := hu.keep (w.heap.size + 1) 1 (.int .i64 a) (by simp [go_sem]); have q2 := hu.keep (w.heap.size + 1) 2 (.int .i64 b) (by simp [go_sem]); have r0 := hu.keep (w.heap.size + 1 + 1) 0 (.int .i64 0) (by simp [go_sem]); have r1 := hu.keep (w.heap.size + 1 + 1) 1 (.int .i64 0) (by simp [go_sem]); have r2 := hu.keep (w.heap.size + 1 + 1) 2 (.int .i64 0) (by simp [go_sem]); have r3 := hu.keep (w.heap.size + 1 + 1) 3 (.int .i64 0) (by simp [go_sem]); have r4 := hu.keep (w.heap.size + 1 + 1) 4 (.int .i64 0) (by simp [go_sem]); have r5 := hu.keep (w.heap.size + 1 + 1) 5 (.int .i64 0) (by simp [go_sem]); have r6 := hu.keep (w.heap.size + 1 + 1) 6 (.slice none 0 0) (by simp [go_sem]); have r7 := hu.keep (w.heap.size + 1 + 1) 7 (.int .u64 0) (by simp [go_sem]); have r8 := hu.keep (w.heap.size + 1 + 1) 8 (.int .u64 0) (by simp [go_sem]); have r9 := hu.keep (w.heap.size + 1 + 1) 9 (.int .u64 0) (by simp [go_sem]); have r10 := hu.keep (w.heap.size + 1 + 1) 10 (.int .u64 0) (by simp [go_sem]); have z0 := HU1.out.ownGe (g := w.heap.size + 1 + 1) (by omega) 0; have z1 := HU1.out.ownGe (g := w.heap.size + 1 + 1) (by omega) 1; have z2 := HU1.out.ownGe (g := w.heap.size + 1 + 1) (by omega) 2; have z3 := HU1.out.ownGe (g := w.heap.size + 1 + 1) (by omega) 3; have z4 := HU1.out.ownGe (g := w.heap.size + 1 + 1) (by omega) 4; have z5 := HU1.out.ownGe (g := w.heap.size + 1 + 1) (by omega) 5; have z6 := HU1.out.ownGe (g := w.heap.size + 1 + 1) (by omega) 6; have z7 := HU1.out.ownGe (g := w.heap.size + 1 + 1) (by omega) 7; have z8 := HU1.out.ownGe (g := w.heap.size + 1 + 1) (by omega) 8; have z9 := HU1.out.ownGe (g := w.heap.size + 1 + 1) (by omega) 9; have z10 := HU1.out.ownGe (g := w.heap.size + 1 + 1) (by omega) 10; have hlt : w.heap.size + 1 + 1 < w1.heap.size := World.block_lt_of_cell? _ _ r0; clear hu)
  refine (KA.out _).mono ?_
  rintro e w2 ⟨rfl, rfl⟩
  go_wp2_with fail
  refine (KB.out _).mono ?_
  rintro e w3 ⟨rfl, hv⟩
  have HU2 := Lib.hid (HU1.out.trans hv)
  have R0 := hv.keep _ _ _ r0
  have R1 := hv.keep _ _ _ r1
  have R2 := hv.keep _ _ _ r2
  have R3 := hv.keep _ _ _ r3
  have R4 := hv.keep _ _ _ r4
  have R5 := hv.keep _ _ _ r5
  have R6 := hv.keep _ _ _ r6
  have R7 := hv.keep _ _ _ r7
  have R8 := hv.keep _ _ _ r8
  have R9 := hv.keep _ _ _ r9
  have R10 := hv.keep _ _ _ r10
  have Z0 := HU2.out.ownGe (g := w.heap.size + 1 + 1) (by omega) 0
  have Z1 := HU2.out.ownGe (g := w.heap.size + 1 + 1) (by omega) 1
  have Z2 := HU2.out.ownGe (g := w.heap.size + 1 + 1) (by omega) 2
  have Z3 := HU2.out.ownGe (g := w.heap.size + 1 + 1) (by omega) 3
  have Z4 := HU2.out.ownGe (g := w.heap.size + 1 + 1) (by omega) 4
  have Z5 := HU2.out.ownGe (g := w.heap.size + 1 + 1) (by omega) 5
  have Z6 := HU2.out.ownGe (g := w.heap.size + 1 + 1) (by omega) 6
  have Z7 := HU2.out.ownGe (g := w.heap.size + 1 + 1) (by omega) 7
  have Z8 := HU2.out.ownGe (g := w.heap.size + 1 + 1) (by omega) 8
  have Z9 := HU2.out.ownGe (g := w.heap.size + 1 + 1) (by omega) 9
  have Z10 := HU2.out.ownGe (g := w.heap.size + 1 + 1) (by omega) 10
  clear r0 r1 r2 r3 r4 r5 r6 r7 r8 r9 r10 z0 z1 z2 z3 z4 z5 z6 z7 z8 z9 z10 s3 q0 q1 q2
  clear hv
  go_wp2_with fail
  refine bodyPost_ret (v := .tuple #[.agg #[.int .i64 (n : Int), .int .i64 1, .int .i64 (n : Int), .int .i64 1, .int .i64 (n : Int), .int .i64 1, .slice none 0 0, .int .u64 0, .int .u64 0, .int .u64 0, .int .u64 0], .int .i64 0]) (by simp [results, Tryz.results6, go_sem, R0, R1, R2, R3, R4, R5, R6, R7, R8, R9, R10]) rfl ⟨rfl, ?_⟩
  exact HU2.out.set11 (by omega)

set_option maxHeartbeats 8000000 in
set_option maxRecDepth 100000 in
theorem ask9_2 (v c now a b : Int) (n k : Nat) (A : Option Addr) (L : List It) (hst : stB v c now L = true) (w : World) (hS : Sl w A n L) :
    Calls Tryz.prog 6 #[.agg #[.int .i64 v, .int .i64 c, .int .i64 now, .slice A n k], .agg #[.int .i64 2, .int .i64 a, .int .i64 b]] w fun e w' => e = .returned (.tuple #[.agg #[.int .i64 (smZ L), .int .i64 1, .int .i64 (smZ L), .int .i64 1, .int .i64 (smZ L), .int .i64 1, .slice none 0 0, .int .u64 0, .int .u64 0, .int .u64 0, .int .u64 0], .int .i64 0]) ∧ Up w w' := by
  have KV := Lib.hid (fun W (h : Sl W A n L) => validate9_up v c now n k A L W h)
  rw [stE_yes hst] at KV
  have HS := Lib.hid hS
  obtain ⟨hI, hl, hs⟩ := st_small hst
  have hn : n ≤ 65536 := by rw [← hS.1]; exact hl
  have hx : In (smZ L) := by have := sm_bound hs; unfold In; omega
  have KA := Lib.hid (fun W (h : Sl W A n L) => sumE_up n k A L (by omega) hI W h)
  have KB := Lib.hid (fun W => integer_up (smZ L) hx W)
  rw [fit_yes hx, fits_yes hx] at KA
  unfold got at KA
  clear hx
  generalize smZ L = x at *
  clear hS hst hI hl hs hn
  go_enter Tryz.func6, Tryz.ntmps6
  go_wp2_with (go_at_call 11; (with_reducible refine (KV.out _ (HS.out.up ((((Up.refl w).alloc _ _).alloc _ _).alloc _ _))).mono ?_); rintro e w1 ⟨rfl, hu⟩; have HU1 := Lib.hid (((((Up.refl w).alloc #[.int .i64 v, .int .i64 c, .int .i64 now, .slice A n k] 24).alloc #[.int .i64 2, .int .i64 a, .int .i64 b] 26).alloc #[.int .i64 0, .int .i64 0, .int .i64 0, .int .i64 0, .int .i64 0, .int .i64 0, .slice none 0 0, .int .u64 0, .int .u64 0, .int .u64 0, .int .u64 0] 40).trans hu); have s3 := hu.keep w.heap.size 3 (.slice A n k) (by simp [go_sem]); have q0 := hu.keep (w.heap.size + 1) 0 (.int .i64 2) (by simp [go_sem]); have q1 := hu.keep (w.heap.size + 1) 1 (.int .i64 a) (by simp [go_sem]); have q2 := hu.keep (w.heap.size + 1) 2 (.int .i64 b) (by simp [go_sem]); have r0 := hu.keep (w.heap.size + 1 + 1) 0 (.int .i64 0) (by simp [go_sem]); have r1 := hu.keep (w.heap.size + 1 + 1) 1 (.int .i64 0) (by simp [go_sem]); have r2 := hu.keep (w.heap.size + 1 + 1) 2 (.int .i64 0) (by simp [go_sem]); have r3 := hu.keep (w.heap.size + 1 + 1) 3 (.int .i64 0) (by simp [go_sem]); have r4 := hu.keep (w.heap.size + 1 + 1) 4 (.int .i64 0) (by simp [go_sem]); have r5 := hu.keep (w.heap.size + 1 + 1) 5 (.int .i64 0) (by simp [go_sem]); have r6 := hu.keep (w.heap.size + 1 + 1) 6 (.slice none 0 0) (by simp [go_sem]); have r7 := hu.keep (w.heap.size + 1 + 1) 7 (.int .u64 0) (by simp [go_sem]); have r8 := hu.keep (w.heap.size + 1 + 1) 8 (.int .u64 0) (by simp [go_sem]); have r9 := hu.keep (w.heap.size + 1 + 1) 9 (.int .u64 0) (by simp [go_sem]); have r10 := hu.keep (w.heap.size + 1 + 1) 10 (.int .u64 0) (by simp [go_sem]); have z0 := HU1.out.ownGe (g := w.heap.size + 1 + 1) (by omega) 0; have z1 := HU1.out.ownGe (g := w.heap.size + 1 + 1) (by omega) 1; have z2 := HU1.out.ownGe (g := w.heap.size + 1 + 1) (by omega) 2; have z3 := HU1.out.ownGe (g := w.heap.size + 1 + 1) (by omega) 3; have z4 := HU1.out.ownGe (g := w.heap.size + 1 + 1) (by omega) 4; have z5 := HU1.out.ownGe (g := w.heap.size + 1 + 1) (by omega) 5; have z6 := HU1.out.ownGe (g := w.heap.size + 1 + 1) (by omega) 6; have z7 := HU1.out.ownGe (g := w.heap.size + 1 + 1) (by omega) 7; have z8 := HU1.out.ownGe (g := w.heap.size + 1 + 1) (by omega) 8; have z9 := HU1.out.ownGe (g := w.heap.size + 1 + 1) (by omega) 9; have z10 := HU1.out.ownGe (g := w.heap.size + 1 + 1) (by omega) 10; have hlt : w.heap.size + 1 + 1 < w1.heap.size := World.block_lt_of_cell? _ _ r0; clear hu)
  refine (KA.out _ (HS.out.up HU1.out)).mono ?_
  rintro e w2 ⟨rfl, hu2⟩
  go_wp2_with fail
  refine (KB.out _).mono ?_
  rintro e w3 ⟨rfl, hu3⟩
  have hv := hu2.trans hu3
  clear hu2 hu3
  have HU2 := Lib.hid (HU1.out.trans hv)
  have R0 := hv.keep _ _ _ r0
  have R1 := hv.keep _ _ _ r1
  have R2 := hv.keep _ _ _ r2
  have R3 := hv.keep _ _ _ r3
  have R4 := hv.keep _ _ _ r4
  have R5 := hv.keep _ _ _ r5
  have R6 := hv.keep _ _ _ r6
  have R7 := hv.keep _ _ _ r7
  have R8 := hv.keep _ _ _ r8
  have R9 := hv.keep _ _ _ r9
  have R10 := hv.keep _ _ _ r10
  have Z0 := HU2.out.ownGe (g := w.heap.size + 1 + 1) (by omega) 0
  have Z1 := HU2.out.ownGe (g := w.heap.size + 1 + 1) (by omega) 1
  have Z2 := HU2.out.ownGe (g := w.heap.size + 1 + 1) (by omega) 2
  have Z3 := HU2.out.ownGe (g := w.heap.size + 1 + 1) (by omega) 3
  have Z4 := HU2.out.ownGe (g := w.heap.size + 1 + 1) (by omega) 4
  have Z5 := HU2.out.ownGe (g := w.heap.size + 1 + 1) (by omega) 5
  have Z6 := HU2.out.ownGe (g := w.heap.size + 1 + 1) (by omega) 6
  have Z7 := HU2.out.ownGe (g := w.heap.size + 1 + 1) (by omega) 7
  have Z8 := HU2.out.ownGe (g := w.heap.size + 1 + 1) (by omega) 8
  have Z9 := HU2.out.ownGe (g := w.heap.size + 1 + 1) (by omega) 9
  have Z10 := HU2.out.ownGe (g := w.heap.size + 1 + 1) (by omega) 10
  clear r0 r1 r2 r3 r4 r5 r6 r7 r8 r9 r10 z0 z1 z2 z3 z4 z5 z6 z7 z8 z9 z10 s3 q0 q1 q2
  clear hv
  go_wp2_with fail
  refine bodyPost_ret (v := .tuple #[.agg #[.int .i64 x, .int .i64 1, .int .i64 x, .int .i64 1, .int .i64 x, .int .i64 1, .slice none 0 0, .int .u64 0, .int .u64 0, .int .u64 0, .int .u64 0], .int .i64 0]) (by simp [results, Tryz.results6, go_sem, R0, R1, R2, R3, R4, R5, R6, R7, R8, R9, R10]) rfl ⟨rfl, ?_⟩
  exact HU2.out.set11 (by omega)

set_option maxHeartbeats 8000000 in
set_option maxRecDepth 100000 in
theorem ask9_3 (v c now a b : Int) (n k : Nat) (A : Option Addr) (L : List It) (hst : stB v c now L = true) (w : World) (hS : Sl w A n L) :
    Calls Tryz.prog 6 #[.agg #[.int .i64 v, .int .i64 c, .int .i64 now, .slice A n k], .agg #[.int .i64 3, .int .i64 a, .int .i64 b]] w fun e w' => e = .returned (.tuple #[.agg #[.int .i64 (sqZ L), .int .i64 1, .int .i64 (sqZ L), .int .i64 1, .int .i64 (sqZ L), .int .i64 1, .slice none 0 0, .int .u64 0, .int .u64 0, .int .u64 0, .int .u64 0], .int .i64 0]) ∧ Up w w' := by
  have KV := Lib.hid (fun W (h : Sl W A n L) => validate9_up v c now n k A L W h)
  rw [stE_yes hst] at KV
  have HS := Lib.hid hS
  obtain ⟨hI, hl, hs⟩ := st_small hst
  have hn : n ≤ 65536 := by rw [← hS.1]; exact hl
  have hx : In (sqZ L) := by have := sq_bound hs; unfold In; omega
  have KA := Lib.hid (fun W (h : Sl W A n L) => squaresE_up n k A L (by omega) hI W h)
  have KB := Lib.hid (fun W => integer_up (sqZ L) hx W)
  rw [fit_yes hx, fits_yes hx] at KA
  unfold got at KA
  clear hx
  generalize sqZ L = x at *
  clear hS hst hI hl hs hn
  go_enter Tryz.func6, Tryz.ntmps6
  go_wp2_with (go_at_call 11; (with_reducible refine (KV.out _ (HS.out.up ((((Up.refl w).alloc _ _).alloc _ _).alloc _ _))).mono ?_); rintro e w1 ⟨rfl, hu⟩; have HU1 := Lib.hid (((((Up.refl w).alloc #[.int .i64 v, .int .i64 c, .int .i64 now, .slice A n k] 24).alloc #[.int .i64 3, .int .i64 a, .int .i64 b] 26).alloc #[.int .i64 0, .int .i64 0, .int .i64 0, .int .i64 0, .int .i64 0, .int .i64 0, .slice none 0 0, .int .u64 0, .int .u64 0, .int .u64 0, .int .u64 0] 40).trans hu); have s3 := hu.keep w.heap.size 3 (.slice A n k) (by simp [go_sem]); have q0 := hu.keep (w.heap.size + 1) 0 (.int .i64 3) (by simp [go_sem]); have q1 := hu.keep (w.heap.size + 1) 1 (.int .i64 a) (by simp [go_sem]); have q2 := hu.keep (w.heap.size + 1) 2 (.int .i64 b) (by simp [go_sem]); have r0 := hu.keep (w.heap.size + 1 + 1) 0 (.int .i64 0) (by simp [go_sem]); have r1 := hu.keep (w.heap.size + 1 + 1) 1 (.int .i64 0) (by simp [go_sem]); have r2 := hu.keep (w.heap.size + 1 + 1) 2 (.int .i64 0) (by simp [go_sem]); have r3 := hu.keep (w.heap.size + 1 + 1) 3 (.int .i64 0) (by simp [go_sem]); have r4 := hu.keep (w.heap.size + 1 + 1) 4 (.int .i64 0) (by simp [go_sem]); have r5 := hu.keep (w.heap.size + 1 + 1) 5 (.int .i64 0) (by simp [go_sem]); have r6 := hu.keep (w.heap.size + 1 + 1) 6 (.slice none 0 0) (by simp [go_sem]); have r7 := hu.keep (w.heap.size + 1 + 1) 7 (.int .u64 0) (by simp [go_sem]); have r8 := hu.keep (w.heap.size + 1 + 1) 8 (.int .u64 0) (by simp [go_sem]); have r9 := hu.keep (w.heap.size + 1 + 1) 9 (.int .u64 0) (by simp [go_sem]); have r10 := hu.keep (w.heap.size + 1 + 1) 10 (.int .u64 0) (by simp [go_sem]); have z0 := HU1.out.ownGe (g := w.heap.size + 1 + 1) (by omega) 0; have z1 := HU1.out.ownGe (g := w.heap.size + 1 + 1) (by omega) 1; have z2 := HU1.out.ownGe (g := w.heap.size + 1 + 1) (by omega) 2; have z3 := HU1.out.ownGe (g := w.heap.size + 1 + 1) (by omega) 3; have z4 := HU1.out.ownGe (g := w.heap.size + 1 + 1) (by omega) 4; have z5 := HU1.out.ownGe (g := w.heap.size + 1 + 1) (by omega) 5; have z6 := HU1.out.ownGe (g := w.heap.size + 1 + 1) (by omega) 6; have z7 := HU1.out.ownGe (g := w.heap.size + 1 + 1) (by omega) 7; have z8 := HU1.out.ownGe (g := w.heap.size + 1 + 1) (by omega) 8; have z9 := HU1.out.ownGe (g := w.heap.size + 1 + 1) (by omega) 9; have z10 := HU1.out.ownGe (g := w.heap.size + 1 + 1) (by omega) 10; have hlt : w.heap.size + 1 + 1 < w1.heap.size := World.block_lt_of_cell? _ _ r0; clear hu)
  refine (KA.out _ (HS.out.up HU1.out)).mono ?_
  rintro e w2 ⟨rfl, hu2⟩
  go_wp2_with fail
  refine (KB.out _).mono ?_
  rintro e w3 ⟨rfl, hu3⟩
  have hv := hu2.trans hu3
  clear hu2 hu3
  have HU2 := Lib.hid (HU1.out.trans hv)
  have R0 := hv.keep _ _ _ r0
  have R1 := hv.keep _ _ _ r1
  have R2 := hv.keep _ _ _ r2
  have R3 := hv.keep _ _ _ r3
  have R4 := hv.keep _ _ _ r4
  have R5 := hv.keep _ _ _ r5
  have R6 := hv.keep _ _ _ r6
  have R7 := hv.keep _ _ _ r7
  have R8 := hv.keep _ _ _ r8
  have R9 := hv.keep _ _ _ r9
  have R10 := hv.keep _ _ _ r10
  have Z0 := HU2.out.ownGe (g := w.heap.size + 1 + 1) (by omega) 0
  have Z1 := HU2.out.ownGe (g := w.heap.size + 1 + 1) (by omega) 1
  have Z2 := HU2.out.ownGe (g := w.heap.size + 1 + 1) (by omega) 2
  have Z3 := HU2.out.ownGe (g := w.heap.size + 1 + 1) (by omega) 3
  have Z4 := HU2.out.ownGe (g := w.heap.size + 1 + 1) (by omega) 4
  have Z5 := HU2.out.ownGe (g := w.heap.size + 1 + 1) (by omega) 5
  have Z6 := HU2.out.ownGe (g := w.heap.size + 1 + 1) (by omega) 6
  have Z7 := HU2.out.ownGe (g := w.heap.size + 1 + 1) (by omega) 7
  have Z8 := HU2.out.ownGe (g := w.heap.size + 1 + 1) (by omega) 8
  have Z9 := HU2.out.ownGe (g := w.heap.size + 1 + 1) (by omega) 9
  have Z10 := HU2.out.ownGe (g := w.heap.size + 1 + 1) (by omega) 10
  clear r0 r1 r2 r3 r4 r5 r6 r7 r8 r9 r10 z0 z1 z2 z3 z4 z5 z6 z7 z8 z9 z10 s3 q0 q1 q2
  clear hv
  go_wp2_with fail
  refine bodyPost_ret (v := .tuple #[.agg #[.int .i64 x, .int .i64 1, .int .i64 x, .int .i64 1, .int .i64 x, .int .i64 1, .slice none 0 0, .int .u64 0, .int .u64 0, .int .u64 0, .int .u64 0], .int .i64 0]) (by simp [results, Tryz.results6, go_sem, R0, R1, R2, R3, R4, R5, R6, R7, R8, R9, R10]) rfl ⟨rfl, ?_⟩
  exact HU2.out.set11 (by omega)

set_option maxHeartbeats 8000000 in
set_option maxRecDepth 100000 in
theorem ask9_4 (v c now a b : Int) (n k : Nat) (A : Option Addr) (L : List It) (hst : stB v c now L = true) (w : World) (hS : Sl w A n L) :
    Calls Tryz.prog 6 #[.agg #[.int .i64 v, .int .i64 c, .int .i64 now, .slice A n k], .agg #[.int .i64 4, .int .i64 a, .int .i64 b]] w fun e w' => e = .returned (.tuple #[.agg #[.int .i64 (grV L - leV L), .int .i64 1, .int .i64 (grV L - leV L), .int .i64 1, .int .i64 (grV L - leV L), .int .i64 1, .slice none 0 0, .int .u64 0, .int .u64 0, .int .u64 0, .int .u64 0], .int .i64 0]) ∧ Up w w' := by
  have KV := Lib.hid (fun W (h : Sl W A n L) => validate9_up v c now n k A L W h)
  rw [stE_yes hst] at KV
  have HS := Lib.hid hS
  obtain ⟨hI, hl, hs⟩ := st_small hst
  have hn : n ≤ 65536 := by rw [← hS.1]; exact hl
  have hx : In (grV L - leV L) := by have := ext_in hs; unfold In; omega
  have KA := Lib.hid (fun W (h : Sl W A n L) => distance_up n k A L (by omega) hs W h)
  have KB := Lib.hid (fun W => integer_up (grV L - leV L) hx W)
  clear hx
  generalize grV L - leV L = x at *
  clear hS hst hI hl hs hn
  go_enter Tryz.func6, Tryz.ntmps6
  go_wp2_with (go_at_call 11; (with_reducible refine (KV.out _ (HS.out.up ((((Up.refl w).alloc _ _).alloc _ _).alloc _ _))).mono ?_); rintro e w1 ⟨rfl, hu⟩; have HU1 := Lib.hid (((((Up.refl w).alloc #[.int .i64 v, .int .i64 c, .int .i64 now, .slice A n k] 24).alloc #[.int .i64 4, .int .i64 a, .int .i64 b] 26).alloc #[.int .i64 0, .int .i64 0, .int .i64 0, .int .i64 0, .int .i64 0, .int .i64 0, .slice none 0 0, .int .u64 0, .int .u64 0, .int .u64 0, .int .u64 0] 40).trans hu); have s3 := hu.keep w.heap.size 3 (.slice A n k) (by simp [go_sem]); have q0 := hu.keep (w.heap.size + 1) 0 (.int .i64 4) (by simp [go_sem]); have q1 := hu.keep (w.heap.size + 1) 1 (.int .i64 a) (by simp [go_sem]); have q2 := hu.keep (w.heap.size + 1) 2 (.int .i64 b) (by simp [go_sem]); have r0 := hu.keep (w.heap.size + 1 + 1) 0 (.int .i64 0) (by simp [go_sem]); have r1 := hu.keep (w.heap.size + 1 + 1) 1 (.int .i64 0) (by simp [go_sem]); have r2 := hu.keep (w.heap.size + 1 + 1) 2 (.int .i64 0) (by simp [go_sem]); have r3 := hu.keep (w.heap.size + 1 + 1) 3 (.int .i64 0) (by simp [go_sem]); have r4 := hu.keep (w.heap.size + 1 + 1) 4 (.int .i64 0) (by simp [go_sem]); have r5 := hu.keep (w.heap.size + 1 + 1) 5 (.int .i64 0) (by simp [go_sem]); have r6 := hu.keep (w.heap.size + 1 + 1) 6 (.slice none 0 0) (by simp [go_sem]); have r7 := hu.keep (w.heap.size + 1 + 1) 7 (.int .u64 0) (by simp [go_sem]); have r8 := hu.keep (w.heap.size + 1 + 1) 8 (.int .u64 0) (by simp [go_sem]); have r9 := hu.keep (w.heap.size + 1 + 1) 9 (.int .u64 0) (by simp [go_sem]); have r10 := hu.keep (w.heap.size + 1 + 1) 10 (.int .u64 0) (by simp [go_sem]); have z0 := HU1.out.ownGe (g := w.heap.size + 1 + 1) (by omega) 0; have z1 := HU1.out.ownGe (g := w.heap.size + 1 + 1) (by omega) 1; have z2 := HU1.out.ownGe (g := w.heap.size + 1 + 1) (by omega) 2; have z3 := HU1.out.ownGe (g := w.heap.size + 1 + 1) (by omega) 3; have z4 := HU1.out.ownGe (g := w.heap.size + 1 + 1) (by omega) 4; have z5 := HU1.out.ownGe (g := w.heap.size + 1 + 1) (by omega) 5; have z6 := HU1.out.ownGe (g := w.heap.size + 1 + 1) (by omega) 6; have z7 := HU1.out.ownGe (g := w.heap.size + 1 + 1) (by omega) 7; have z8 := HU1.out.ownGe (g := w.heap.size + 1 + 1) (by omega) 8; have z9 := HU1.out.ownGe (g := w.heap.size + 1 + 1) (by omega) 9; have z10 := HU1.out.ownGe (g := w.heap.size + 1 + 1) (by omega) 10; have hlt : w.heap.size + 1 + 1 < w1.heap.size := World.block_lt_of_cell? _ _ r0; clear hu)
  refine (KA.out _ (HS.out.up HU1.out)).mono ?_
  rintro e w2 ⟨rfl, hu2⟩
  go_wp2_with fail
  refine (KB.out _).mono ?_
  rintro e w3 ⟨rfl, hu3⟩
  have hv := hu2.trans hu3
  clear hu2 hu3
  have HU2 := Lib.hid (HU1.out.trans hv)
  have R0 := hv.keep _ _ _ r0
  have R1 := hv.keep _ _ _ r1
  have R2 := hv.keep _ _ _ r2
  have R3 := hv.keep _ _ _ r3
  have R4 := hv.keep _ _ _ r4
  have R5 := hv.keep _ _ _ r5
  have R6 := hv.keep _ _ _ r6
  have R7 := hv.keep _ _ _ r7
  have R8 := hv.keep _ _ _ r8
  have R9 := hv.keep _ _ _ r9
  have R10 := hv.keep _ _ _ r10
  have Z0 := HU2.out.ownGe (g := w.heap.size + 1 + 1) (by omega) 0
  have Z1 := HU2.out.ownGe (g := w.heap.size + 1 + 1) (by omega) 1
  have Z2 := HU2.out.ownGe (g := w.heap.size + 1 + 1) (by omega) 2
  have Z3 := HU2.out.ownGe (g := w.heap.size + 1 + 1) (by omega) 3
  have Z4 := HU2.out.ownGe (g := w.heap.size + 1 + 1) (by omega) 4
  have Z5 := HU2.out.ownGe (g := w.heap.size + 1 + 1) (by omega) 5
  have Z6 := HU2.out.ownGe (g := w.heap.size + 1 + 1) (by omega) 6
  have Z7 := HU2.out.ownGe (g := w.heap.size + 1 + 1) (by omega) 7
  have Z8 := HU2.out.ownGe (g := w.heap.size + 1 + 1) (by omega) 8
  have Z9 := HU2.out.ownGe (g := w.heap.size + 1 + 1) (by omega) 9
  have Z10 := HU2.out.ownGe (g := w.heap.size + 1 + 1) (by omega) 10
  clear r0 r1 r2 r3 r4 r5 r6 r7 r8 r9 r10 z0 z1 z2 z3 z4 z5 z6 z7 z8 z9 z10 s3 q0 q1 q2
  clear hv
  go_wp2_with fail
  refine bodyPost_ret (v := .tuple #[.agg #[.int .i64 x, .int .i64 1, .int .i64 x, .int .i64 1, .int .i64 x, .int .i64 1, .slice none 0 0, .int .u64 0, .int .u64 0, .int .u64 0, .int .u64 0], .int .i64 0]) (by simp [results, Tryz.results6, go_sem, R0, R1, R2, R3, R4, R5, R6, R7, R8, R9, R10]) rfl ⟨rfl, ?_⟩
  exact HU2.out.set11 (by omega)

set_option maxHeartbeats 8000000 in
set_option maxRecDepth 100000 in
theorem ask9_5 (v c now a b : Int) (n k : Nat) (A : Option Addr) (L : List It) (hst : stB v c now L = true) (w : World) (hS : Sl w A n L) :
    Calls Tryz.prog 6 #[.agg #[.int .i64 v, .int .i64 c, .int .i64 now, .slice A n k], .agg #[.int .i64 5, .int .i64 a, .int .i64 b]] w fun e w' => e = .returned (.tuple #[.agg #[.int .i64 (sprN L), .int .i64 (sprD L), .int .i64 (sprN L), .int .i64 (sprD L), .int .i64 (sprN L), .int .i64 (sprD L), .slice none 0 0, .int .u64 0, .int .u64 0, .int .u64 0, .int .u64 0], .int .i64 0]) ∧ Up w w' := by
  have KV := Lib.hid (fun W (h : Sl W A n L) => validate9_up v c now n k A L W h)
  rw [stE_yes hst] at KV
  have HS := Lib.hid hS
  obtain ⟨hI, hl, hs⟩ := st_small hst
  have hn : n ≤ 65536 := by rw [← hS.1]; exact hl
  have hx := spr_ok hs hl
  have KA := Lib.hid (fun W (h : Sl W A n L) => spread_up n k A L (by omega) hI W h)
  have KB := Lib.hid (fun W => number_up (sprN L) (sprD L) hx.1 hx.2.1 hx.2.2.1 W)
  rw [hx.2.2.2] at KA
  unfold gotR at KA
  clear hx
  generalize sprN L = x at *
  generalize sprD L = y at *
  clear hS hst hI hl hs hn
  go_enter Tryz.func6, Tryz.ntmps6
  go_wp2_with (go_at_call 11; (with_reducible refine (KV.out _ (HS.out.up ((((Up.refl w).alloc _ _).alloc _ _).alloc _ _))).mono ?_); rintro e w1 ⟨rfl, hu⟩; have HU1 := Lib.hid (((((Up.refl w).alloc #[.int .i64 v, .int .i64 c, .int .i64 now, .slice A n k] 24).alloc #[.int .i64 5, .int .i64 a, .int .i64 b] 26).alloc #[.int .i64 0, .int .i64 0, .int .i64 0, .int .i64 0, .int .i64 0, .int .i64 0, .slice none 0 0, .int .u64 0, .int .u64 0, .int .u64 0, .int .u64 0] 40).trans hu); have s3 := hu.keep w.heap.size 3 (.slice A n k) (by simp [go_sem]); have q0 := hu.keep (w.heap.size + 1) 0 (.int .i64 5) (by simp [go_sem]); have q1 := hu.keep (w.heap.size + 1) 1 (.int .i64 a) (by simp [go_sem]); have q2 := hu.keep (w.heap.size + 1) 2 (.int .i64 b) (by simp [go_sem]); have r0 := hu.keep (w.heap.size + 1 + 1) 0 (.int .i64 0) (by simp [go_sem]); have r1 := hu.keep (w.heap.size + 1 + 1) 1 (.int .i64 0) (by simp [go_sem]); have r2 := hu.keep (w.heap.size + 1 + 1) 2 (.int .i64 0) (by simp [go_sem]); have r3 := hu.keep (w.heap.size + 1 + 1) 3 (.int .i64 0) (by simp [go_sem]); have r4 := hu.keep (w.heap.size + 1 + 1) 4 (.int .i64 0) (by simp [go_sem]); have r5 := hu.keep (w.heap.size + 1 + 1) 5 (.int .i64 0) (by simp [go_sem]); have r6 := hu.keep (w.heap.size + 1 + 1) 6 (.slice none 0 0) (by simp [go_sem]); have r7 := hu.keep (w.heap.size + 1 + 1) 7 (.int .u64 0) (by simp [go_sem]); have r8 := hu.keep (w.heap.size + 1 + 1) 8 (.int .u64 0) (by simp [go_sem]); have r9 := hu.keep (w.heap.size + 1 + 1) 9 (.int .u64 0) (by simp [go_sem]); have r10 := hu.keep (w.heap.size + 1 + 1) 10 (.int .u64 0) (by simp [go_sem]); have z0 := HU1.out.ownGe (g := w.heap.size + 1 + 1) (by omega) 0; have z1 := HU1.out.ownGe (g := w.heap.size + 1 + 1) (by omega) 1; have z2 := HU1.out.ownGe (g := w.heap.size + 1 + 1) (by omega) 2; have z3 := HU1.out.ownGe (g := w.heap.size + 1 + 1) (by omega) 3; have z4 := HU1.out.ownGe (g := w.heap.size + 1 + 1) (by omega) 4; have z5 := HU1.out.ownGe (g := w.heap.size + 1 + 1) (by omega) 5; have z6 := HU1.out.ownGe (g := w.heap.size + 1 + 1) (by omega) 6; have z7 := HU1.out.ownGe (g := w.heap.size + 1 + 1) (by omega) 7; have z8 := HU1.out.ownGe (g := w.heap.size + 1 + 1) (by omega) 8; have z9 := HU1.out.ownGe (g := w.heap.size + 1 + 1) (by omega) 9; have z10 := HU1.out.ownGe (g := w.heap.size + 1 + 1) (by omega) 10; have hlt : w.heap.size + 1 + 1 < w1.heap.size := World.block_lt_of_cell? _ _ r0; clear hu)
  refine (KA.out _ (HS.out.up HU1.out)).mono ?_
  rintro e w2 ⟨rfl, hu2⟩
  go_wp2_with fail
  refine (KB.out _).mono ?_
  rintro e w3 ⟨rfl, hu3⟩
  have hv := (hu2.alloc #[.int .i64 x, .int .i64 y] 30).trans hu3
  clear hu2 hu3
  have HU2 := Lib.hid (HU1.out.trans hv)
  have R0 := hv.keep _ _ _ r0
  have R1 := hv.keep _ _ _ r1
  have R2 := hv.keep _ _ _ r2
  have R3 := hv.keep _ _ _ r3
  have R4 := hv.keep _ _ _ r4
  have R5 := hv.keep _ _ _ r5
  have R6 := hv.keep _ _ _ r6
  have R7 := hv.keep _ _ _ r7
  have R8 := hv.keep _ _ _ r8
  have R9 := hv.keep _ _ _ r9
  have R10 := hv.keep _ _ _ r10
  have Z0 := HU2.out.ownGe (g := w.heap.size + 1 + 1) (by omega) 0
  have Z1 := HU2.out.ownGe (g := w.heap.size + 1 + 1) (by omega) 1
  have Z2 := HU2.out.ownGe (g := w.heap.size + 1 + 1) (by omega) 2
  have Z3 := HU2.out.ownGe (g := w.heap.size + 1 + 1) (by omega) 3
  have Z4 := HU2.out.ownGe (g := w.heap.size + 1 + 1) (by omega) 4
  have Z5 := HU2.out.ownGe (g := w.heap.size + 1 + 1) (by omega) 5
  have Z6 := HU2.out.ownGe (g := w.heap.size + 1 + 1) (by omega) 6
  have Z7 := HU2.out.ownGe (g := w.heap.size + 1 + 1) (by omega) 7
  have Z8 := HU2.out.ownGe (g := w.heap.size + 1 + 1) (by omega) 8
  have Z9 := HU2.out.ownGe (g := w.heap.size + 1 + 1) (by omega) 9
  have Z10 := HU2.out.ownGe (g := w.heap.size + 1 + 1) (by omega) 10
  clear r0 r1 r2 r3 r4 r5 r6 r7 r8 r9 r10 z0 z1 z2 z3 z4 z5 z6 z7 z8 z9 z10 s3 q0 q1 q2
  clear hv
  go_wp2_with fail
  refine bodyPost_ret (v := .tuple #[.agg #[.int .i64 x, .int .i64 y, .int .i64 x, .int .i64 y, .int .i64 x, .int .i64 y, .slice none 0 0, .int .u64 0, .int .u64 0, .int .u64 0, .int .u64 0], .int .i64 0]) (by simp [results, Tryz.results6, go_sem, R0, R1, R2, R3, R4, R5, R6, R7, R8, R9, R10]) rfl ⟨rfl, ?_⟩
  exact HU2.out.set11 (by omega)

set_option maxHeartbeats 8000000 in
set_option maxRecDepth 100000 in
theorem ask9_7 (v c now a b : Int) (n k : Nat) (A : Option Addr) (L : List It) (hst : stB v c now L = true) (w : World) (hS : Sl w A n L) :
    Calls Tryz.prog 6 #[.agg #[.int .i64 v, .int .i64 c, .int .i64 now, .slice A n k], .agg #[.int .i64 7, .int .i64 a, .int .i64 b]] w fun e w' => e = .returned (.tuple #[.agg #[.int .i64 (rkN a L : Int), .int .i64 1, .int .i64 (rkN a L : Int), .int .i64 1, .int .i64 (rkN a L : Int), .int .i64 1, .slice none 0 0, .int .u64 0, .int .u64 0, .int .u64 0, .int .u64 0], .int .i64 0]) ∧ Up w w' := by
  have KV := Lib.hid (fun W (h : Sl W A n L) => validate9_up v c now n k A L W h)
  rw [stE_yes hst] at KV
  have HS := Lib.hid hS
  obtain ⟨hI, hl, hs⟩ := st_small hst
  have hn : n ≤ 65536 := by rw [← hS.1]; exact hl
  have hx : In (rkN a L : Int) := by have := rkN_le a L; unfold In; omega
  have KA := Lib.hid (fun W (h : Sl W A n L) => rank_up n k A L a (by omega) W h)
  have KB := Lib.hid (fun W => integer_up (rkN a L : Int) hx W)
  clear hx
  generalize (rkN a L : Int) = x at *
  clear hS hst hI hl hs hn
  go_enter Tryz.func6, Tryz.ntmps6
  go_wp2_with (go_at_call 11; (with_reducible refine (KV.out _ (HS.out.up ((((Up.refl w).alloc _ _).alloc _ _).alloc _ _))).mono ?_); rintro e w1 ⟨rfl, hu⟩; have HU1 := Lib.hid (((((Up.refl w).alloc #[.int .i64 v, .int .i64 c, .int .i64 now, .slice A n k] 24).alloc #[.int .i64 7, .int .i64 a, .int .i64 b] 26).alloc #[.int .i64 0, .int .i64 0, .int .i64 0, .int .i64 0, .int .i64 0, .int .i64 0, .slice none 0 0, .int .u64 0, .int .u64 0, .int .u64 0, .int .u64 0] 40).trans hu); have s3 := hu.keep w.heap.size 3 (.slice A n k) (by simp [go_sem]); have q0 := hu.keep (w.heap.size + 1) 0 (.int .i64 7) (by simp [go_sem]); have q1 := hu.keep (w.heap.size + 1) 1 (.int .i64 a) (by simp [go_sem]); have q2 := hu.keep (w.heap.size + 1) 2 (.int .i64 b) (by simp [go_sem]); have r0 := hu.keep (w.heap.size + 1 + 1) 0 (.int .i64 0) (by simp [go_sem]); have r1 := hu.keep (w.heap.size + 1 + 1) 1 (.int .i64 0) (by simp [go_sem]); have r2 := hu.keep (w.heap.size + 1 + 1) 2 (.int .i64 0) (by simp [go_sem]); have r3 := hu.keep (w.heap.size + 1 + 1) 3 (.int .i64 0) (by simp [go_sem]); have r4 := hu.keep (w.heap.size + 1 + 1) 4 (.int .i64 0) (by simp [go_sem]); have r5 := hu.keep (w.heap.size + 1 + 1) 5 (.int .i64 0) (by simp [go_sem]); have r6 := hu.keep (w.heap.size + 1 + 1) 6 (.slice none 0 0) (by simp [go_sem]); have r7 := hu.keep (w.heap.size + 1 + 1) 7 (.int .u64 0) (by simp [go_sem]); have r8 := hu.keep (w.heap.size + 1 + 1) 8 (.int .u64 0) (by simp [go_sem]); have r9 := hu.keep (w.heap.size + 1 + 1) 9 (.int .u64 0) (by simp [go_sem]); have r10 := hu.keep (w.heap.size + 1 + 1) 10 (.int .u64 0) (by simp [go_sem]); have z0 := HU1.out.ownGe (g := w.heap.size + 1 + 1) (by omega) 0; have z1 := HU1.out.ownGe (g := w.heap.size + 1 + 1) (by omega) 1; have z2 := HU1.out.ownGe (g := w.heap.size + 1 + 1) (by omega) 2; have z3 := HU1.out.ownGe (g := w.heap.size + 1 + 1) (by omega) 3; have z4 := HU1.out.ownGe (g := w.heap.size + 1 + 1) (by omega) 4; have z5 := HU1.out.ownGe (g := w.heap.size + 1 + 1) (by omega) 5; have z6 := HU1.out.ownGe (g := w.heap.size + 1 + 1) (by omega) 6; have z7 := HU1.out.ownGe (g := w.heap.size + 1 + 1) (by omega) 7; have z8 := HU1.out.ownGe (g := w.heap.size + 1 + 1) (by omega) 8; have z9 := HU1.out.ownGe (g := w.heap.size + 1 + 1) (by omega) 9; have z10 := HU1.out.ownGe (g := w.heap.size + 1 + 1) (by omega) 10; have hlt : w.heap.size + 1 + 1 < w1.heap.size := World.block_lt_of_cell? _ _ r0; clear hu)
  refine (KA.out _ (HS.out.up HU1.out)).mono ?_
  rintro e w2 ⟨rfl, hu2⟩
  go_wp2_with fail
  refine (KB.out _).mono ?_
  rintro e w3 ⟨rfl, hu3⟩
  have hv := hu2.trans hu3
  clear hu2 hu3
  have HU2 := Lib.hid (HU1.out.trans hv)
  have R0 := hv.keep _ _ _ r0
  have R1 := hv.keep _ _ _ r1
  have R2 := hv.keep _ _ _ r2
  have R3 := hv.keep _ _ _ r3
  have R4 := hv.keep _ _ _ r4
  have R5 := hv.keep _ _ _ r5
  have R6 := hv.keep _ _ _ r6
  have R7 := hv.keep _ _ _ r7
  have R8 := hv.keep _ _ _ r8
  have R9 := hv.keep _ _ _ r9
  have R10 := hv.keep _ _ _ r10
  have Z0 := HU2.out.ownGe (g := w.heap.size + 1 + 1) (by omega) 0
  have Z1 := HU2.out.ownGe (g := w.heap.size + 1 + 1) (by omega) 1
  have Z2 := HU2.out.ownGe (g := w.heap.size + 1 + 1) (by omega) 2
  have Z3 := HU2.out.ownGe (g := w.heap.size + 1 + 1) (by omega) 3
  have Z4 := HU2.out.ownGe (g := w.heap.size + 1 + 1) (by omega) 4
  have Z5 := HU2.out.ownGe (g := w.heap.size + 1 + 1) (by omega) 5
  have Z6 := HU2.out.ownGe (g := w.heap.size + 1 + 1) (by omega) 6
  have Z7 := HU2.out.ownGe (g := w.heap.size + 1 + 1) (by omega) 7
  have Z8 := HU2.out.ownGe (g := w.heap.size + 1 + 1) (by omega) 8
  have Z9 := HU2.out.ownGe (g := w.heap.size + 1 + 1) (by omega) 9
  have Z10 := HU2.out.ownGe (g := w.heap.size + 1 + 1) (by omega) 10
  clear r0 r1 r2 r3 r4 r5 r6 r7 r8 r9 r10 z0 z1 z2 z3 z4 z5 z6 z7 z8 z9 z10 s3 q0 q1 q2
  clear hv
  go_wp2_with fail
  refine bodyPost_ret (v := .tuple #[.agg #[.int .i64 x, .int .i64 1, .int .i64 x, .int .i64 1, .int .i64 x, .int .i64 1, .slice none 0 0, .int .u64 0, .int .u64 0, .int .u64 0, .int .u64 0], .int .i64 0]) (by simp [results, Tryz.results6, go_sem, R0, R1, R2, R3, R4, R5, R6, R7, R8, R9, R10]) rfl ⟨rfl, ?_⟩
  exact HU2.out.set11 (by omega)

set_option maxHeartbeats 8000000 in
set_option maxRecDepth 100000 in
theorem ask9_6 (v c now a b : Int) (n k : Nat) (A : Option Addr) (L : List It) (hst : stB v c now L = true) {N D e0 : Int} {Vs : List Int} (h : (if L = [] then ((0 : Int), (0 : Int), ([] : List Int), (7 : Int)) else (0, 0, [leV L, grV L], 0)) = (N, D, Vs, e0)) (w : World) (hS : Sl w A n L) :
    Calls Tryz.prog 6 #[.agg #[.int .i64 v, .int .i64 c, .int .i64 now, .slice A n k], .agg #[.int .i64 6, .int .i64 a, .int .i64 b]] w fun e w' => ∃ A' k', e = .returned (.tuple #[.agg #[.int .i64 N, .int .i64 D, .int .i64 N, .int .i64 D, .int .i64 N, .int .i64 D, .slice A' Vs.length k', .int .u64 0, .int .u64 0, .int .u64 0, .int .u64 0], .int .i64 e0]) ∧ Sn w' A' Vs.length Vs ∧ Up w w' := by
  have KV := Lib.hid (fun W (h : Sl W A n L) => validate9_up v c now n k A L W h)
  rw [stE_yes hst] at KV
  have HS := Lib.hid hS
  obtain ⟨hI, hl, hs⟩ := st_small hst
  have hn : n ≤ 65536 := by rw [← hS.1]; exact hl
  have KA := Lib.hid (fun W (g : Sl W A n L) => extremes_up n k A L (by omega) W g h)
  clear hS hst hI hl hs hn h
  generalize Vs.length = m at *
  go_enter Tryz.func6, Tryz.ntmps6
  go_wp2_with (go_at_call 11; (with_reducible refine (KV.out _ (HS.out.up ((((Up.refl w).alloc _ _).alloc _ _).alloc _ _))).mono ?_); rintro e w1 ⟨rfl, hu⟩; have HU1 := Lib.hid (((((Up.refl w).alloc #[.int .i64 v, .int .i64 c, .int .i64 now, .slice A n k] 24).alloc #[.int .i64 6, .int .i64 a, .int .i64 b] 26).alloc #[.int .i64 0, .int .i64 0, .int .i64 0, .int .i64 0, .int .i64 0, .int .i64 0, .slice none 0 0, .int .u64 0, .int .u64 0, .int .u64 0, .int .u64 0] 40).trans hu); have s3 := hu.keep w.heap.size 3 (.slice A n k) (by simp [go_sem]); have q0 := hu.keep (w.heap.size + 1) 0 (.int .i64 6) (by simp [go_sem]); have q1 := hu.keep (w.heap.size + 1) 1 (.int .i64 a) (by simp [go_sem]); have q2 := hu.keep (w.heap.size + 1) 2 (.int .i64 b) (by simp [go_sem]); have r0 := hu.keep (w.heap.size + 1 + 1) 0 (.int .i64 0) (by simp [go_sem]); have r1 := hu.keep (w.heap.size + 1 + 1) 1 (.int .i64 0) (by simp [go_sem]); have r2 := hu.keep (w.heap.size + 1 + 1) 2 (.int .i64 0) (by simp [go_sem]); have r3 := hu.keep (w.heap.size + 1 + 1) 3 (.int .i64 0) (by simp [go_sem]); have r4 := hu.keep (w.heap.size + 1 + 1) 4 (.int .i64 0) (by simp [go_sem]); have r5 := hu.keep (w.heap.size + 1 + 1) 5 (.int .i64 0) (by simp [go_sem]); have r6 := hu.keep (w.heap.size + 1 + 1) 6 (.slice none 0 0) (by simp [go_sem]); have r7 := hu.keep (w.heap.size + 1 + 1) 7 (.int .u64 0) (by simp [go_sem]); have r8 := hu.keep (w.heap.size + 1 + 1) 8 (.int .u64 0) (by simp [go_sem]); have r9 := hu.keep (w.heap.size + 1 + 1) 9 (.int .u64 0) (by simp [go_sem]); have r10 := hu.keep (w.heap.size + 1 + 1) 10 (.int .u64 0) (by simp [go_sem]); have z0 := HU1.out.ownGe (g := w.heap.size + 1 + 1) (by omega) 0; have z1 := HU1.out.ownGe (g := w.heap.size + 1 + 1) (by omega) 1; have z2 := HU1.out.ownGe (g := w.heap.size + 1 + 1) (by omega) 2; have z3 := HU1.out.ownGe (g := w.heap.size + 1 + 1) (by omega) 3; have z4 := HU1.out.ownGe (g := w.heap.size + 1 + 1) (by omega) 4; have z5 := HU1.out.ownGe (g := w.heap.size + 1 + 1) (by omega) 5; have z6 := HU1.out.ownGe (g := w.heap.size + 1 + 1) (by omega) 6; have z7 := HU1.out.ownGe (g := w.heap.size + 1 + 1) (by omega) 7; have z8 := HU1.out.ownGe (g := w.heap.size + 1 + 1) (by omega) 8; have z9 := HU1.out.ownGe (g := w.heap.size + 1 + 1) (by omega) 9; have z10 := HU1.out.ownGe (g := w.heap.size + 1 + 1) (by omega) 10; have hlt : w.heap.size + 1 + 1 < w1.heap.size := World.block_lt_of_cell? _ _ r0; clear hu)
  refine (KA.out _ (HS.out.up HU1.out)).mono ?_
  rintro e w2 ⟨A2, k2, rfl, hN, hW, hv⟩
  have HN := Lib.hid (And.intro hN hW)
  have R0 := hv.keep _ _ _ r0
  have R1 := hv.keep _ _ _ r1
  have R2 := hv.keep _ _ _ r2
  have R3 := hv.keep _ _ _ r3
  have R4 := hv.keep _ _ _ r4
  have R5 := hv.keep _ _ _ r5
  have R6 := hv.keep _ _ _ r6
  have R7 := hv.keep _ _ _ r7
  have R8 := hv.keep _ _ _ r8
  have R9 := hv.keep _ _ _ r9
  have R10 := hv.keep _ _ _ r10
  have HU2 := Lib.hid (HU1.out.trans hv)
  have Z0 := HU2.out.ownGe (g := w.heap.size + 1 + 1) (by omega) 0
  have Z1 := HU2.out.ownGe (g := w.heap.size + 1 + 1) (by omega) 1
  have Z2 := HU2.out.ownGe (g := w.heap.size + 1 + 1) (by omega) 2
  have Z3 := HU2.out.ownGe (g := w.heap.size + 1 + 1) (by omega) 3
  have Z4 := HU2.out.ownGe (g := w.heap.size + 1 + 1) (by omega) 4
  have Z5 := HU2.out.ownGe (g := w.heap.size + 1 + 1) (by omega) 5
  have Z6 := HU2.out.ownGe (g := w.heap.size + 1 + 1) (by omega) 6
  have Z7 := HU2.out.ownGe (g := w.heap.size + 1 + 1) (by omega) 7
  have Z8 := HU2.out.ownGe (g := w.heap.size + 1 + 1) (by omega) 8
  have Z9 := HU2.out.ownGe (g := w.heap.size + 1 + 1) (by omega) 9
  have Z10 := HU2.out.ownGe (g := w.heap.size + 1 + 1) (by omega) 10
  clear hv hN hW r0 r1 r2 r3 r4 r5 r6 r7 r8 r9 r10 z0 z1 z2 z3 z4 z5 z6 z7 z8 z9 z10 s3 q0 q1 q2
  go_wp2_with fail
  refine bodyPost_ret (v := .tuple #[.agg #[.int .i64 N, .int .i64 D, .int .i64 N, .int .i64 D, .int .i64 N, .int .i64 D, .slice A2 m k2, .int .u64 0, .int .u64 0, .int .u64 0, .int .u64 0], .int .i64 e0]) (by simp [results, Tryz.results6, go_sem, R0, R1, R2, R3, R4, R5, R6, R7, R8, R9, R10]) rfl ⟨A2, k2, rfl, ?_, ?_⟩
  · exact HN.out.1.set11 (HN.out.2.off hlt)
  · exact HU2.out.set11 (by omega)

set_option maxHeartbeats 8000000 in
set_option maxRecDepth 100000 in
theorem ask9_8 (v c now a b : Int) (n k : Nat) (A : Option Addr) (L : List It) (hst : stB v c now L = true) (hb : b ≤ 9223372036854775807) {N D e0 : Int} {Vs : List Int} (h : (if askB a b = false then ((0 : Int), (0 : Int), ([] : List Int), (1 : Int)) else if (qnO L a b).isSome = true then (0, 0, [(qnO L a b).getD 0], 0) else (0, 0, [], 7)) = (N, D, Vs, e0)) (w : World) (hS : Sl w A n L) :
    Calls Tryz.prog 6 #[.agg #[.int .i64 v, .int .i64 c, .int .i64 now, .slice A n k], .agg #[.int .i64 8, .int .i64 a, .int .i64 b]] w fun e w' => ∃ A' k', e = .returned (.tuple #[.agg #[.int .i64 N, .int .i64 D, .int .i64 N, .int .i64 D, .int .i64 N, .int .i64 D, .slice A' Vs.length k', .int .u64 0, .int .u64 0, .int .u64 0, .int .u64 0], .int .i64 e0]) ∧ Sn w' A' Vs.length Vs ∧ Lo w w' := by
  have KV := Lib.hid (fun W (h : Sl W A n L) => validate9_up v c now n k A L W h)
  rw [stE_yes hst] at KV
  have HS := Lib.hid hS
  obtain ⟨hI, hl, hs⟩ := st_small hst
  have hn : n ≤ 65536 := by rw [← hS.1]; exact hl
  have KA := Lib.hid (fun W (g : Sl W A n L) => quantile9_lo n k A L a b hb (by omega) W g h)
  clear hS hst hI hl hs hn h
  generalize Vs.length = m at *
  go_enter Tryz.func6, Tryz.ntmps6
  go_wp2_with (go_at_call 11; (with_reducible refine (KV.out _ (HS.out.up ((((Up.refl w).alloc _ _).alloc _ _).alloc _ _))).mono ?_); rintro e w1 ⟨rfl, hu⟩; have HU1 := Lib.hid (((((Up.refl w).alloc #[.int .i64 v, .int .i64 c, .int .i64 now, .slice A n k] 24).alloc #[.int .i64 8, .int .i64 a, .int .i64 b] 26).alloc #[.int .i64 0, .int .i64 0, .int .i64 0, .int .i64 0, .int .i64 0, .int .i64 0, .slice none 0 0, .int .u64 0, .int .u64 0, .int .u64 0, .int .u64 0] 40).trans hu); have s3 := hu.keep w.heap.size 3 (.slice A n k) (by simp [go_sem]); have q0 := hu.keep (w.heap.size + 1) 0 (.int .i64 8) (by simp [go_sem]); have q1 := hu.keep (w.heap.size + 1) 1 (.int .i64 a) (by simp [go_sem]); have q2 := hu.keep (w.heap.size + 1) 2 (.int .i64 b) (by simp [go_sem]); have r0 := hu.keep (w.heap.size + 1 + 1) 0 (.int .i64 0) (by simp [go_sem]); have r1 := hu.keep (w.heap.size + 1 + 1) 1 (.int .i64 0) (by simp [go_sem]); have r2 := hu.keep (w.heap.size + 1 + 1) 2 (.int .i64 0) (by simp [go_sem]); have r3 := hu.keep (w.heap.size + 1 + 1) 3 (.int .i64 0) (by simp [go_sem]); have r4 := hu.keep (w.heap.size + 1 + 1) 4 (.int .i64 0) (by simp [go_sem]); have r5 := hu.keep (w.heap.size + 1 + 1) 5 (.int .i64 0) (by simp [go_sem]); have r6 := hu.keep (w.heap.size + 1 + 1) 6 (.slice none 0 0) (by simp [go_sem]); have r7 := hu.keep (w.heap.size + 1 + 1) 7 (.int .u64 0) (by simp [go_sem]); have r8 := hu.keep (w.heap.size + 1 + 1) 8 (.int .u64 0) (by simp [go_sem]); have r9 := hu.keep (w.heap.size + 1 + 1) 9 (.int .u64 0) (by simp [go_sem]); have r10 := hu.keep (w.heap.size + 1 + 1) 10 (.int .u64 0) (by simp [go_sem]); have z0 := HU1.out.ownGe (g := w.heap.size + 1 + 1) (by omega) 0; have z1 := HU1.out.ownGe (g := w.heap.size + 1 + 1) (by omega) 1; have z2 := HU1.out.ownGe (g := w.heap.size + 1 + 1) (by omega) 2; have z3 := HU1.out.ownGe (g := w.heap.size + 1 + 1) (by omega) 3; have z4 := HU1.out.ownGe (g := w.heap.size + 1 + 1) (by omega) 4; have z5 := HU1.out.ownGe (g := w.heap.size + 1 + 1) (by omega) 5; have z6 := HU1.out.ownGe (g := w.heap.size + 1 + 1) (by omega) 6; have z7 := HU1.out.ownGe (g := w.heap.size + 1 + 1) (by omega) 7; have z8 := HU1.out.ownGe (g := w.heap.size + 1 + 1) (by omega) 8; have z9 := HU1.out.ownGe (g := w.heap.size + 1 + 1) (by omega) 9; have z10 := HU1.out.ownGe (g := w.heap.size + 1 + 1) (by omega) 10; have hlt : w.heap.size + 1 + 1 < w1.heap.size := World.block_lt_of_cell? _ _ r0; clear hu)
  refine (KA.out _ (HS.out.up HU1.out)).mono ?_
  rintro e w2 ⟨A2, k2, rfl, hN, hW, hv⟩
  have HN := Lib.hid (And.intro hN hW)
  have R0 := hv.keep _ _ _ r0
  have R1 := hv.keep _ _ _ r1
  have R2 := hv.keep _ _ _ r2
  have R3 := hv.keep _ _ _ r3
  have R4 := hv.keep _ _ _ r4
  have R5 := hv.keep _ _ _ r5
  have R6 := hv.keep _ _ _ r6
  have R7 := hv.keep _ _ _ r7
  have R8 := hv.keep _ _ _ r8
  have R9 := hv.keep _ _ _ r9
  have R10 := hv.keep _ _ _ r10
  have HU2 : Hid (Lo w w2) := Lib.hid (Below.trans HU1.out.below (hv.mono HU1.out.size))
  have Z0 := (hv.frozen9 ⟨w.heap.size + 1 + 1, 0, none⟩ hlt).trans z0
  have Z1 := (hv.frozen9 ⟨w.heap.size + 1 + 1, 1, none⟩ hlt).trans z1
  have Z2 := (hv.frozen9 ⟨w.heap.size + 1 + 1, 2, none⟩ hlt).trans z2
  have Z3 := (hv.frozen9 ⟨w.heap.size + 1 + 1, 3, none⟩ hlt).trans z3
  have Z4 := (hv.frozen9 ⟨w.heap.size + 1 + 1, 4, none⟩ hlt).trans z4
  have Z5 := (hv.frozen9 ⟨w.heap.size + 1 + 1, 5, none⟩ hlt).trans z5
  have Z6 := (hv.frozen9 ⟨w.heap.size + 1 + 1, 6, none⟩ hlt).trans z6
  have Z7 := (hv.frozen9 ⟨w.heap.size + 1 + 1, 7, none⟩ hlt).trans z7
  have Z8 := (hv.frozen9 ⟨w.heap.size + 1 + 1, 8, none⟩ hlt).trans z8
  have Z9 := (hv.frozen9 ⟨w.heap.size + 1 + 1, 9, none⟩ hlt).trans z9
  have Z10 := (hv.frozen9 ⟨w.heap.size + 1 + 1, 10, none⟩ hlt).trans z10
  clear hv hN hW r0 r1 r2 r3 r4 r5 r6 r7 r8 r9 r10 z0 z1 z2 z3 z4 z5 z6 z7 z8 z9 z10 s3 q0 q1 q2
  go_wp2_with fail
  refine bodyPost_ret (v := .tuple #[.agg #[.int .i64 N, .int .i64 D, .int .i64 N, .int .i64 D, .int .i64 N, .int .i64 D, .slice A2 m k2, .int .u64 0, .int .u64 0, .int .u64 0, .int .u64 0], .int .i64 e0]) (by simp [results, Tryz.results6, go_sem, R0, R1, R2, R3, R4, R5, R6, R7, R8, R9, R10]) rfl ⟨A2, k2, rfl, ?_, ?_⟩
  · exact HN.out.1.set11 (HN.out.2.off hlt)
  · exact HU2.out.set11 (by omega)

theorem ask9_all (v c now o a b : Int) (n k : Nat) (A : Option Addr) (L : List It) (hb : b ≤ 9223372036854775807) {N D e0 : Int} {Vs : List Int} (h : askR v c now L o a b = (N, D, Vs, e0)) (w : World) (hS : Sl w A n L) :
    Calls Tryz.prog 6 #[.agg #[.int .i64 v, .int .i64 c, .int .i64 now, .slice A n k], .agg #[.int .i64 o, .int .i64 a, .int .i64 b]] w fun e w' => ∃ A' k', e = .returned (.tuple #[.agg #[.int .i64 N, .int .i64 D, .int .i64 N, .int .i64 D, .int .i64 N, .int .i64 D, .slice A' Vs.length k', .int .u64 0, .int .u64 0, .int .u64 0, .int .u64 0], .int .i64 e0]) ∧ Sn w' A' Vs.length Vs ∧ Lo w w' := by
  unfold askR at h
  by_cases hst : stB v c now L = false
  · rw [if_pos hst] at h
    cases h
    exact (ask9_bad v c now o a b n k A L hst w hS).mono (fun _ _ ⟨h1, h2⟩ => ⟨none, 0, h1, Sn.none_, Lo.of_up h2⟩)
  rw [if_neg hst] at h
  rw [Bool.not_eq_false] at hst
  by_cases h1 : o = 1
  · rw [if_pos h1] at h
    subst h1
    cases h
    exact (ask9_1 v c now a b n k A L hst w hS).mono (fun _ _ ⟨h1, h2⟩ => ⟨none, 0, h1, Sn.none_, Lo.of_up h2⟩)
  rw [if_neg h1] at h
  by_cases h2 : o = 2
  · rw [if_pos h2] at h
    subst h2
    cases h
    exact (ask9_2 v c now a b n k A L hst w hS).mono (fun _ _ ⟨h1, h2⟩ => ⟨none, 0, h1, Sn.none_, Lo.of_up h2⟩)
  rw [if_neg h2] at h
  by_cases h3 : o = 3
  · rw [if_pos h3] at h
    subst h3
    cases h
    exact (ask9_3 v c now a b n k A L hst w hS).mono (fun _ _ ⟨h1, h2⟩ => ⟨none, 0, h1, Sn.none_, Lo.of_up h2⟩)
  rw [if_neg h3] at h
  by_cases h4 : o = 4
  · rw [if_pos h4] at h
    subst h4
    cases h
    exact (ask9_4 v c now a b n k A L hst w hS).mono (fun _ _ ⟨h1, h2⟩ => ⟨none, 0, h1, Sn.none_, Lo.of_up h2⟩)
  rw [if_neg h4] at h
  by_cases h5 : o = 5
  · rw [if_pos h5] at h
    subst h5
    cases h
    exact (ask9_5 v c now a b n k A L hst w hS).mono (fun _ _ ⟨h1, h2⟩ => ⟨none, 0, h1, Sn.none_, Lo.of_up h2⟩)
  rw [if_neg h5] at h
  by_cases h6 : o = 6
  · rw [if_pos h6] at h
    subst h6
    exact (ask9_6 v c now a b n k A L hst h w hS).mono (fun _ _ ⟨A1, k1, h1, h2, h3⟩ => ⟨A1, k1, h1, h2, Lo.of_up h3⟩)
  rw [if_neg h6] at h
  by_cases h7 : o = 7
  · rw [if_pos h7] at h
    subst h7
    cases h
    exact (ask9_7 v c now a b n k A L hst w hS).mono (fun _ _ ⟨h1, h2⟩ => ⟨none, 0, h1, Sn.none_, Lo.of_up h2⟩)
  rw [if_neg h7] at h
  by_cases h8 : o = 8
  · rw [if_pos h8] at h
    subst h8
    exact ask9_8 v c now a b n k A L hst hb h w hS
  rw [if_neg h8] at h
  cases h
  exact (ask9_other v c now o a b n k A L hst (by omega) w hS).mono (fun _ _ ⟨h1, h2⟩ => ⟨none, 0, h1, Sn.none_, Lo.of_up h2⟩)
end Go.Proofs.YtflahclphdlolaaGreat

/- What total and number of the reference of layer 8 return. -/
namespace Go.Proofs.YtflahclphdlolaaGreat
open Go.RowKit

/-- One step of total, and all of them. -/
def totS (t : Int × Int × Bool) (x : Int) (s : Bool) : Int × Int × Bool :=
  if s = true then (t.1, fit2 (t.2.1 + x), t.2.2 && fits2 (t.2.1 + x)) else (fit2 (t.1 + x), t.2.1, t.2.2 && fits2 (t.1 + x))
def totN (xs : Nat → Int) (sg : Nat → Bool) : Nat → Int × Int × Bool
  | 0 => (0, 0, true)
  | i + 1 => totS (totN xs sg i) (xs i) (sg i)
theorem totN_in2 (xs : Nat → Int) (sg : Nat → Bool) (i : Nat) : In2 (totN xs sg i).1 ∧ In2 (totN xs sg i).2.1 := by
  induction i with
  | zero => exact ⟨(⟨by decide, by decide⟩ : In2 0), (⟨by decide, by decide⟩ : In2 0)⟩
  | succ i ih =>
    simp only [totN, totS]
    split
    · exact ⟨ih.1, fit2_in2 _⟩
    · exact ⟨fit2_in2 _, ih.2⟩
/-- A slice of wide numbers, and one of bools. -/
def Sw (w : World) (A : Option Addr) (n : Nat) (xs : Nat → Int) : Prop := 0 < n → ∃ b o, A = some ⟨b, o, none⟩ ∧ ∀ j, j < n → w.cell? ⟨b, o + j * 2, none⟩ = some (.int .u64 (hiZ (xs j))) ∧ w.cell? ⟨b, o + j * 2 + 1, none⟩ = some (.int .u64 (loZ (xs j)))
def Sb (w : World) (A : Option Addr) (n : Nat) (sg : Nat → Bool) : Prop := 0 < n → ∃ b o, A = some ⟨b, o, none⟩ ∧ ∀ j, j < n → w.cell? ⟨b, o + j, none⟩ = some (.bool (sg j))
theorem Sw.up {w w' : World} {A : Option Addr} {n : Nat} {xs : Nat → Int} (h : Sw w A n xs) (hu : Up w w') : Sw w' A n xs := fun hn => by
  obtain ⟨b, o, e, hc⟩ := h hn
  exact ⟨b, o, e, fun j hj => ⟨hu.keep _ _ _ (hc j hj).1, hu.keep _ _ _ (hc j hj).2⟩⟩
theorem Sb.up {w w' : World} {A : Option Addr} {n : Nat} {sg : Nat → Bool} (h : Sb w A n sg) (hu : Up w w') : Sb w' A n sg := fun hn => by
  obtain ⟨b, o, e, hc⟩ := h hn
  exact ⟨b, o, e, fun j hj => hu.keep _ _ _ (hc j hj)⟩
/-- What the walk of total holds. -/
structure Tr (w wr : World) (p q : Int) : Prop where
  up : Up w wr
  r0 : wr.cell? ⟨w.heap.size, 0, none⟩ = some (.int .u64 0)
  r1 : wr.cell? ⟨w.heap.size, 1, none⟩ = some (.int .u64 0)
  r2 : wr.cell? ⟨w.heap.size + 1, 0, none⟩ = some (.int .u64 0)
  r3 : wr.cell? ⟨w.heap.size + 1, 1, none⟩ = some (.int .u64 0)
  p0 : wr.cell? ⟨w.heap.size + 1 + 1, 0, none⟩ = some (.int .u64 (hiZ p))
  p1 : wr.cell? ⟨w.heap.size + 1 + 1, 1, none⟩ = some (.int .u64 (loZ p))
  q0 : wr.cell? ⟨w.heap.size + 1 + 1 + 1, 0, none⟩ = some (.int .u64 (hiZ q))
  q1 : wr.cell? ⟨w.heap.size + 1 + 1 + 1, 1, none⟩ = some (.int .u64 (loZ q))
theorem Tr.keep {w w1 w2 : World} {p q : Int} (h : Tr w w1 p q) (hu : Up w1 w2) : Tr w w2 p q :=
  ⟨h.up.trans hu, hu.keep _ _ _ h.r0, hu.keep _ _ _ h.r1, hu.keep _ _ _ h.r2, hu.keep _ _ _ h.r3, hu.keep _ _ _ h.p0, hu.keep _ _ _ h.p1, hu.keep _ _ _ h.q0, hu.keep _ _ _ h.q1⟩
theorem far2e {w : World} {g b o i j : Nat} {x y v : Value} (h : w.cell? ⟨b, o, none⟩ = some v) (hn : g ≠ b) : ((w.setCell ⟨g, i, none⟩ x).setCell ⟨g, j, none⟩ y).cell? ⟨b, o, none⟩ = some v := (cell_far hn).trans ((cell_far hn).trans h)
theorem Tr.setP {w w1 : World} {p q u : Int} (h : Tr w w1 p q) : Tr w ((w1.setCell ⟨w.heap.size + 1 + 1, 0, none⟩ (.int .u64 (hiZ u))).setCell ⟨w.heap.size + 1 + 1, 1, none⟩ (.int .u64 (loZ u))) u q := by
  refine ⟨(h.up.setCell (by show w.heap.size ≤ w.heap.size + 1 + 1; omega) _).setCell (by show w.heap.size ≤ w.heap.size + 1 + 1; omega) _, far2e h.r0 (by omega), far2e h.r1 (by omega), far2e h.r2 (by omega), far2e h.r3 (by omega), ?_, ?_, far2e h.q0 (by omega), far2e h.q1 (by omega)⟩
  · rw [cell_set (cell_set h.p0)]; rfl
  · rw [cell_set (cell_set h.p1)]; rfl
theorem Tr.setQ {w w1 : World} {p q u : Int} (h : Tr w w1 p q) : Tr w ((w1.setCell ⟨w.heap.size + 1 + 1 + 1, 0, none⟩ (.int .u64 (hiZ u))).setCell ⟨w.heap.size + 1 + 1 + 1, 1, none⟩ (.int .u64 (loZ u))) p u := by
  refine ⟨(h.up.setCell (by show w.heap.size ≤ w.heap.size + 1 + 1 + 1; omega) _).setCell (by show w.heap.size ≤ w.heap.size + 1 + 1 + 1; omega) _, far2e h.r0 (by omega), far2e h.r1 (by omega), far2e h.r2 (by omega), far2e h.r3 (by omega), far2e h.p0 (by omega), far2e h.p1 (by omega), ?_, ?_⟩
  · rw [cell_set (cell_set h.q0)]; rfl
  · rw [cell_set (cell_set h.q1)]; rfl

set_option maxHeartbeats 8000000 in
set_option maxRecDepth 100000 in
theorem rtotal_up (n k1 k2 : Nat) (A B : Option Addr) (xs : Nat → Int) (sg : Nat → Bool) (hx : ∀ j, j < n → In2 (xs j)) (hn : n ≤ 1000000) (w : World) (hA : Sw w A n xs) (hB : Sb w B n sg) :
    Calls Tryz.prog 57 #[.slice A n k1, .slice B n k2] w fun e w' => e = .returned (.tuple #[.agg #[.int .u64 (hiZ (totN xs sg n).1), .int .u64 (loZ (totN xs sg n).1)], .agg #[.int .u64 (hiZ (totN xs sg n).2.1), .int .u64 (loZ (totN xs sg n).2.1)], .bool (totN xs sg n).2.2]) ∧ Up w w' := by
  have HA := Lib.hid hA
  have HB := Lib.hid hB
  have HX := Lib.hid hx
  clear hA hB hx
  obtain ⟨P, hP⟩ : ∃ t, t = (totN xs sg n).1 := ⟨_, rfl⟩
  obtain ⟨Q, hQ⟩ : ∃ t, t = (totN xs sg n).2.1 := ⟨_, rfl⟩
  obtain ⟨R, hR⟩ : ∃ t, t = (totN xs sg n).2.2 := ⟨_, rfl⟩
  rw [← hP, ← hQ, ← hR]
  have HP := Lib.hid hP
  have HQ := Lib.hid hQ
  have HR := Lib.hid hR
  clear hP hQ hR
  go_enter Tryz.func57, Tryz.ntmps57
  go_wp2_with fail
  go_loopw [9, 15] (fun s t wr => ∃ i : Nat, s = .bool (totN xs sg i).2.2 ∧ t = .int .i64 i ∧ i ≤ n ∧ Tr w wr (totN xs sg i).1 (totN xs sg i).2.1) (fun _ t _ => n - (intOf t).toNat)
  case atStart =>
    refine ⟨0, rfl, rfl, Nat.zero_le _, ⟨?_, by simp [go_sem], by simp [go_sem], by simp [go_sem], by simp [go_sem], by simp [go_sem, totN, hiZ], by simp [go_sem, totN, loZ], by simp [go_sem, totN, hiZ], by simp [go_sem, totN, loZ]⟩⟩
    repeat (first | exact Up.refl _ | refine Up.alloc ?_ _ _ | refine Up.setCell ?_ (by first | (simp; done) | (simp; omega) | omega) _ | refine Up.drewN ?_ _ | refine Up.drew ?_)
  case round =>
    obtain ⟨i, rfl, rfl, hin, hT⟩ := hrel
    by_cases hi : i < n
    · obtain ⟨b, o, rfl, hc⟩ := (HA.out.up hT.up) (by omega)
      obtain ⟨b', o', rfl, hc'⟩ := (HB.out.up hT.up) (by omega)
      obtain ⟨d0, d1⟩ := hc i hi
      have d2 := hc' i hi
      obtain ⟨ip, iq⟩ := totN_in2 xs sg i
      have ix := HX.out i hi
      have KP := Lib.hid (fun W => radd_up (hiZ (totN xs sg i).1) (loZ (totN xs sg i).1) (hiZ (xs i)) (loZ (xs i)) (hiZ_word ip) (loZ_word _) (hiZ_word ix) (loZ_word _) W)
      have KQ := Lib.hid (fun W => radd_up (hiZ (totN xs sg i).2.1) (loZ (totN xs sg i).2.1) (hiZ (xs i)) (loZ (xs i)) (hiZ_word iq) (loZ_word _) (hiZ_word ix) (loZ_word _) W)
      rw [val_hilo, val_hilo] at KP KQ
      have HN : Hid (totN xs sg (i + 1) = totS (totN xs sg i) (xs i) (sg i)) := Lib.hid rfl
      generalize hN : totN xs sg (i + 1) = t1 at HN
      have HT1 := Lib.hid hN
      clear hN
      generalize totN xs sg i = tt at *
      obtain ⟨p, q, ok⟩ := tt
      simp only at *
      generalize xs i = x at *
      have f2 : (i : Int) < n := by omega
      have f3 : (0 : Int) ≤ i := by omega
      have lw : w.heap.size + 1 + 1 + 1 < wr.heap.size := World.block_lt_of_cell? _ _ hT.q0
      have HT := Lib.hid hT
      have e0 := hT.p0
      have e1 := hT.p1
      have e2 := hT.q0
      have e3 := hT.q1
      have la1 : w.heap.size + 1 + 1 < wr.heap.size := by omega
      have la2 : w.heap.size + 1 + 1 < wr.heap.size + 1 := by omega
      have la3 : w.heap.size + 1 + 1 + 1 < wr.heap.size + 1 := by omega
      have lb : b' < wr.heap.size := World.block_lt_of_cell? _ _ d2
      have lb2 : b' < wr.heap.size + 1 := by omega
      clear hT hc hc' ip iq ix
      cases hs : sg i with
      | true =>
        rw [hs] at d2 HN
        have HN1 : Hid (t1 = (p, fit2 (q + x), ok && fits2 (q + x))) := Lib.hid HN.out
        clear HN KP hs
        go_wp2_with fail
        refine (KQ.out _).mono ?_
        rintro e w2 ⟨rfl, hu2⟩
        have HT2 := Lib.hid ((HT.out.keep ((Up.refl wr).alloc _ _)).keep hu2)
        have s0 := HT2.out.q0
        have s1 := HT2.out.q1
        have y0 := HT2.out.up.ownGe (show w.heap.size ≤ w.heap.size + 1 + 1 + 1 by omega) 0
        have y1 := HT2.out.up.ownGe (show w.heap.size ≤ w.heap.size + 1 + 1 + 1 by omega) 1
        clear hu2
        unfold got2
        generalize fit2 (q + x) = u at *
        generalize fits2 (q + x) = fb at *
        cases ok
        all_goals
          go_wp2_with fail
          go_roundw
          case rel => exact ⟨i + 1, by rw [HT1.out, HN1.out]; rfl, by go_num, by omega, by rw [HT1.out, HN1.out]; exact HT2.out.setQ⟩
          case measure => simp [intOf]; omega
      | false =>
        rw [hs] at d2 HN
        have HN1 : Hid (t1 = (fit2 (p + x), q, ok && fits2 (p + x))) := Lib.hid HN.out
        clear HN KQ hs
        go_wp2_with fail
        refine (KP.out _).mono ?_
        rintro e w2 ⟨rfl, hu2⟩
        have HT2 := Lib.hid ((HT.out.keep ((Up.refl wr).alloc _ _)).keep hu2)
        have s0 := HT2.out.p0
        have s1 := HT2.out.p1
        have y0 := HT2.out.up.ownGe (show w.heap.size ≤ w.heap.size + 1 + 1 by omega) 0
        have y1 := HT2.out.up.ownGe (show w.heap.size ≤ w.heap.size + 1 + 1 by omega) 1
        clear hu2
        unfold got2
        generalize fit2 (p + x) = u at *
        generalize fits2 (p + x) = fb at *
        cases ok
        all_goals
          go_wp2_with fail
          go_roundw
          case rel => exact ⟨i + 1, by rw [HT1.out, HN1.out]; rfl, by go_num, by omega, by rw [HT1.out, HN1.out]; exact HT2.out.setP⟩
          case measure => simp [intOf]; omega
    · obtain rfl : i = n := by omega
      rw [← HP.out, ← HQ.out] at hT
      rw [← HR.out]
      have e0 := hT.p0
      have e1 := hT.p1
      have e2 := hT.q0
      have e3 := hT.q1
      have r0 := hT.r0
      have r1 := hT.r1
      have r2 := hT.r2
      have r3 := hT.r3
      have z0 := hT.up.ownGe (Nat.le_refl w.heap.size) 0
      have z1 := hT.up.ownGe (Nat.le_refl w.heap.size) 1
      have z2 := hT.up.ownGe (show w.heap.size ≤ w.heap.size + 1 by omega) 0
      have z3 := hT.up.ownGe (show w.heap.size ≤ w.heap.size + 1 by omega) 1
      have HT := Lib.hid hT.up
      clear hT HP HQ HR
      go_wp2_with fail
      go_region
      all_goals
        go_wp2_with fail
        refine bodyPost_ret (v := .tuple #[.agg #[.int .u64 (hiZ P), .int .u64 (loZ P)], .agg #[.int .u64 (hiZ Q), .int .u64 (loZ Q)], .bool R]) (by simp [results, Tryz.results57, go_sem, r0, r1, r2, r3]) rfl ⟨?_, ?_⟩
        · rfl
        · ((repeat (first | (with_reducible exact Up.refl _) | (with_reducible exact HT.out) | (with_reducible refine Up.alloc ?_ _ _) | (with_reducible refine Up.setCell ?_ ?_ _) | (with_reducible refine Up.drewN ?_ _) | (with_reducible refine Up.drew ?_))); all_goals (first | (simp; done) | (simp; omega) | omega))

theorem and_63 {l : Int} (h0 : 0 ≤ l) (h1 : l < 18446744073709551616) : bits .and .u64 l 9223372036854775807 = l % 9223372036854775808 := by
  obtain ⟨x, rfl⟩ := Int.eq_ofNat_of_zero_le h0
  rw [show (9223372036854775807 : Int) = ((9223372036854775807 : Nat) : Int) from rfl, bits_and_u64_nat x 9223372036854775807 (by omega) (by omega)]
  have := Nat.and_two_pow_sub_one_eq_mod x 63
  rw [show (2 : Nat) ^ 63 - 1 = 9223372036854775807 from rfl, show (2 : Nat) ^ 63 = 9223372036854775808 from rfl] at this
  rw [this]; omega

set_option maxHeartbeats 8000000 in
set_option maxRecDepth 100000 in
theorem rnumber_up (p q : Int) (hp : In2 p) (hq : In2 q) (w : World) :
    Calls Tryz.prog 58 #[.agg #[.int .u64 (hiZ p), .int .u64 (loZ p)], .agg #[.int .u64 (hiZ q), .int .u64 (loZ q)]] w fun e w' => (∃ v, e = got v (fits (p - q)) ∧ (fits (p - q) = true → v = p - q)) ∧ Up w w' := by
  have K1 := Lib.hid (fun W => rsub_up (hiZ p) (loZ p) (hiZ q) (loZ q) (hiZ_word hp) (loZ_word p) (hiZ_word hq) (loZ_word q) W)
  have K2 := Lib.hid (fun W => rsub_up (hiZ q) (loZ q) (hiZ p) (loZ p) (hiZ_word hq) (loZ_word q) (hiZ_word hp) (loZ_word p) W)
  rw [val_hilo, val_hilo] at K1 K2
  unfold got2 at K1 K2
  unfold In2 at hp hq
  generalize hph : hiZ p = ph at *
  generalize hpl : loZ p = pl at *
  generalize hqh : hiZ q = qh at *
  generalize hql : loZ q = ql at *
  clear hph hpl hqh hql
  by_cases hs : q ≤ p
  · have h2 : In2 (p - q) := ⟨by omega, by omega⟩
    rw [fit2_yes h2, fits2_yes h2] at K1
    clear K2
    generalize hd : p - q = d at *
    have hdd : d = hiZ d * 18446744073709551616 + loZ d := by unfold hiZ loZ; omega
    have hl := loZ_word d
    have hh := hiZ_word h2
    unfold Word at hl hh
    have ha := and_63 hl.1 hl.2
    have hm0 : 0 ≤ loZ d % 9223372036854775808 := by omega
    have hm1 : loZ d % 9223372036854775808 < 9223372036854775808 := by omega
    have k1 : IntKind.i64.wrap (loZ d % 9223372036854775808) = loZ d % 9223372036854775808 := IntWalk.i64_in _ (by omega)
    have HV : Hid (fits d = true → loZ d % 9223372036854775808 = d) := Lib.hid (fun h => by have := (of_decide_eq_true h : -9223372036854775808 ≤ d ∧ d ≤ 9223372036854775807); omega)
    by_cases h0 : hiZ d = 0
    · have t0 : (hiZ d == 0) = true := by simp [h0]
      have ef : fits d = decide (loZ d < 9223372036854775808) := by
        unfold fits
        by_cases hb : loZ d < 9223372036854775808
        · rw [decide_eq_true hb]; exact decide_eq_true (by omega)
        · rw [decide_eq_false hb]; exact decide_eq_false (by omega)
      rw [ef] at HV ⊢
      generalize hiZ d = dh at *
      generalize loZ d = dl at *
      generalize dl % 9223372036854775808 = m at *
      clear hdd hd h0 ef h2 hp hq
      by_cases hb : dl < 9223372036854775808
      · rw [decide_eq_true hb] at HV ⊢
        have t1 : decide (dl < 9223372036854775808) = true := decide_eq_true hb
        go_enter Tryz.func58, Tryz.ntmps58
        go_wp2_with fail
        refine (K1.out _).mono ?_
        rintro e w1 ⟨rfl, hu1⟩
        go_wp2_with fail
        go_quiet (fail)
        go_wp2_with fail
        go_ret2
        refine ⟨⟨m, rfl, HV.out⟩, ?_⟩
        repeat (first | exact Up.refl _ | (refine Up.trans ?_ (hu1); skip) | refine Up.alloc ?_ _ _ | refine Up.setCell ?_ (by first | (simp; done) | (simp; omega) | omega) _ | refine Up.drewN ?_ _ | refine Up.drew ?_)
      · rw [decide_eq_false hb] at HV ⊢
        have t1 : decide (dl < 9223372036854775808) = false := decide_eq_false hb
        go_enter Tryz.func58, Tryz.ntmps58
        go_wp2_with fail
        refine (K1.out _).mono ?_
        rintro e w1 ⟨rfl, hu1⟩
        go_wp2_with fail
        go_quiet (fail)
        go_wp2_with fail
        go_ret2
        refine ⟨⟨m, rfl, HV.out⟩, ?_⟩
        repeat (first | exact Up.refl _ | (refine Up.trans ?_ (hu1); skip) | refine Up.alloc ?_ _ _ | refine Up.setCell ?_ (by first | (simp; done) | (simp; omega) | omega) _ | refine Up.drewN ?_ _ | refine Up.drew ?_)
    · have t0 : (hiZ d == 0) = false := by simp [h0]
      have ef : fits d = false := decide_eq_false (by omega)
      rw [ef] at HV ⊢
      generalize hiZ d = dh at *
      generalize loZ d = dl at *
      generalize dl % 9223372036854775808 = m at *
      clear hdd hd h0 ef h2 hp hq
      go_enter Tryz.func58, Tryz.ntmps58
      go_wp2_with fail
      refine (K1.out _).mono ?_
      rintro e w1 ⟨rfl, hu1⟩
      go_wp2_with fail
      go_quiet (fail)
      go_wp2_with fail
      go_ret2
      refine ⟨⟨m, rfl, HV.out⟩, ?_⟩
      repeat (first | exact Up.refl _ | (refine Up.trans ?_ (hu1); skip) | refine Up.alloc ?_ _ _ | refine Up.setCell ?_ (by first | (simp; done) | (simp; omega) | omega) _ | refine Up.drewN ?_ _ | refine Up.drew ?_)
  · have h2 : ¬ In2 (p - q) := fun h => by unfold In2 at h; omega
    have h3 : In2 (q - p) := ⟨by omega, by omega⟩
    rw [show fits2 (p - q) = false from decide_eq_false h2] at K1
    rw [fit2_yes h3, fits2_yes h3] at K2
    generalize fit2 (p - q) = fz at K1
    have ed : p - q = -(q - p) := by omega
    rw [ed]
    generalize hd : q - p = d at *
    have hdd : d = hiZ d * 18446744073709551616 + loZ d := by unfold hiZ loZ; omega
    have hl := loZ_word d
    have hh := hiZ_word h3
    unfold Word at hl hh
    have ha := and_63 hl.1 hl.2
    have hm0 : 0 ≤ loZ d % 9223372036854775808 := by omega
    have hm1 : loZ d % 9223372036854775808 < 9223372036854775808 := by omega
    have k1 : IntKind.i64.wrap (loZ d % 9223372036854775808) = loZ d % 9223372036854775808 := IntWalk.i64_in _ (by omega)
    have k2 : IntKind.i64.wrap (-(loZ d % 9223372036854775808)) = -(loZ d % 9223372036854775808) := IntWalk.i64_in _ (by omega)
    have hd1 : 1 ≤ d := by omega
    by_cases h0 : hiZ d = 0
    · have t0 : (hiZ d == 0) = true := by simp [h0]
      by_cases hx : loZ d = 9223372036854775808
      · have t1 : (loZ d == 9223372036854775808) = true := by simp [hx]
        have ef : fits (-d) = true := decide_eq_true (by omega)
        have HV : Hid (-9223372036854775808 = -d) := Lib.hid (by omega)
        rw [ef]
        generalize hiZ d = dh at *
        generalize loZ d = dl at *
        clear hdd hd h0 ef h2 h3 hp hq ed hx ha k1 k2 hm0 hm1 hs
        go_enter Tryz.func58, Tryz.ntmps58
        go_wp2_with fail
        refine (K1.out _).mono ?_
        rintro e w1 ⟨rfl, hu1⟩
        have HU1 : Hid (Up w w1) := Lib.hid (by repeat (first | exact Up.refl _ | (refine Up.trans ?_ (hu1); skip) | refine Up.alloc ?_ _ _ | refine Up.setCell ?_ (by first | (simp; done) | (simp; omega) | omega) _ | refine Up.drewN ?_ _ | refine Up.drew ?_))
        have c0 := hu1.keep w.heap.size 0 (.int .u64 ph) (by simp [go_sem])
        have c1 := hu1.keep w.heap.size 1 (.int .u64 pl) (by simp [go_sem])
        have c2 := hu1.keep (w.heap.size + 1) 0 (.int .u64 qh) (by simp [go_sem])
        have c3 := hu1.keep (w.heap.size + 1) 1 (.int .u64 ql) (by simp [go_sem])
        have l1 : w.heap.size + 1 < w1.heap.size := World.block_lt_of_cell? _ _ c2
        have l2 : w.heap.size < w1.heap.size := by omega
        clear hu1
        go_wp2_with fail
        refine (K2.out _).mono ?_
        rintro e w2 ⟨rfl, hu2⟩
        have HU2 := Lib.hid ((HU1.out.alloc _ _).trans hu2)
        clear hu2
        go_wp2_with fail
        go_ret2
        exact ⟨⟨_, rfl, fun _ => HV.out⟩, HU2.out.alloc _ _⟩
      · have t1 : (loZ d == 9223372036854775808) = false := by simp [hx]
        have ef : fits (-d) = decide (loZ d < 9223372036854775808) := by
          unfold fits
          by_cases hb : loZ d < 9223372036854775808
          · rw [decide_eq_true hb]; exact decide_eq_true (by omega)
          · rw [decide_eq_false hb]; exact decide_eq_false (by omega)
        have HV : Hid (fits (-d) = true → -(loZ d % 9223372036854775808) = -d) := Lib.hid (fun h => by have := (of_decide_eq_true h : -9223372036854775808 ≤ -d ∧ -d ≤ 9223372036854775807); omega)
        rw [ef] at HV ⊢
        cases hb : decide (loZ d < 9223372036854775808)
        all_goals
          rw [hb] at HV
          generalize hiZ d = dh at *
          generalize loZ d = dl at *
          generalize dl % 9223372036854775808 = m at *
          generalize hmm : -m = mn at *
          clear hdd hd h0 ef h2 h3 hp hq ed hx hs
          go_enter Tryz.func58, Tryz.ntmps58
          go_wp2_with fail
          refine (K1.out _).mono ?_
          rintro e w1 ⟨rfl, hu1⟩
          have HU1 : Hid (Up w w1) := Lib.hid (by repeat (first | exact Up.refl _ | (refine Up.trans ?_ (hu1); skip) | refine Up.alloc ?_ _ _ | refine Up.setCell ?_ (by first | (simp; done) | (simp; omega) | omega) _ | refine Up.drewN ?_ _ | refine Up.drew ?_))
          have c0 := hu1.keep w.heap.size 0 (.int .u64 ph) (by simp [go_sem])
          have c1 := hu1.keep w.heap.size 1 (.int .u64 pl) (by simp [go_sem])
          have c2 := hu1.keep (w.heap.size + 1) 0 (.int .u64 qh) (by simp [go_sem])
          have c3 := hu1.keep (w.heap.size + 1) 1 (.int .u64 ql) (by simp [go_sem])
          have l1 : w.heap.size + 1 < w1.heap.size := World.block_lt_of_cell? _ _ c2
          have l2 : w.heap.size < w1.heap.size := by omega
          clear hu1
          go_wp2_with fail
          refine (K2.out _).mono ?_
          rintro e w2 ⟨rfl, hu2⟩
          have HU2 := Lib.hid ((HU1.out.alloc _ _).trans hu2)
          clear hu2
          go_wp2_with fail
          go_quiet (fail)
          go_wp2_with fail
          go_ret2
          exact ⟨⟨mn, rfl, HV.out⟩, (HU2.out.alloc _ _).drewN _⟩
    · have t0 : (hiZ d == 0) = false := by simp [h0]
      have ef : fits (-d) = false := decide_eq_false (by omega)
      rw [ef]
      generalize hiZ d = dh at *
      generalize loZ d = dl at *
      generalize dl % 9223372036854775808 = m at *
      generalize hmm : -m = mn at *
      clear hdd hd h0 ef h2 h3 hp hq ed hs
      go_enter Tryz.func58, Tryz.ntmps58
      go_wp2_with fail
      refine (K1.out _).mono ?_
      rintro e w1 ⟨rfl, hu1⟩
      have HU1 : Hid (Up w w1) := Lib.hid (by repeat (first | exact Up.refl _ | (refine Up.trans ?_ (hu1); skip) | refine Up.alloc ?_ _ _ | refine Up.setCell ?_ (by first | (simp; done) | (simp; omega) | omega) _ | refine Up.drewN ?_ _ | refine Up.drew ?_))
      have c0 := hu1.keep w.heap.size 0 (.int .u64 ph) (by simp [go_sem])
      have c1 := hu1.keep w.heap.size 1 (.int .u64 pl) (by simp [go_sem])
      have c2 := hu1.keep (w.heap.size + 1) 0 (.int .u64 qh) (by simp [go_sem])
      have c3 := hu1.keep (w.heap.size + 1) 1 (.int .u64 ql) (by simp [go_sem])
      have l1 : w.heap.size + 1 < w1.heap.size := World.block_lt_of_cell? _ _ c2
      have l2 : w.heap.size < w1.heap.size := by omega
      clear hu1
      go_wp2_with fail
      refine (K2.out _).mono ?_
      rintro e w2 ⟨rfl, hu2⟩
      have HU2 := Lib.hid ((HU1.out.alloc _ _).trans hu2)
      clear hu2
      go_wp2_with fail
      go_quiet (fail)
      go_wp2_with fail
      go_ret2
      exact ⟨⟨mn, rfl, fun h => by cases h⟩, (HU2.out.alloc _ _).drewN _⟩
end Go.Proofs.YtflahclphdlolaaGreat

/- What Sum, squares and Squares of the reference of layer 8 return. -/
namespace Go.Proofs.YtflahclphdlolaaGreat
open Go.RowKit

theorem wide_info : (Tryz.prog.info? 36).map (fun i => (i.zero, i.size, i.bytes)) = some (some (.agg #[.int .u64 0, .int .u64 0]), 2, 16) := by kernel_rfl
theorem bool_info : (Tryz.prog.info? 4).map (fun i => (i.zero, i.size, i.bytes)) = some (some (.bool false), 1, 1) := by kernel_rfl
theorem blk_newAt {w : World} {t : TypeId} {cs : Array Value} {g : Nat} (hg : g = w.heap.size) : Blk (w.alloc (.cells cs t)) g t cs := by rw [hg]; exact Blk.new w t cs
/-- append of one element; a second row of the call's own stays, and every block that is not the row's. -/
theorem appendQ (sl e ty : TypeId) (z : Value) (sz bt : Nat) (ht : Tryz.prog.underlying sl = some (.slice e)) (hinf : (Tryz.prog.info? e).map (fun i => (i.zero, i.size, i.bytes)) = some (some z, sz, bt)) (hzs : z.cells.size = sz) (hbt : bt ≤ 1000)
    (w0 w : World) (A : Option Addr) (n k : Nat) (cs : List Value) (hO : Rw w0 w e sz (.slice A n k) n cs) (hu : Up w0 w) (g : Nat) (ds : List Value) (hd : ds.length = sz) (hrow : Blk w g e ds.toArray) (hone : ∀ u ∈ ds, u.oneCell' = true) (hlen : n + 1 ≤ 1000000)
    (e' : TypeId) (sz' : Nat) (B : Option Addr) (n' k' : Nat) (cs' : List Value) (hB : Rw w0 w e' sz' (.slice B n' k') n' cs') (hap : Apt A B) :
    ∃ A2 k2 w2, (Builtin.append_ #[sl, sl] ty #[.slice A n k, .slice (some ⟨g, 0, none⟩) 1 1]).run Tryz.prog w = .ok (.slice A2 (n + 1) k2) w2 ∧ Rw w0 w2 e sz (.slice A2 (n + 1) k2) (n + 1) (cs ++ ds) ∧ Rw w0 w2 e' sz' (.slice B n' k') n' cs' ∧ Apt A2 B ∧ Up w0 w2 ∧
      ∀ x t xs, Blk w x t xs → (∀ o, A ≠ some ⟨x, o, none⟩) → Blk w2 x t xs := by
  obtain ⟨g', k2, w2, hr, h1, h2, h3, h4⟩ := appendR sl e ty z sz bt ht hinf hzs hbt w0 w (.slice A n k) n cs hO hu g 0 1 1 ds (by omega) (by omega) (fun j u hj => by rw [Nat.zero_add, Blk.cell hrow]; simpa using hj) hone hlen
  have hne : ∀ o, B ≠ some ⟨g', o, none⟩ := fun o hb => by
    rcases h3 with h | ⟨n0, k0, h⟩
    · have := hB.lt g' o hb; omega
    · cases h
      exact hap g' 0 o rfl hb
  refine ⟨_, k2, w2, hr, h1, hB.stay h4 hne, fun x o o' hx hy => by cases hx; exact hne _ hy, h2, fun x t xs hx ho => h4 x t xs hx (fun e => ?_)⟩
  rcases h3 with h | ⟨n0, k0, h⟩
  · have := Blk.lt hx; omega
  · cases h; exact ho 0 (by rw [e])
/-- What the loops hold: two rows of the call's own, and the item in block q. -/
structure Sg (w W : World) (q : Nat) (p0 p1 : Int) (A1 A2 : Option Addr) (i j k1 k2 : Nat) (cA cB : List Value) : Prop where
  a : Rw w W 36 2 (.slice A1 i k1) i cA
  b : Rw w W 4 1 (.slice A2 j k2) j cB
  ap : Apt A1 A2
  up : Up w W
  it : Blk W q 70 #[.int .i64 p0, .int .i64 p1]
theorem blk_s {W : World} {q : Nat} {p0 p1 : Int} (h : Blk W q 70 #[.int .i64 p0, .int .i64 p1]) : Blk W q 70 #[.int .i64 p0, .int .i64 p1] ∧ W.cell? ⟨q, 1, none⟩ = some (.int .i64 p1) :=
  ⟨h, by rw [Blk.cell h]; rfl⟩
theorem Sg.keep {w W W' : World} {q : Nat} {p0 p1 : Int} {A1 A2 : Option Addr} {i j k1 k2 : Nat} {cA cB : List Value} (h : Sg w W q p0 p1 A1 A2 i j k1 k2 cA cB) (hu : Up W W') : Sg w W' q p0 p1 A1 A2 i j k1 k2 cA cB :=
  ⟨h.a.of_up hu, h.b.of_up hu, h.ap, h.up.trans hu, h.it.up hu⟩
theorem Sg.s {w W : World} {q : Nat} {p0 p1 : Int} {A1 A2 : Option Addr} {i j k1 k2 : Nat} {cA cB : List Value} (h : Sg w W q p0 p1 A1 A2 i j k1 k2 cA cB) : Blk W q 70 #[.int .i64 p0, .int .i64 p1] ∧ W.cell? ⟨q, 1, none⟩ = some (.int .i64 p1) :=
  ⟨h.it, by rw [Blk.cell h.it]; rfl⟩
/-- The cells of the first i wide numbers, and of the first i bools. -/
def wl (xs : Nat → Int) : Nat → List Value
  | 0 => []
  | i + 1 => wl xs i ++ [.int .u64 (hiZ (xs i)), .int .u64 (loZ (xs i))]
def bl_ (sg : Nat → Bool) : Nat → List Value
  | 0 => []
  | i + 1 => bl_ sg i ++ [.bool (sg i)]
theorem wl_len (xs : Nat → Int) (i : Nat) : (wl xs i).length = i * 2 := by
  induction i with
  | zero => rfl
  | succ i ih => simp [wl, ih]; omega
theorem bl_len (sg : Nat → Bool) (i : Nat) : (bl_ sg i).length = i := by
  induction i with
  | zero => rfl
  | succ i ih => simp [bl_, ih]
theorem wl_get (xs : Nat → Int) {n j : Nat} (h : j < n) : (wl xs n)[j * 2]? = some (.int .u64 (hiZ (xs j))) ∧ (wl xs n)[j * 2 + 1]? = some (.int .u64 (loZ (xs j))) := by
  induction n with
  | zero => omega
  | succ n ih =>
    have hl := wl_len xs n
    rcases Nat.lt_or_ge j n with h1 | h1
    · obtain ⟨a, b⟩ := ih h1
      simp only [wl]
      rw [List.getElem?_append_left (by omega), List.getElem?_append_left (by omega)]
      exact ⟨a, b⟩
    · obtain rfl : j = n := by omega
      simp only [wl]
      rw [List.getElem?_append_right (by omega), List.getElem?_append_right (by omega), hl]
      simp
theorem bl_get (sg : Nat → Bool) {n j : Nat} (h : j < n) : (bl_ sg n)[j]? = some (.bool (sg j)) := by
  induction n with
  | zero => omega
  | succ n ih =>
    have hl := bl_len sg n
    rcases Nat.lt_or_ge j n with h1 | h1
    · simp only [bl_]
      rw [List.getElem?_append_left (by omega)]
      exact ih h1
    · obtain rfl : j = n := by omega
      simp only [bl_]
      rw [List.getElem?_append_right (by omega), hl]
      simp
theorem Rw.sw {w0 w : World} {A : Option Addr} {n k : Nat} {xs : Nat → Int} (h : Rw w0 w 36 2 (.slice A n k) n (wl xs n)) : Sw w A n xs := fun hn => by
  rcases h.2 with ⟨h0, h1⟩ | ⟨g, cap, cur, h1, h2, h3, h4⟩
  · rw [h1] at h0; omega
  · cases h1
    have hc : ∀ j u, (wl xs n)[j]? = some u → w.cell? ((⟨g, 0, none⟩ : Addr).add j) = some u := World.ownsRow.cells (g := g) h rfl
    refine ⟨g, 0, rfl, fun j hj => ?_⟩
    obtain ⟨a, b⟩ := wl_get xs hj
    have a' := hc _ _ a
    have b' := hc _ _ b
    rw [add_at] at a' b'
    exact ⟨a', by rw [Nat.add_assoc]; exact b'⟩
theorem Rw.sb {w0 w : World} {A : Option Addr} {n k : Nat} {sg : Nat → Bool} (h : Rw w0 w 4 1 (.slice A n k) n (bl_ sg n)) : Sb w A n sg := fun hn => by
  rcases h.2 with ⟨h0, h1⟩ | ⟨g, cap, cur, h1, h2, h3, h4⟩
  · rw [h1] at h0; omega
  · cases h1
    have hc : ∀ j u, (bl_ sg n)[j]? = some u → w.cell? ((⟨g, 0, none⟩ : Addr).add j) = some u := World.ownsRow.cells (g := g) h rfl
    refine ⟨g, 0, rfl, fun j hj => ?_⟩
    have a' := hc _ _ (bl_get sg hj)
    rw [add_at] at a'
    exact a'
/-- The numbers that Sum adds up, and those that squares does. -/
def xsS (L : List It) (j : Nat) : Int := ((L.getD j (0, 0)).2.natAbs : Int)
def sgS (L : List It) (j : Nat) : Bool := decide ((L.getD j (0, 0)).2 < 0)
def xsQ (L : List It) (j : Nat) : Int := (L.getD j (0, 0)).2 * (L.getD j (0, 0)).2
theorem totN_sum {L : List It} (h : InI L) (hn : L.length ≤ 1000000) (i : Nat) (hi : i ≤ L.length) : totN (xsS L) (sgS L) i = (posZ (L.take i), negZ (L.take i), true) := by
  induction i with
  | zero => simp [totN, posZ, negZ]
  | succ i ih =>
    have hil : i < L.length := by omega
    have hp := posZ_le (h.take i)
    have hq := negZ_le (h.take i)
    rw [List.length_take] at hp hq
    have hv := (h.at_ hil).2
    unfold In at hv
    have hx : xsS L i = ((L.getD i (0, 0)).2.natAbs : Int) := rfl
    show totS (totN (xsS L) (sgS L) i) (xsS L i) (sgS L i) = _
    rw [ih (by omega), posZ_next hil, negZ_next hil]
    unfold totS
    by_cases hneg : (L.getD i (0, 0)).2 < 0
    · have hs : sgS L i = true := decide_eq_true hneg
      have h2 : In2 (negZ (L.take i) + xsS L i) := by rw [hx]; exact ⟨by omega, by omega⟩
      have e2 : xsS L i = -(L.getD i (0, 0)).2 := by omega
      rw [hs, if_pos rfl, if_pos hneg, if_pos hneg, fit2_yes h2, fits2_yes h2, e2, Int.add_zero]; rfl
    · have hs : sgS L i = false := decide_eq_false hneg
      have h2 : In2 (posZ (L.take i) + xsS L i) := by rw [hx]; exact ⟨by omega, by omega⟩
      have e2 : xsS L i = (L.getD i (0, 0)).2 := by omega
      rw [hs, if_neg (by decide), if_neg hneg, if_neg hneg, fit2_yes h2, fits2_yes h2, e2, Int.add_zero]; rfl
theorem sqZ_mono {L : List It} (i : Nat) : sqZ (L.take i) ≤ sqZ L := by
  have : sqZ L = sqZ (L.take i) + sqZ (L.drop i) := (congrArg sqZ (List.take_append_drop i L).symm).trans (by unfold sqZ; rw [List.map_append, List.sum_append])
  have := sqZ_nonneg (L.drop i)
  omega
theorem totN_sq {L : List It} (i : Nat) (hi : i ≤ L.length) : (totN (xsQ L) (fun _ => false) i).2.1 = 0 ∧ ((totN (xsQ L) (fun _ => false) i).2.2 = true → (totN (xsQ L) (fun _ => false) i).1 = sqZ (L.take i)) ∧ (fits2 (sqZ L) = true → (totN (xsQ L) (fun _ => false) i).2.2 = true) ∧ ((totN (xsQ L) (fun _ => false) i).2.2 = true → fits2 (sqZ (L.take i)) = true) := by
  induction i with
  | zero => simp [totN, sqZ]; decide
  | succ i ih =>
    have hil : i < L.length := by omega
    obtain ⟨a, b, c, d⟩ := ih (by omega)
    simp only [totN, totS, Bool.false_eq_true, if_false]
    have hnx := sqZ_next hil
    have hm := sqZ_mono (L := L) (i + 1)
    have h0 := sqZ_nonneg (L.take (i + 1))
    generalize totN (xsQ L) (fun _ => false) i = t at *
    refine ⟨a, fun hok => ?_, fun hf => ?_, fun hok => ?_⟩
    · rw [Bool.and_eq_true] at hok
      rw [b hok.1] at hok ⊢
      rw [hnx]
      have h2 : In2 (sqZ (L.take i) + xsQ L i) := (of_decide_eq_true hok.2 : _ ∧ _)
      exact fit2_yes h2
    · have hok := c hf
      rw [hok, b hok, Bool.true_and]
      have h2 : In2 (sqZ L) := (of_decide_eq_true hf : _ ∧ _)
      rw [show sqZ (L.take i) + xsQ L i = sqZ (L.take (i + 1)) from hnx.symm]
      exact fits2_yes ⟨h0, by have := h2.2; omega⟩
    · rw [Bool.and_eq_true] at hok
      rw [b hok.1] at hok
      rw [hnx]
      exact hok.2

set_option maxHeartbeats 16000000 in
set_option maxRecDepth 100000 in
theorem rsum_up (n k : Nat) (A : Option Addr) (L : List It) (hn : n ≤ 100000) (hI : InI L) (w : World) (hS : Sl w A n L) :
    Calls Tryz.prog 24 #[.slice A n k] w fun e w' => e = got (fit (smZ L)) (fits (smZ L)) ∧ Up w w' := by
  have HL := Lib.hid hS.1
  have HS := Lib.hid hS
  have HI := Lib.hid hI
  have hpl := posZ_le hI
  have hql := negZ_le hI
  have hln := hS.1
  have hP2 : In2 (posZ L) := ⟨hpl.1, by omega⟩
  have hQ2 : In2 (negZ L) := ⟨hql.1, by omega⟩
  have KN := Lib.hid (fun W => rnumber_up (posZ L) (negZ L) hP2 hQ2 W)
  rw [← smZ_eq] at KN
  have HTt := Lib.hid (totN_sum hI (by omega) n (by omega))
  rw [List.take_of_length_le (show L.length ≤ n by omega)] at HTt
  have HXs : Hid (∀ j, j < n → In2 (xsS L j)) := Lib.hid (fun j hj => by
    have := (hI.at_ (show j < L.length by omega)).2
    unfold In at this
    unfold xsS
    exact ⟨by omega, by omega⟩)
  generalize hx : fit (smZ L) = fx
  generalize hy : fits (smZ L) = fy at *
  have HFX : Hid (fy = true → fx = smZ L) := Lib.hid (fun h => by rw [← hx]; unfold fit; rw [hy, h]; rfl)
  have HFN : Hid (fy = false → fx = 0) := Lib.hid (fun h => by rw [← hx]; unfold fit; rw [hy, h]; rfl)
  clear hS hI hpl hql hln hP2 hQ2 hx hy
  go_enter Tryz.func24, Tryz.ntmps24
  go_wp2_with fail
  go_loopw [4, 5, 15] (fun s r t wr => ∃ (i : Nat) (A1 A2 : Option Addr) (k1 k2 : Nat), s = .slice A1 i k1 ∧ r = .slice A2 i k2 ∧ t = .int .i64 i ∧ i ≤ n ∧ Rw w wr 36 2 (.slice A1 i k1) i (wl (xsS L) i) ∧ Rw w wr 4 1 (.slice A2 i k2) i (bl_ (sgS L) i) ∧ Apt A1 A2 ∧ Up w wr) (fun _ _ t _ => n - (intOf t).toNat)
  case atStart => exact ⟨0, none, none, 0, 0, rfl, rfl, rfl, Nat.zero_le _, Rw.nil _ _ _ _, Rw.nil _ _ _ _, Apt.none_l, Up.refl _⟩
  case round =>
    obtain ⟨i, A1, A2, k1, k2, rfl, rfl, rfl, hin, hA, hB, hap, hU⟩ := hrel
    by_cases hi : i < n
    · obtain ⟨bb, o, rfl, d0, d1⟩ := (HS.out.up hU).at_ hi
      have hil : i < L.length := by rw [HL.out]; exact hi
      obtain ⟨ip, iv⟩ := HI.out.at_ hil
      have HNA : Hid (wl (xsS L) (i + 1) = wl (xsS L) i ++ [.int .u64 (hiZ (xsS L i)), .int .u64 (loZ (xsS L i))]) := Lib.hid rfl
      have HNB : Hid (bl_ (sgS L) (i + 1) = bl_ (sgS L) i ++ [.bool (sgS L i)]) := Lib.hid rfl
      have hxd : xsS L i = ((L.getD i (0, 0)).2.natAbs : Int) := rfl
      have hsd : sgS L i = decide ((L.getD i (0, 0)).2 < 0) := rfl
      generalize (L.getD i (0, 0)).1 = p0 at *
      generalize (L.getD i (0, 0)).2 = p1 at *
      have KA := Lib.hid (fun W => rabs_any p1 iv W)
      have KO := Lib.hid (fun W => rof_up (p1.natAbs : Int) W)
      unfold In at iv
      rw [← hxd] at KA KO
      have h0 : hiZ (xsS L i) = 0 := by rw [hxd]; unfold hiZ; omega
      have h1 : loZ (xsS L i) = xsS L i := by rw [hxd]; unfold loZ; omega
      have KO2 : Hid (∀ W : World, Calls Tryz.prog 55 #[.int .u64 (xsS L i)] W fun e w' => e = .returned (.agg #[.int .u64 (hiZ (xsS L i)), .int .u64 (loZ (xsS L i))]) ∧ Up W w') := Lib.hid (fun W => by rw [h0, h1]; exact KO.out W)
      clear KO
      have KO := KO2
      clear KO2 h0 h1 hxd
      generalize xsS L i = x at *
      generalize sgS L i = s at *
      have hsd2 : decide (p1 < 0) = s := hsd.symm
      clear hsd
      have f2 : (i : Int) < n := by omega
      have f3 : (0 : Int) ≤ i := by omega
      have HG00 : Hid (Sg w (wr.alloc (.cells #[.int .i64 p0, .int .i64 p1] 70)) wr.heap.size p0 p1 A1 A2 i i k1 k2 (wl (xsS L) i) (bl_ (sgS L) i)) := Lib.hid
        ⟨hA.of_up ((Up.refl wr).alloc _ _), hB.of_up ((Up.refl wr).alloc _ _), hap, hU.alloc _ _, Blk.new _ _ _⟩
      have HQA : Hid (∀ g o, wr.heap.size ≤ g → A1 ≠ some ⟨g, o, none⟩) := Lib.hid (fun g o hg he => by have := hA.lt g o he; omega)
      have HQB : Hid (∀ g o, wr.heap.size ≤ g → A2 ≠ some ⟨g, o, none⟩) := Lib.hid (fun g o hg he => by have := hB.lt g o he; omega)
      generalize wl (xsS L) i = cA at *
      generalize bl_ (sgS L) i = cB at *
      clear hA hB hap ip iv
      go_upto_region 6 with fail
      have HG0 : Hid (Sg w (wr.alloc (.cells #[.int .i64 p0, .int .i64 p1] 70)).drew wr.heap.size p0 p1 A1 A2 i i k1 k2 cA cB) := Lib.hid (HG00.out.keep (Up.refl _).drew)
      clear HG00 d0 d1 hU
      generalize wr.alloc (.cells #[.int .i64 p0, .int .i64 p1] 70) = wi at *
      generalize wr.heap.size = q at *
      refine wp_region_held_drew (S := fun w' => Blk w' q 70 #[.int .i64 p0, .int .i64 p1] ∧ w'.cell? ⟨q, 1, none⟩ = some (.int .i64 p1)) (by kernel_rfl) ?hB1 (fun hHeld => ?_)
      case hB1 => exact HG0.out.s
      refine wpAnyH_take (i := 0) (oi := ⟨_, _, _, _, _, _⟩) (v := ?v2) rfl (by kernel_rfl) (by kernel_rfl) (by kernel_rfl) (fun _ _ _ h => h) (Or.inl ⟨by rfl, ?hy2⟩) (by assumption) ?_
      case hy2 => (intro w hSw; (try dsimp only at hSw); go_simp; (try (with_reducible rfl)))
      (try simp only [Act.put, List.setIfInBounds_toArray, List.set_cons_zero, List.set_cons_succ])
      refine wpAnyH_take (i := 1) (oi := ⟨_, _, _, _, _, _⟩) (v := ?v3) rfl (by kernel_rfl) (by kernel_rfl) (by kernel_rfl) (fun _ _ _ h => h) (Or.inl ⟨by rfl, ?hy3⟩) (by assumption) ?_
      case hy3 => (intro w hSw; (try dsimp only at hSw); go_simp; (try (with_reducible rfl)))
      (try simp only [Act.put, List.setIfInBounds_toArray, List.set_cons_zero, List.set_cons_succ])
      refine wpAnyH_take (i := 2) (oi := ⟨_, _, _, _, _, _⟩) (v := ?v4) rfl (by kernel_rfl) (by kernel_rfl) (by kernel_rfl) (fun _ _ _ h => h) (Or.inl ⟨by rfl, ?hy4⟩) (by assumption) ?_
      case hy4 => (intro w hSw; (try dsimp only at hSw); go_simp; (try (with_reducible rfl)))
      (try simp only [Act.put, List.setIfInBounds_toArray, List.set_cons_zero, List.set_cons_succ])
      refine wpAnyH_take (i := 7) (oi := ⟨_, _, _, _, _, _⟩) (v := ?v5) rfl (by kernel_rfl) (by kernel_rfl) (by kernel_rfl) (fun _ _ _ h => h) (Or.inl ⟨by rfl, ?hy5⟩) (by assumption) ?_
      case hy5 => (intro w hSw; (try dsimp only at hSw); go_simp; (try (with_reducible rfl)))
      (try simp only [Act.put, List.setIfInBounds_toArray, List.set_cons_zero, List.set_cons_succ])
      refine wpAnyH_take (i := 8) (oi := ⟨_, _, _, _, _, _⟩) (v := ?v6) rfl (by kernel_rfl) (by kernel_rfl) (by kernel_rfl) (fun _ _ _ h => h) (Or.inl ⟨by rfl, ?hy6⟩) (by assumption) ?_
      case hy6 => (intro w hSw; (try dsimp only at hSw); go_simp; (try (with_reducible rfl)))
      (try simp only [Act.put, List.setIfInBounds_toArray, List.set_cons_zero, List.set_cons_succ])
      refine wpAnyH_take (i := 9) (oi := ⟨_, _, _, _, _, _⟩) (v := ?v7) rfl (by kernel_rfl) (by kernel_rfl) (by kernel_rfl) (fun _ _ _ h => h) (Or.inl ⟨by rfl, ?hy7⟩) (by assumption) ?_
      case hy7 => (intro w hSw; (try dsimp only at hSw); go_simp; (try (with_reducible rfl)))
      (try simp only [Act.put, List.setIfInBounds_toArray, List.set_cons_zero, List.set_cons_succ])
      refine wpAnyH_take (i := 10) (oi := ⟨_, _, _, _, _, _⟩) (v := ?v8) rfl (by kernel_rfl) (by kernel_rfl) (by kernel_rfl) (fun _ _ _ h => h) (Or.inl ⟨by rfl, ?hy8⟩) (by assumption) ?_
      case hy8 => (intro w hSw; (try dsimp only at hSw); go_simp; (try (with_reducible rfl)))
      (try simp only [Act.put, List.setIfInBounds_toArray, List.set_cons_zero, List.set_cons_succ])
      refine wpAnyH_ready (rs := [3, 11]) (by kernel_rfl) (by simp) ?_
      refine AllReadyH.cons (o := ⟨_, _, _, _, _, _⟩) rfl (fun K hK => ?_) (AllReadyH.cons (o := ⟨_, _, _, _, _, _⟩) rfl (fun K hK => ?_) (AllReadyH.nil))
      · go_simp
        (go_at_call 56; (with_reducible refine (KA.out _).mono ?_); rintro e w' ⟨rfl, rfl⟩)
        (try go_wp2_with fail)
        refine hK.out _ _ ?hB9 (fun hHeld => ?_)
        case hB9 => exact hHeld
        clear hK K
        (try simp only [Act.put, List.setIfInBounds_toArray, List.set_cons_zero, List.set_cons_succ])
        refine wpAnyH_ready (rs := [4, 11]) (by kernel_rfl) (by simp) ?_
        refine AllReadyH.cons (o := ⟨_, _, _, _, _, _⟩) rfl (fun K hK => ?_) (AllReadyH.cons (o := ⟨_, _, _, _, _, _⟩) rfl (fun K hK => ?_) (AllReadyH.nil))
        · go_simp
          go_at_call 55
          (with_reducible refine (KO.out _).mono ?_)
          rintro e v2 ⟨rfl, hu2⟩
          have HG2 := Lib.hid (HG0.out.keep hu2)
          clear hu2
          (try go_wp2_with fail)
          refine hK.out _ _ ?hB10 (fun hHeld => ?_)
          case hB10 => exact HG2.out.s
          clear hK K
          (try simp only [Act.put, List.setIfInBounds_toArray, List.set_cons_zero, List.set_cons_succ])
          refine wpAnyH_ready (rs := [5, 11]) (by kernel_rfl) (by simp) ?_
          refine AllReadyH.cons (o := ⟨_, _, _, _, _, _⟩) rfl (fun K hK => ?_) (AllReadyH.cons (o := ⟨_, _, _, _, _, _⟩) rfl (fun K hK => ?_) (AllReadyH.nil))
          · go_simp
            refine hK.out _ _ ?hB11 (fun hHeld => ?_)
            case hB11 => exact (HG2.out.keep ((Up.refl _).alloc _ _)).s
            clear hK K
            (try simp only [Act.put, List.setIfInBounds_toArray, List.set_cons_zero, List.set_cons_succ])
            have HG3 : Hid (Sg w ((v2.alloc (.cells #[.int .u64 (hiZ x), .int .u64 (loZ x)] 36))) q p0 p1 A1 A2 i i k1 k2 cA cB) := Lib.hid (HG2.out.keep ((Up.refl _).alloc _ _))
            have RAn3 : Blk (v2.alloc (.cells #[.int .u64 (hiZ x), .int .u64 (loZ x)] 36)) (v2.heap.size) 36 #[.int .u64 (hiZ x), .int .u64 (loZ x)] := blk_newAt (by simp [go_sem])
            refine wpAnyH_ready (rs := [6, 11]) (by kernel_rfl) (by simp) ?_
            refine AllReadyH.cons (o := ⟨_, _, _, _, _, _⟩) rfl (fun K hK => ?_) (AllReadyH.cons (o := ⟨_, _, _, _, _, _⟩) rfl (fun K hK => ?_) (AllReadyH.nil))
            · obtain ⟨A3, k3, v4, hr4, hA3, hB3, hap3, hu3, hk3⟩ := appendQ 85 36 85 _ 2 16 Tryz.underlying85 wide_info rfl (by omega) w (v2.alloc (.cells #[.int .u64 (hiZ x), .int .u64 (loZ x)] 36)) A1 i k1 cA HG3.out.a HG3.out.up (v2.heap.size) [.int .u64 (hiZ x), .int .u64 (loZ x)] rfl RAn3 (by intro z hz; simp at hz; rcases hz with rfl | rfl <;> rfl) (by omega) _ 1 A2 i k2 cB HG3.out.b HG3.out.ap
              have hq4 := hk3 _ _ _ HG3.out.it (fun o => HQA.out q o (Nat.le_refl _))
              refine step_append_run rfl (.tmp 19) (.tmp 24) _ rfl _ _ rfl rfl _ _ hr4 ?_
              refine hK.out _ _ ?hB12 (fun hHeld => ?_)
              case hB12 => exact blk_s hq4
              clear hK K
              (try simp only [Act.put, List.setIfInBounds_toArray, List.set_cons_zero, List.set_cons_succ])
              refine wpAnyH_ready (rs := [11]) (by kernel_rfl) (by simp) ?_
              refine AllReadyH.cons (o := ⟨_, _, _, _, _, _⟩) rfl (fun K hK => ?_) (AllReadyH.nil)
              go_simp
              refine hK.out _ _ ?hB13 (fun hHeld => ?_)
              case hB13 => exact blk_s (Blk.alloc hq4 _)
              clear hK K
              (try simp only [Act.put, List.setIfInBounds_toArray, List.set_cons_zero, List.set_cons_succ])
              have hA5 := hA3.of_up ((Up.refl v4).alloc #[.bool s] 4)
              have hB5 := hB3.of_up ((Up.refl v4).alloc #[.bool s] 4)
              have hu5 := hu3.alloc #[.bool s] 4
              have hq5 := Blk.alloc hq4 (.cells #[.bool s] 4)
              have RBn5 : Blk (v4.alloc (.cells #[.bool s] 4)) (v4.heap.size) 4 #[.bool s] := blk_newAt (by simp [go_sem])
              refine wpAnyH_ready (rs := [12]) (by kernel_rfl) (by simp) ?_
              refine AllReadyH.cons (o := ⟨_, _, _, _, _, _⟩) rfl (fun K hK => ?_) (AllReadyH.nil)
              obtain ⟨A4, k4, v6, hr6, hB4, hA4, hap4, hu4, hk4⟩ := appendQ 86 4 86 _ 1 1 Tryz.underlying86 bool_info rfl (by omega) w (v4.alloc (.cells #[.bool s] 4)) A2 i k2 cB hB5 hu5 (v4.heap.size) [.bool s] rfl RBn5 (by intro z hz; simp at hz; subst hz; rfl) (by omega) _ 2 A3 (i + 1) k3 _ hA5 hap3.symm
              have hq6 := hk4 _ _ _ hq5 (fun o => HQB.out q o (Nat.le_refl _))
              refine step_append_run rfl (.tmp 26) (.tmp 30) _ rfl _ _ rfl rfl _ _ hr6 ?_
              refine hK.out _ _ ?hB14 (fun hHeld => ?_)
              case hB14 => exact blk_s hq6
              clear hK K
              (try simp only [Act.put, List.setIfInBounds_toArray, List.set_cons_zero, List.set_cons_succ])
              refine wpAnyH_take (i := 13) (oi := ⟨_, _, _, _, _, _⟩) (v := ?v15) rfl (by kernel_rfl) (by kernel_rfl) (by kernel_rfl) (fun _ _ _ h => h) (Or.inl ⟨by rfl, ?hy15⟩) (by assumption) ?_
              case hy15 => (intro w hSw; (try dsimp only at hSw); go_simp; (try (with_reducible rfl)))
              (try simp only [Act.put, List.setIfInBounds_toArray, List.set_cons_zero, List.set_cons_succ])
              refine wpAnyH_take (i := 14) (oi := ⟨_, _, _, _, _, _⟩) (v := ?v16) rfl (by kernel_rfl) (by kernel_rfl) (by kernel_rfl) (fun _ _ _ h => h) (Or.inl ⟨by rfl, ?hy16⟩) (by assumption) ?_
              case hy16 => (intro w hSw; (try dsimp only at hSw); go_simp; (try (with_reducible rfl)))
              (try simp only [Act.put, List.setIfInBounds_toArray, List.set_cons_zero, List.set_cons_succ])
              refine wpAnyH_done (by kernel_rfl) ?_ _
              go_wp2_with fail
              go_roundw
              case rel => exact ⟨i + 1, A3, A4, k3, k4, rfl, rfl, by go_num, by omega, by rw [HNA.out]; exact hA4, by rw [HNB.out]; exact hB4, hap4.symm, hu4⟩
              case measure => simp [intOf]; omega
            · go_simp
              refine hK.out _ _ ?hB17 (fun hHeld => ?_)
              case hB17 => exact (HG3.out.keep ((Up.refl _).alloc _ _)).s
              clear hK K
              (try simp only [Act.put, List.setIfInBounds_toArray, List.set_cons_zero, List.set_cons_succ])
              have lb7 : q ≤ v2.heap.size + 1 := by (have hlt := Blk.lt HG3.out.it); first | omega | (simp at hlt; omega)
              have HG7 : Hid (Sg w (((v2.alloc (.cells #[.int .u64 (hiZ x), .int .u64 (loZ x)] 36)).alloc (.cells #[.bool s] 4))) q p0 p1 A1 A2 i i k1 k2 cA cB) := Lib.hid (HG3.out.keep ((Up.refl _).alloc _ _))
              have RA7 := Blk.alloc RAn3 (.cells #[.bool s] 4)
              have RBn7 : Blk ((v2.alloc (.cells #[.int .u64 (hiZ x), .int .u64 (loZ x)] 36)).alloc (.cells #[.bool s] 4)) (v2.heap.size + 1) 4 #[.bool s] := blk_newAt (by simp [go_sem])
              refine wpAnyH_ready (rs := [6]) (by kernel_rfl) (by simp) ?_
              refine AllReadyH.cons (o := ⟨_, _, _, _, _, _⟩) rfl (fun K hK => ?_) (AllReadyH.nil)
              obtain ⟨A3, k3, v8, hr8, hA3, hB3, hap3, hu3, hk3⟩ := appendQ 85 36 85 _ 2 16 Tryz.underlying85 wide_info rfl (by omega) w ((v2.alloc (.cells #[.int .u64 (hiZ x), .int .u64 (loZ x)] 36)).alloc (.cells #[.bool s] 4)) A1 i k1 cA HG7.out.a HG7.out.up (v2.heap.size) [.int .u64 (hiZ x), .int .u64 (loZ x)] rfl RA7 (by intro z hz; simp at hz; rcases hz with rfl | rfl <;> rfl) (by omega) _ 1 A2 i k2 cB HG7.out.b HG7.out.ap
              have hq8 := hk3 _ _ _ HG7.out.it (fun o => HQA.out q o (Nat.le_refl _))
              have RB8 := hk3 _ _ _ RBn7 (fun o => HQA.out _ o lb7)
              refine step_append_run rfl (.tmp 19) (.tmp 24) _ rfl _ _ rfl rfl _ _ hr8 ?_
              refine hK.out _ _ ?hB18 (fun hHeld => ?_)
              case hB18 => exact blk_s hq8
              clear hK K
              (try simp only [Act.put, List.setIfInBounds_toArray, List.set_cons_zero, List.set_cons_succ])
              refine wpAnyH_ready (rs := [12]) (by kernel_rfl) (by simp) ?_
              refine AllReadyH.cons (o := ⟨_, _, _, _, _, _⟩) rfl (fun K hK => ?_) (AllReadyH.nil)
              obtain ⟨A4, k4, v9, hr9, hB4, hA4, hap4, hu4, hk4⟩ := appendQ 86 4 86 _ 1 1 Tryz.underlying86 bool_info rfl (by omega) w v8 A2 i k2 cB hB3 hu3 (v2.heap.size + 1) [.bool s] rfl RB8 (by intro z hz; simp at hz; subst hz; rfl) (by omega) _ 2 A3 (i + 1) k3 _ hA3 hap3.symm
              have hq9 := hk4 _ _ _ hq8 (fun o => HQB.out q o (Nat.le_refl _))
              refine step_append_run rfl (.tmp 26) (.tmp 30) _ rfl _ _ rfl rfl _ _ hr9 ?_
              refine hK.out _ _ ?hB19 (fun hHeld => ?_)
              case hB19 => exact blk_s hq9
              clear hK K
              (try simp only [Act.put, List.setIfInBounds_toArray, List.set_cons_zero, List.set_cons_succ])
              refine wpAnyH_take (i := 13) (oi := ⟨_, _, _, _, _, _⟩) (v := ?v20) rfl (by kernel_rfl) (by kernel_rfl) (by kernel_rfl) (fun _ _ _ h => h) (Or.inl ⟨by rfl, ?hy20⟩) (by assumption) ?_
              case hy20 => (intro w hSw; (try dsimp only at hSw); go_simp; (try (with_reducible rfl)))
              (try simp only [Act.put, List.setIfInBounds_toArray, List.set_cons_zero, List.set_cons_succ])
              refine wpAnyH_take (i := 14) (oi := ⟨_, _, _, _, _, _⟩) (v := ?v21) rfl (by kernel_rfl) (by kernel_rfl) (by kernel_rfl) (fun _ _ _ h => h) (Or.inl ⟨by rfl, ?hy21⟩) (by assumption) ?_
              case hy21 => (intro w hSw; (try dsimp only at hSw); go_simp; (try (with_reducible rfl)))
              (try simp only [Act.put, List.setIfInBounds_toArray, List.set_cons_zero, List.set_cons_succ])
              refine wpAnyH_done (by kernel_rfl) ?_ _
              go_wp2_with fail
              go_roundw
              case rel => exact ⟨i + 1, A3, A4, k3, k4, rfl, rfl, by go_num, by omega, by rw [HNA.out]; exact hA4, by rw [HNB.out]; exact hB4, hap4.symm, hu4⟩
              case measure => simp [intOf]; omega
          · go_simp
            refine hK.out _ _ ?hB22 (fun hHeld => ?_)
            case hB22 => exact (HG2.out.keep ((Up.refl _).alloc _ _)).s
            clear hK K
            (try simp only [Act.put, List.setIfInBounds_toArray, List.set_cons_zero, List.set_cons_succ])
            have lb10 : q ≤ v2.heap.size := by (have hlt := Blk.lt HG2.out.it); first | omega | (simp at hlt; omega)
            have HG10 : Hid (Sg w ((v2.alloc (.cells #[.bool s] 4))) q p0 p1 A1 A2 i i k1 k2 cA cB) := Lib.hid (HG2.out.keep ((Up.refl _).alloc _ _))
            have RBn10 : Blk (v2.alloc (.cells #[.bool s] 4)) (v2.heap.size) 4 #[.bool s] := blk_newAt (by simp [go_sem])
            refine wpAnyH_ready (rs := [5]) (by kernel_rfl) (by simp) ?_
            refine AllReadyH.cons (o := ⟨_, _, _, _, _, _⟩) rfl (fun K hK => ?_) (AllReadyH.nil)
            go_simp
            refine hK.out _ _ ?hB23 (fun hHeld => ?_)
            case hB23 => exact (HG10.out.keep ((Up.refl _).alloc _ _)).s
            clear hK K
            (try simp only [Act.put, List.setIfInBounds_toArray, List.set_cons_zero, List.set_cons_succ])
            have HG11 : Hid (Sg w (((v2.alloc (.cells #[.bool s] 4)).alloc (.cells #[.int .u64 (hiZ x), .int .u64 (loZ x)] 36))) q p0 p1 A1 A2 i i k1 k2 cA cB) := Lib.hid (HG10.out.keep ((Up.refl _).alloc _ _))
            have RB11 := Blk.alloc RBn10 (.cells #[.int .u64 (hiZ x), .int .u64 (loZ x)] 36)
            have RAn11 : Blk ((v2.alloc (.cells #[.bool s] 4)).alloc (.cells #[.int .u64 (hiZ x), .int .u64 (loZ x)] 36)) (v2.heap.size + 1) 36 #[.int .u64 (hiZ x), .int .u64 (loZ x)] := blk_newAt (by simp [go_sem])
            refine wpAnyH_ready (rs := [6]) (by kernel_rfl) (by simp) ?_
            refine AllReadyH.cons (o := ⟨_, _, _, _, _, _⟩) rfl (fun K hK => ?_) (AllReadyH.nil)
            obtain ⟨A3, k3, v12, hr12, hA3, hB3, hap3, hu3, hk3⟩ := appendQ 85 36 85 _ 2 16 Tryz.underlying85 wide_info rfl (by omega) w ((v2.alloc (.cells #[.bool s] 4)).alloc (.cells #[.int .u64 (hiZ x), .int .u64 (loZ x)] 36)) A1 i k1 cA HG11.out.a HG11.out.up (v2.heap.size + 1) [.int .u64 (hiZ x), .int .u64 (loZ x)] rfl RAn11 (by intro z hz; simp at hz; rcases hz with rfl | rfl <;> rfl) (by omega) _ 1 A2 i k2 cB HG11.out.b HG11.out.ap
            have hq12 := hk3 _ _ _ HG11.out.it (fun o => HQA.out q o (Nat.le_refl _))
            have RB12 := hk3 _ _ _ RB11 (fun o => HQA.out _ o lb10)
            refine step_append_run rfl (.tmp 19) (.tmp 24) _ rfl _ _ rfl rfl _ _ hr12 ?_
            refine hK.out _ _ ?hB24 (fun hHeld => ?_)
            case hB24 => exact blk_s hq12
            clear hK K
            (try simp only [Act.put, List.setIfInBounds_toArray, List.set_cons_zero, List.set_cons_succ])
            refine wpAnyH_ready (rs := [12]) (by kernel_rfl) (by simp) ?_
            refine AllReadyH.cons (o := ⟨_, _, _, _, _, _⟩) rfl (fun K hK => ?_) (AllReadyH.nil)
            obtain ⟨A4, k4, v13, hr13, hB4, hA4, hap4, hu4, hk4⟩ := appendQ 86 4 86 _ 1 1 Tryz.underlying86 bool_info rfl (by omega) w v12 A2 i k2 cB hB3 hu3 (v2.heap.size) [.bool s] rfl RB12 (by intro z hz; simp at hz; subst hz; rfl) (by omega) _ 2 A3 (i + 1) k3 _ hA3 hap3.symm
            have hq13 := hk4 _ _ _ hq12 (fun o => HQB.out q o (Nat.le_refl _))
            refine step_append_run rfl (.tmp 26) (.tmp 30) _ rfl _ _ rfl rfl _ _ hr13 ?_
            refine hK.out _ _ ?hB25 (fun hHeld => ?_)
            case hB25 => exact blk_s hq13
            clear hK K
            (try simp only [Act.put, List.setIfInBounds_toArray, List.set_cons_zero, List.set_cons_succ])
            refine wpAnyH_take (i := 13) (oi := ⟨_, _, _, _, _, _⟩) (v := ?v26) rfl (by kernel_rfl) (by kernel_rfl) (by kernel_rfl) (fun _ _ _ h => h) (Or.inl ⟨by rfl, ?hy26⟩) (by assumption) ?_
            case hy26 => (intro w hSw; (try dsimp only at hSw); go_simp; (try (with_reducible rfl)))
            (try simp only [Act.put, List.setIfInBounds_toArray, List.set_cons_zero, List.set_cons_succ])
            refine wpAnyH_take (i := 14) (oi := ⟨_, _, _, _, _, _⟩) (v := ?v27) rfl (by kernel_rfl) (by kernel_rfl) (by kernel_rfl) (fun _ _ _ h => h) (Or.inl ⟨by rfl, ?hy27⟩) (by assumption) ?_
            case hy27 => (intro w hSw; (try dsimp only at hSw); go_simp; (try (with_reducible rfl)))
            (try simp only [Act.put, List.setIfInBounds_toArray, List.set_cons_zero, List.set_cons_succ])
            refine wpAnyH_done (by kernel_rfl) ?_ _
            go_wp2_with fail
            go_roundw
            case rel => exact ⟨i + 1, A3, A4, k3, k4, rfl, rfl, by go_num, by omega, by rw [HNA.out]; exact hA4, by rw [HNB.out]; exact hB4, hap4.symm, hu4⟩
            case measure => simp [intOf]; omega
        · go_simp
          refine hK.out _ _ ?hB28 (fun hHeld => ?_)
          case hB28 => exact (HG0.out.keep ((Up.refl _).alloc _ _)).s
          clear hK K
          (try simp only [Act.put, List.setIfInBounds_toArray, List.set_cons_zero, List.set_cons_succ])
          have lb14 : q ≤ wi.heap.size := by (have hlt := Blk.lt HG0.out.it); first | omega | (simp at hlt; omega)
          have HG14 : Hid (Sg w ((wi.drew.alloc (.cells #[.bool s] 4))) q p0 p1 A1 A2 i i k1 k2 cA cB) := Lib.hid (HG0.out.keep ((Up.refl _).alloc _ _))
          have RBn14 : Blk (wi.drew.alloc (.cells #[.bool s] 4)) (wi.heap.size) 4 #[.bool s] := blk_newAt (by simp [go_sem])
          refine wpAnyH_ready (rs := [4]) (by kernel_rfl) (by simp) ?_
          refine AllReadyH.cons (o := ⟨_, _, _, _, _, _⟩) rfl (fun K hK => ?_) (AllReadyH.nil)
          go_simp
          go_at_call 55
          (with_reducible refine (KO.out _).mono ?_)
          rintro e v15 ⟨rfl, hu15⟩
          have HG15 := Lib.hid (HG14.out.keep hu15)
          have RB15 := Blk.up RBn14 hu15
          clear hu15
          (try go_wp2_with fail)
          refine hK.out _ _ ?hB29 (fun hHeld => ?_)
          case hB29 => exact HG15.out.s
          clear hK K
          (try simp only [Act.put, List.setIfInBounds_toArray, List.set_cons_zero, List.set_cons_succ])
          refine wpAnyH_ready (rs := [5]) (by kernel_rfl) (by simp) ?_
          refine AllReadyH.cons (o := ⟨_, _, _, _, _, _⟩) rfl (fun K hK => ?_) (AllReadyH.nil)
          go_simp
          refine hK.out _ _ ?hB30 (fun hHeld => ?_)
          case hB30 => exact (HG15.out.keep ((Up.refl _).alloc _ _)).s
          clear hK K
          (try simp only [Act.put, List.setIfInBounds_toArray, List.set_cons_zero, List.set_cons_succ])
          have HG16 : Hid (Sg w ((v15.alloc (.cells #[.int .u64 (hiZ x), .int .u64 (loZ x)] 36))) q p0 p1 A1 A2 i i k1 k2 cA cB) := Lib.hid (HG15.out.keep ((Up.refl _).alloc _ _))
          have RB16 := Blk.alloc RB15 (.cells #[.int .u64 (hiZ x), .int .u64 (loZ x)] 36)
          have RAn16 : Blk (v15.alloc (.cells #[.int .u64 (hiZ x), .int .u64 (loZ x)] 36)) (v15.heap.size) 36 #[.int .u64 (hiZ x), .int .u64 (loZ x)] := blk_newAt (by simp [go_sem])
          refine wpAnyH_ready (rs := [6]) (by kernel_rfl) (by simp) ?_
          refine AllReadyH.cons (o := ⟨_, _, _, _, _, _⟩) rfl (fun K hK => ?_) (AllReadyH.nil)
          obtain ⟨A3, k3, v17, hr17, hA3, hB3, hap3, hu3, hk3⟩ := appendQ 85 36 85 _ 2 16 Tryz.underlying85 wide_info rfl (by omega) w (v15.alloc (.cells #[.int .u64 (hiZ x), .int .u64 (loZ x)] 36)) A1 i k1 cA HG16.out.a HG16.out.up (v15.heap.size) [.int .u64 (hiZ x), .int .u64 (loZ x)] rfl RAn16 (by intro z hz; simp at hz; rcases hz with rfl | rfl <;> rfl) (by omega) _ 1 A2 i k2 cB HG16.out.b HG16.out.ap
          have hq17 := hk3 _ _ _ HG16.out.it (fun o => HQA.out q o (Nat.le_refl _))
          have RB17 := hk3 _ _ _ RB16 (fun o => HQA.out _ o lb14)
          refine step_append_run rfl (.tmp 19) (.tmp 24) _ rfl _ _ rfl rfl _ _ hr17 ?_
          refine hK.out _ _ ?hB31 (fun hHeld => ?_)
          case hB31 => exact blk_s hq17
          clear hK K
          (try simp only [Act.put, List.setIfInBounds_toArray, List.set_cons_zero, List.set_cons_succ])
          refine wpAnyH_ready (rs := [12]) (by kernel_rfl) (by simp) ?_
          refine AllReadyH.cons (o := ⟨_, _, _, _, _, _⟩) rfl (fun K hK => ?_) (AllReadyH.nil)
          obtain ⟨A4, k4, v18, hr18, hB4, hA4, hap4, hu4, hk4⟩ := appendQ 86 4 86 _ 1 1 Tryz.underlying86 bool_info rfl (by omega) w v17 A2 i k2 cB hB3 hu3 (wi.heap.size) [.bool s] rfl RB17 (by intro z hz; simp at hz; subst hz; rfl) (by omega) _ 2 A3 (i + 1) k3 _ hA3 hap3.symm
          have hq18 := hk4 _ _ _ hq17 (fun o => HQB.out q o (Nat.le_refl _))
          refine step_append_run rfl (.tmp 26) (.tmp 30) _ rfl _ _ rfl rfl _ _ hr18 ?_
          refine hK.out _ _ ?hB32 (fun hHeld => ?_)
          case hB32 => exact blk_s hq18
          clear hK K
          (try simp only [Act.put, List.setIfInBounds_toArray, List.set_cons_zero, List.set_cons_succ])
          refine wpAnyH_take (i := 13) (oi := ⟨_, _, _, _, _, _⟩) (v := ?v33) rfl (by kernel_rfl) (by kernel_rfl) (by kernel_rfl) (fun _ _ _ h => h) (Or.inl ⟨by rfl, ?hy33⟩) (by assumption) ?_
          case hy33 => (intro w hSw; (try dsimp only at hSw); go_simp; (try (with_reducible rfl)))
          (try simp only [Act.put, List.setIfInBounds_toArray, List.set_cons_zero, List.set_cons_succ])
          refine wpAnyH_take (i := 14) (oi := ⟨_, _, _, _, _, _⟩) (v := ?v34) rfl (by kernel_rfl) (by kernel_rfl) (by kernel_rfl) (fun _ _ _ h => h) (Or.inl ⟨by rfl, ?hy34⟩) (by assumption) ?_
          case hy34 => (intro w hSw; (try dsimp only at hSw); go_simp; (try (with_reducible rfl)))
          (try simp only [Act.put, List.setIfInBounds_toArray, List.set_cons_zero, List.set_cons_succ])
          refine wpAnyH_done (by kernel_rfl) ?_ _
          go_wp2_with fail
          go_roundw
          case rel => exact ⟨i + 1, A3, A4, k3, k4, rfl, rfl, by go_num, by omega, by rw [HNA.out]; exact hA4, by rw [HNB.out]; exact hB4, hap4.symm, hu4⟩
          case measure => simp [intOf]; omega
      · go_simp
        refine hK.out _ _ ?hB35 (fun hHeld => ?_)
        case hB35 => exact (HG0.out.keep ((Up.refl _).alloc _ _)).s
        clear hK K
        (try simp only [Act.put, List.setIfInBounds_toArray, List.set_cons_zero, List.set_cons_succ])
        have lb19 : q ≤ wi.heap.size := by (have hlt := Blk.lt HG0.out.it); first | omega | (simp at hlt; omega)
        have HG19 : Hid (Sg w ((wi.drew.alloc (.cells #[.bool s] 4))) q p0 p1 A1 A2 i i k1 k2 cA cB) := Lib.hid (HG0.out.keep ((Up.refl _).alloc _ _))
        have RBn19 : Blk (wi.drew.alloc (.cells #[.bool s] 4)) (wi.heap.size) 4 #[.bool s] := blk_newAt (by simp [go_sem])
        refine wpAnyH_ready (rs := [3]) (by kernel_rfl) (by simp) ?_
        refine AllReadyH.cons (o := ⟨_, _, _, _, _, _⟩) rfl (fun K hK => ?_) (AllReadyH.nil)
        go_simp
        (go_at_call 56; (with_reducible refine (KA.out _).mono ?_); rintro e w' ⟨rfl, rfl⟩)
        (try go_wp2_with fail)
        refine hK.out _ _ ?hB36 (fun hHeld => ?_)
        case hB36 => exact hHeld
        clear hK K
        (try simp only [Act.put, List.setIfInBounds_toArray, List.set_cons_zero, List.set_cons_succ])
        refine wpAnyH_ready (rs := [4]) (by kernel_rfl) (by simp) ?_
        refine AllReadyH.cons (o := ⟨_, _, _, _, _, _⟩) rfl (fun K hK => ?_) (AllReadyH.nil)
        go_simp
        go_at_call 55
        (with_reducible refine (KO.out _).mono ?_)
        rintro e v21 ⟨rfl, hu21⟩
        have HG21 := Lib.hid (HG19.out.keep hu21)
        have RB21 := Blk.up RBn19 hu21
        clear hu21
        (try go_wp2_with fail)
        refine hK.out _ _ ?hB37 (fun hHeld => ?_)
        case hB37 => exact HG21.out.s
        clear hK K
        (try simp only [Act.put, List.setIfInBounds_toArray, List.set_cons_zero, List.set_cons_succ])
        refine wpAnyH_ready (rs := [5]) (by kernel_rfl) (by simp) ?_
        refine AllReadyH.cons (o := ⟨_, _, _, _, _, _⟩) rfl (fun K hK => ?_) (AllReadyH.nil)
        go_simp
        refine hK.out _ _ ?hB38 (fun hHeld => ?_)
        case hB38 => exact (HG21.out.keep ((Up.refl _).alloc _ _)).s
        clear hK K
        (try simp only [Act.put, List.setIfInBounds_toArray, List.set_cons_zero, List.set_cons_succ])
        have HG22 : Hid (Sg w ((v21.alloc (.cells #[.int .u64 (hiZ x), .int .u64 (loZ x)] 36))) q p0 p1 A1 A2 i i k1 k2 cA cB) := Lib.hid (HG21.out.keep ((Up.refl _).alloc _ _))
        have RB22 := Blk.alloc RB21 (.cells #[.int .u64 (hiZ x), .int .u64 (loZ x)] 36)
        have RAn22 : Blk (v21.alloc (.cells #[.int .u64 (hiZ x), .int .u64 (loZ x)] 36)) (v21.heap.size) 36 #[.int .u64 (hiZ x), .int .u64 (loZ x)] := blk_newAt (by simp [go_sem])
        refine wpAnyH_ready (rs := [6]) (by kernel_rfl) (by simp) ?_
        refine AllReadyH.cons (o := ⟨_, _, _, _, _, _⟩) rfl (fun K hK => ?_) (AllReadyH.nil)
        obtain ⟨A3, k3, v23, hr23, hA3, hB3, hap3, hu3, hk3⟩ := appendQ 85 36 85 _ 2 16 Tryz.underlying85 wide_info rfl (by omega) w (v21.alloc (.cells #[.int .u64 (hiZ x), .int .u64 (loZ x)] 36)) A1 i k1 cA HG22.out.a HG22.out.up (v21.heap.size) [.int .u64 (hiZ x), .int .u64 (loZ x)] rfl RAn22 (by intro z hz; simp at hz; rcases hz with rfl | rfl <;> rfl) (by omega) _ 1 A2 i k2 cB HG22.out.b HG22.out.ap
        have hq23 := hk3 _ _ _ HG22.out.it (fun o => HQA.out q o (Nat.le_refl _))
        have RB23 := hk3 _ _ _ RB22 (fun o => HQA.out _ o lb19)
        refine step_append_run rfl (.tmp 19) (.tmp 24) _ rfl _ _ rfl rfl _ _ hr23 ?_
        refine hK.out _ _ ?hB39 (fun hHeld => ?_)
        case hB39 => exact blk_s hq23
        clear hK K
        (try simp only [Act.put, List.setIfInBounds_toArray, List.set_cons_zero, List.set_cons_succ])
        refine wpAnyH_ready (rs := [12]) (by kernel_rfl) (by simp) ?_
        refine AllReadyH.cons (o := ⟨_, _, _, _, _, _⟩) rfl (fun K hK => ?_) (AllReadyH.nil)
        obtain ⟨A4, k4, v24, hr24, hB4, hA4, hap4, hu4, hk4⟩ := appendQ 86 4 86 _ 1 1 Tryz.underlying86 bool_info rfl (by omega) w v23 A2 i k2 cB hB3 hu3 (wi.heap.size) [.bool s] rfl RB23 (by intro z hz; simp at hz; subst hz; rfl) (by omega) _ 2 A3 (i + 1) k3 _ hA3 hap3.symm
        have hq24 := hk4 _ _ _ hq23 (fun o => HQB.out q o (Nat.le_refl _))
        refine step_append_run rfl (.tmp 26) (.tmp 30) _ rfl _ _ rfl rfl _ _ hr24 ?_
        refine hK.out _ _ ?hB40 (fun hHeld => ?_)
        case hB40 => exact blk_s hq24
        clear hK K
        (try simp only [Act.put, List.setIfInBounds_toArray, List.set_cons_zero, List.set_cons_succ])
        refine wpAnyH_take (i := 13) (oi := ⟨_, _, _, _, _, _⟩) (v := ?v41) rfl (by kernel_rfl) (by kernel_rfl) (by kernel_rfl) (fun _ _ _ h => h) (Or.inl ⟨by rfl, ?hy41⟩) (by assumption) ?_
        case hy41 => (intro w hSw; (try dsimp only at hSw); go_simp; (try (with_reducible rfl)))
        (try simp only [Act.put, List.setIfInBounds_toArray, List.set_cons_zero, List.set_cons_succ])
        refine wpAnyH_take (i := 14) (oi := ⟨_, _, _, _, _, _⟩) (v := ?v42) rfl (by kernel_rfl) (by kernel_rfl) (by kernel_rfl) (fun _ _ _ h => h) (Or.inl ⟨by rfl, ?hy42⟩) (by assumption) ?_
        case hy42 => (intro w hSw; (try dsimp only at hSw); go_simp; (try (with_reducible rfl)))
        (try simp only [Act.put, List.setIfInBounds_toArray, List.set_cons_zero, List.set_cons_succ])
        refine wpAnyH_done (by kernel_rfl) ?_ _
        go_wp2_with fail
        go_roundw
        case rel => exact ⟨i + 1, A3, A4, k3, k4, rfl, rfl, by go_num, by omega, by rw [HNA.out]; exact hA4, by rw [HNB.out]; exact hB4, hap4.symm, hu4⟩
        case measure => simp [intOf]; omega
    · obtain rfl : i = n := by omega
      have SA := Lib.hid (Rw.sw hA)
      have SB := Lib.hid (Rw.sb hB)
      have KT := Lib.hid (rtotal_up i k1 k2 A1 A2 (xsS L) (sgS L) HXs.out (by omega) wr SA.out SB.out)
      rw [HTt.out] at KT
      dsimp only at KT
      have HU := Lib.hid hU
      generalize posZ L = P at *
      generalize negZ L = Q at *
      clear hA hB hap hU
      go_wp2_with fail
      refine KT.out.mono ?_
      rintro e w1 ⟨rfl, hu1⟩
      have HU1 := Lib.hid (HU.out.trans hu1)
      clear hu1
      go_wp2_with fail
      refine (KN.out _).mono ?_
      rintro e w2 ⟨⟨v, rfl, hv⟩, hu2⟩
      have HU2 := Lib.hid (((HU1.out.alloc _ _).alloc _ _).trans hu2)
      clear hu2
      unfold got
      cases fy with
      | false =>
        obtain rfl : fx = 0 := HFN.out rfl
        clear hv HFX HFN
        go_wp2_with fail
        go_ret2
        exact ⟨rfl, HU2.out⟩
      | true =>
        obtain rfl : v = fx := (hv rfl).trans (HFX.out rfl).symm
        clear hv HFX HFN
        go_wp2_with fail
        go_ret2
        exact ⟨rfl, HU2.out⟩

theorem makeB_run (c : Nat) (hc : c ≤ 1000000) (w : World) : (Instr.makeSlice 86 (.int .i64 (c : Int)) (.int .i64 (c : Int))).run Tryz.prog w =
    .ok (.slice (some ⟨w.heap.size, 0, none⟩) c c) (w.alloc (.cells (List.replicate c (.bool false)).toArray 4)) := by
  obtain ⟨i, hi, hz, hs, hb⟩ := info_parts bool_info
  have := run_make (P := Tryz.prog) w 86 4 i _ Tryz.underlying86 hi hz .i64 .i64 (c : Int) (c : Int) (by omega) (by omega) (by rw [hb]; omega) (by omega)
  rw [this, hs, Int.toNat_natCast]
  have e : (List.replicate c (Value.bool false)).toArray = madeCells #[.bool false] (c * 1) := by
    apply Array.ext'
    apply List.ext_getElem?
    intro j
    simp only [madeCells, Array.toList_map, Array.toList_range, List.getElem?_map, Nat.mul_one, List.getElem?_replicate]
    by_cases hj : j < c
    · rw [List.getElem?_range hj, if_pos hj]; simp [Nat.mod_one]
    · rw [List.getElem?_eq_none (by simp; omega), if_neg hj]; rfl
  rw [e]
  rfl

set_option maxHeartbeats 16000000 in
set_option maxRecDepth 100000 in
theorem rsquares_up (n k : Nat) (A : Option Addr) (L : List It) (hn : n ≤ 100000) (hI : InI L) (w : World) (hS : Sl w A n L) :
    Calls Tryz.prog 59 #[.slice A n k] w fun e w' => e = got2 (totN (xsQ L) (fun _ => false) n).1 (totN (xsQ L) (fun _ => false) n).2.2 ∧ Up w w' := by
  have HL := Lib.hid hS.1
  have HS := Lib.hid hS
  have HI := Lib.hid hI
  have hln := hS.1
  have HXs : Hid (∀ j, j < n → In2 (xsQ L j)) := Lib.hid (fun j hj => by
    have := sq_in (hI.at_ (show j < L.length by omega)).2
    exact In2_of_le this.1 this.2)
  have KT := Lib.hid (fun W A1 k1 A2 k2 (h1 : Sw W A1 n (xsQ L)) (h2 : Sb W A2 n (fun _ => false)) => rtotal_up n k1 k2 A1 A2 (xsQ L) (fun _ => false) HXs.out (by omega) W h1 h2)
  unfold got2
  generalize (totN (xsQ L) (fun _ => false) n).1 = P at *
  generalize (totN (xsQ L) (fun _ => false) n).2.1 = Q at *
  generalize (totN (xsQ L) (fun _ => false) n).2.2 = R at *
  have HMK := Lib.hid (makeB_run n (by omega))
  have HUr := Lib.hid ((Up.refl w).alloc #[.int .u64 0, .int .u64 0] 36)
  clear hS hI hln
  go_enter Tryz.func59, Tryz.ntmps59
  go_wp2_with fail
  generalize hwb : w.alloc (.cells #[.int .u64 0, .int .u64 0] 36) = wb at *
  have r0 : wb.cell? ⟨w.heap.size, 0, none⟩ = some (.int .u64 0) := by rw [← hwb]; simp [go_sem]
  have r1 : wb.cell? ⟨w.heap.size, 1, none⟩ = some (.int .u64 0) := by rw [← hwb]; simp [go_sem]
  have HR0 := Lib.hid r0
  have HR1 := Lib.hid r1
  clear hwb r0 r1
  go_loopw [4, 12] (fun s t wr => ∃ (i : Nat) (A1 : Option Addr) (k1 : Nat), s = .slice A1 i k1 ∧ t = .int .i64 i ∧ i ≤ n ∧ Rw wb wr 36 2 (.slice A1 i k1) i (wl (xsQ L) i) ∧ Up wb wr) (fun _ t _ => n - (intOf t).toNat)
  case atStart => exact ⟨0, none, 0, rfl, rfl, Nat.zero_le _, Rw.nil _ _ _ _, Up.refl _⟩
  case round =>
    obtain ⟨i, A1, k1, rfl, rfl, hin, hA, hU⟩ := hrel
    by_cases hi : i < n
    · obtain ⟨bb, o, rfl, d0, d1⟩ := (HS.out.up (HUr.out.trans hU)).at_ hi
      have hil : i < L.length := by rw [HL.out]; exact hi
      obtain ⟨ip, iv⟩ := HI.out.at_ hil
      have HNA : Hid (wl (xsQ L) (i + 1) = wl (xsQ L) i ++ [.int .u64 (hiZ (xsQ L i)), .int .u64 (loZ (xsQ L i))]) := Lib.hid rfl
      have hxd : xsQ L i = (L.getD i (0, 0)).2 * (L.getD i (0, 0)).2 := rfl
      generalize (L.getD i (0, 0)).1 = p0 at *
      generalize (L.getD i (0, 0)).2 = p1 at *
      have KA := Lib.hid (fun W => rabs_any p1 iv W)
      have hw : Word (p1.natAbs : Int) := by unfold Word; unfold In at iv; omega
      have KP := Lib.hid (fun W => rproduct_up (p1.natAbs : Int) (p1.natAbs : Int) hw hw W)
      rw [sq_abs, ← hxd] at KP
      generalize (p1.natAbs : Int) = pa at *
      clear hw hxd ip iv
      generalize xsQ L i = x at *
      have f2 : (i : Int) < n := by omega
      have f3 : (0 : Int) ≤ i := by omega
      have HG00 : Hid (Sg wb (wr.alloc (.cells #[.int .i64 p0, .int .i64 p1] 70)) wr.heap.size p0 p1 A1 none i 0 k1 0 (wl (xsQ L) i) []) := Lib.hid
        ⟨hA.of_up ((Up.refl wr).alloc _ _), Rw.nil _ _ _ _, Apt.none_l.symm, hU.alloc _ _, Blk.new _ _ _⟩
      have HQA : Hid (∀ g o, wr.heap.size ≤ g → A1 ≠ some ⟨g, o, none⟩) := Lib.hid (fun g o hg he => by have := hA.lt g o he; omega)
      generalize wl (xsQ L) i = cA at *
      clear hA
      go_upto_region 5 with fail
      have HG0 : Hid (Sg wb (wr.alloc (.cells #[.int .i64 p0, .int .i64 p1] 70)).drew wr.heap.size p0 p1 A1 none i 0 k1 0 cA []) := Lib.hid (HG00.out.keep (Up.refl _).drew)
      clear HG00 d0 d1 hU
      generalize wr.alloc (.cells #[.int .i64 p0, .int .i64 p1] 70) = wi at *
      generalize wr.heap.size = q at *
      refine wp_region_held_drew (S := fun w' => Blk w' q 70 #[.int .i64 p0, .int .i64 p1] ∧ w'.cell? ⟨q, 1, none⟩ = some (.int .i64 p1)) (by kernel_rfl) ?hB43 (fun hHeld => ?_)
      case hB43 => exact HG0.out.s
      refine wpAnyH_take (i := 0) (oi := ⟨_, _, _, _, _, _⟩) (v := ?v44) rfl (by kernel_rfl) (by kernel_rfl) (by kernel_rfl) (fun _ _ _ h => h) (Or.inl ⟨by rfl, ?hy44⟩) (by assumption) ?_
      case hy44 => (intro w hSw; (try dsimp only at hSw); go_simp; (try (with_reducible rfl)))
      (try simp only [Act.put, List.setIfInBounds_toArray, List.set_cons_zero, List.set_cons_succ])
      refine wpAnyH_take (i := 1) (oi := ⟨_, _, _, _, _, _⟩) (v := ?v45) rfl (by kernel_rfl) (by kernel_rfl) (by kernel_rfl) (fun _ _ _ h => h) (Or.inl ⟨by rfl, ?hy45⟩) (by assumption) ?_
      case hy45 => (intro w hSw; (try dsimp only at hSw); go_simp; (try (with_reducible rfl)))
      (try simp only [Act.put, List.setIfInBounds_toArray, List.set_cons_zero, List.set_cons_succ])
      refine wpAnyH_take (i := 2) (oi := ⟨_, _, _, _, _, _⟩) (v := ?v46) rfl (by kernel_rfl) (by kernel_rfl) (by kernel_rfl) (fun _ _ _ h => h) (Or.inl ⟨by rfl, ?hy46⟩) (by assumption) ?_
      case hy46 => (intro w hSw; (try dsimp only at hSw); go_simp; (try (with_reducible rfl)))
      (try simp only [Act.put, List.setIfInBounds_toArray, List.set_cons_zero, List.set_cons_succ])
      refine wpAnyH_take (i := 4) (oi := ⟨_, _, _, _, _, _⟩) (v := ?v47) rfl (by kernel_rfl) (by kernel_rfl) (by kernel_rfl) (fun _ _ _ h => h) (Or.inl ⟨by rfl, ?hy47⟩) (by assumption) ?_
      case hy47 => (intro w hSw; (try dsimp only at hSw); go_simp; (try (with_reducible rfl)))
      (try simp only [Act.put, List.setIfInBounds_toArray, List.set_cons_zero, List.set_cons_succ])
      refine wpAnyH_take (i := 5) (oi := ⟨_, _, _, _, _, _⟩) (v := ?v48) rfl (by kernel_rfl) (by kernel_rfl) (by kernel_rfl) (fun _ _ _ h => h) (Or.inl ⟨by rfl, ?hy48⟩) (by assumption) ?_
      case hy48 => (intro w hSw; (try dsimp only at hSw); go_simp; (try (with_reducible rfl)))
      (try simp only [Act.put, List.setIfInBounds_toArray, List.set_cons_zero, List.set_cons_succ])
      refine wpAnyH_ready (rs := [3]) (by kernel_rfl) (by simp) ?_
      refine AllReadyH.cons (o := ⟨_, _, _, _, _, _⟩) rfl (fun K hK => ?_) (AllReadyH.nil)
      go_simp
      (go_at_call 56; (with_reducible refine (KA.out _).mono ?_); rintro e w' ⟨rfl, rfl⟩)
      (try go_wp2_with fail)
      refine hK.out _ _ ?hB49 (fun hHeld => ?_)
      case hB49 => exact hHeld
      clear hK K
      (try simp only [Act.put, List.setIfInBounds_toArray, List.set_cons_zero, List.set_cons_succ])
      refine wpAnyH_ready (rs := [6]) (by kernel_rfl) (by simp) ?_
      refine AllReadyH.cons (o := ⟨_, _, _, _, _, _⟩) rfl (fun K hK => ?_) (AllReadyH.nil)
      go_simp
      (go_at_call 56; (with_reducible refine (KA.out _).mono ?_); rintro e w' ⟨rfl, rfl⟩)
      (try go_wp2_with fail)
      refine hK.out _ _ ?hB50 (fun hHeld => ?_)
      case hB50 => exact hHeld
      clear hK K
      (try simp only [Act.put, List.setIfInBounds_toArray, List.set_cons_zero, List.set_cons_succ])
      refine wpAnyH_ready (rs := [7]) (by kernel_rfl) (by simp) ?_
      refine AllReadyH.cons (o := ⟨_, _, _, _, _, _⟩) rfl (fun K hK => ?_) (AllReadyH.nil)
      go_simp
      go_at_call 82
      (with_reducible refine (KP.out _).mono ?_)
      rintro e v27 ⟨rfl, hu27⟩
      have HG27 := Lib.hid (HG0.out.keep hu27)
      clear hu27
      (try go_wp2_with fail)
      refine hK.out _ _ ?hB51 (fun hHeld => ?_)
      case hB51 => exact HG27.out.s
      clear hK K
      (try simp only [Act.put, List.setIfInBounds_toArray, List.set_cons_zero, List.set_cons_succ])
      refine wpAnyH_ready (rs := [8]) (by kernel_rfl) (by simp) ?_
      refine AllReadyH.cons (o := ⟨_, _, _, _, _, _⟩) rfl (fun K hK => ?_) (AllReadyH.nil)
      go_simp
      refine hK.out _ _ ?hB52 (fun hHeld => ?_)
      case hB52 => exact (HG27.out.keep ((Up.refl _).alloc _ _)).s
      clear hK K
      (try simp only [Act.put, List.setIfInBounds_toArray, List.set_cons_zero, List.set_cons_succ])
      have HG28 : Hid (Sg wb ((v27.alloc (.cells #[.int .u64 (hiZ x), .int .u64 (loZ x)] 36))) q p0 p1 A1 none i 0 k1 0 cA []) := Lib.hid (HG27.out.keep ((Up.refl _).alloc _ _))
      have RAn28 : Blk (v27.alloc (.cells #[.int .u64 (hiZ x), .int .u64 (loZ x)] 36)) (v27.heap.size) 36 #[.int .u64 (hiZ x), .int .u64 (loZ x)] := blk_newAt (by simp [go_sem])
      refine wpAnyH_ready (rs := [9]) (by kernel_rfl) (by simp) ?_
      refine AllReadyH.cons (o := ⟨_, _, _, _, _, _⟩) rfl (fun K hK => ?_) (AllReadyH.nil)
      obtain ⟨A3, k3, v29, hr29, hA3, hB3, hap3, hu3, hk3⟩ := appendQ 85 36 85 _ 2 16 Tryz.underlying85 wide_info rfl (by omega) wb (v27.alloc (.cells #[.int .u64 (hiZ x), .int .u64 (loZ x)] 36)) A1 i k1 cA HG28.out.a HG28.out.up (v27.heap.size) [.int .u64 (hiZ x), .int .u64 (loZ x)] rfl RAn28 (by intro z hz; simp at hz; rcases hz with rfl | rfl <;> rfl) (by omega) _ 1 none 0 0 [] HG28.out.b HG28.out.ap
      have hq29 := hk3 _ _ _ HG28.out.it (fun o => HQA.out q o (Nat.le_refl _))
      refine step_append_run rfl (.tmp 16) (.tmp 24) _ rfl _ _ rfl rfl _ _ hr29 ?_
      refine hK.out _ _ ?hB53 (fun hHeld => ?_)
      case hB53 => exact blk_s hq29
      clear hK K
      (try simp only [Act.put, List.setIfInBounds_toArray, List.set_cons_zero, List.set_cons_succ])
      refine wpAnyH_take (i := 10) (oi := ⟨_, _, _, _, _, _⟩) (v := ?v54) rfl (by kernel_rfl) (by kernel_rfl) (by kernel_rfl) (fun _ _ _ h => h) (Or.inl ⟨by rfl, ?hy54⟩) (by assumption) ?_
      case hy54 => (intro w hSw; (try dsimp only at hSw); go_simp; (try (with_reducible rfl)))
      (try simp only [Act.put, List.setIfInBounds_toArray, List.set_cons_zero, List.set_cons_succ])
      refine wpAnyH_done (by kernel_rfl) ?_ _
      go_wp2_with fail
      go_roundw
      case rel => exact ⟨i + 1, A3, k3, rfl, by go_num, by omega, by rw [HNA.out]; exact hA3, hu3⟩
      case measure => simp [intOf]; omega
    · obtain rfl : i = n := by omega
      have SA := Rw.sw hA
      have hmk := HMK.out wr
      have HSA := Lib.hid (SA.up ((Up.refl wr).alloc (List.replicate i (.bool false)).toArray 4))
      have HSB : Hid (Sb (wr.alloc (.cells (List.replicate i (.bool false)).toArray 4)) (some ⟨wr.heap.size, 0, none⟩) i (fun _ => false)) := Lib.hid (fun hp => ⟨wr.heap.size, 0, rfl, fun j hj => by
        rw [Nat.zero_add, Blk.cell (Blk.new wr 4 _)]; simp [hj]⟩)
      have HU := Lib.hid (hU.alloc (List.replicate i (.bool false)).toArray 4)
      clear hA SA hU
      go_wp2_with fail
      refine (KT.out _ _ _ _ _ HSA.out HSB.out).mono ?_
      rintro e w1 ⟨rfl, hu1⟩
      have HU1 := Lib.hid (HU.out.trans hu1)
      have r0 := HU1.out.keep _ _ _ HR0.out
      have r1 := HU1.out.keep _ _ _ HR1.out
      have HU2 := Lib.hid (HUr.out.trans HU1.out)
      have z0 := HU2.out.ownGe (Nat.le_refl w.heap.size) 0
      have z1 := HU2.out.ownGe (Nat.le_refl w.heap.size) 1
      have lw : w.heap.size < w1.heap.size := World.block_lt_of_cell? _ _ r0
      have lw2 : w.heap.size < w1.heap.size + 1 := by omega
      clear hu1 hmk
      go_wp2_with fail
      refine bodyPost_ret (v := .tuple #[.agg #[.int .u64 (hiZ P), .int .u64 (loZ P)], .bool R]) (by simp [results, Tryz.results59, go_sem, r0, r1, lw, lw2]) rfl ⟨?_, ?_⟩
      · rfl
      · ((repeat (first | (with_reducible exact Up.refl _) | (with_reducible exact HU2.out) | (with_reducible refine Up.alloc ?_ _ _) | (with_reducible refine Up.setCell ?_ ?_ _) | (with_reducible refine Up.drewN ?_ _) | (with_reducible refine Up.drew ?_))); all_goals (first | (simp; done) | (simp; omega) | omega))

theorem rsquaresE_up (n k : Nat) (A : Option Addr) (L : List It) (hn : n ≤ 100000) (hI : InI L) (w : World) (hS : Sl w A n L) :
    Calls Tryz.prog 25 #[.slice A n k] w fun e w' => e = got (fit (sqZ L)) (fits (sqZ L)) ∧ Up w w' := by
  have K1 := Lib.hid (rsquares_up n k A L hn hI w hS)
  obtain ⟨_, t1, t2, t3⟩ := totN_sq (L := L) n (by rw [hS.1]; exact Nat.le_refl _)
  rw [List.take_of_length_le (by rw [hS.1]; exact Nat.le_refl _)] at t1 t3
  have hin := (totN_in2 (xsQ L) (fun _ => false) n).1
  have h0 := sqZ_nonneg L
  generalize (totN (xsQ L) (fun _ => false) n).1 = P at *
  generalize (totN (xsQ L) (fun _ => false) n).2.2 = R at *
  have KN := Lib.hid (fun W => rnumber_up P 0 hin ⟨by decide, by decide⟩ W)
  rw [show hiZ 0 = 0 by decide, show loZ 0 = 0 by decide, Int.sub_zero] at KN
  unfold got2 at K1
  cases R with
  | false =>
    have ef : fits (sqZ L) = false := by
      rw [Bool.eq_false_iff]
      intro h
      have h1 : -9223372036854775808 ≤ sqZ L ∧ sqZ L ≤ 9223372036854775807 := of_decide_eq_true h
      have := t2 (fits2_yes ⟨h0, by omega⟩)
      cases this
    rw [show fit (sqZ L) = 0 by unfold fit; rw [ef]; rfl, ef]
    clear t1 t2 t3 hin h0 ef hS hI
    go_enter Tryz.func25, Tryz.ntmps25
    go_wp2_with fail
    refine K1.out.mono ?_
    rintro e w1 ⟨rfl, hu1⟩
    go_wp2_with fail
    refine (KN.out _).mono ?_
    rintro e w2 ⟨⟨v, rfl, _⟩, hu2⟩
    have HU2 := Lib.hid ((hu1.alloc _ _).trans hu2)
    unfold got
    go_wp2_with fail
    go_ret2
    exact ⟨rfl, HU2.out⟩
  | true =>
    obtain rfl := t1 rfl
    cases hf : fits (sqZ L) with
    | false =>
      rw [hf] at KN
      rw [show fit (sqZ L) = 0 by unfold fit; rw [hf]; rfl]
      clear t1 t2 t3 hin h0 hf hS hI
      go_enter Tryz.func25, Tryz.ntmps25
      go_wp2_with fail
      refine K1.out.mono ?_
      rintro e w1 ⟨rfl, hu1⟩
      go_wp2_with fail
      refine (KN.out _).mono ?_
      rintro e w2 ⟨⟨v, rfl, _⟩, hu2⟩
      have HU2 := Lib.hid ((hu1.alloc _ _).trans hu2)
      unfold got
      go_wp2_with fail
      go_ret2
      exact ⟨rfl, HU2.out⟩
    | true =>
      rw [hf] at KN
      rw [show fit (sqZ L) = sqZ L by unfold fit; rw [hf]; rfl]
      clear t1 t2 t3 hin h0 hf hS hI
      go_enter Tryz.func25, Tryz.ntmps25
      go_wp2_with fail
      refine K1.out.mono ?_
      rintro e w1 ⟨rfl, hu1⟩
      go_wp2_with fail
      refine (KN.out _).mono ?_
      rintro e w2 ⟨⟨v, rfl, hv⟩, hu2⟩
      obtain rfl : v = sqZ L := hv (by first | trivial | rfl)
      have HU2 := Lib.hid ((hu1.alloc _ _).trans hu2)
      unfold got
      go_wp2_with fail
      go_ret2
      exact ⟨rfl, HU2.out⟩
end Go.Proofs.YtflahclphdlolaaGreat

/- What Make of package ratio, and of its reference, returns. -/
namespace Go.Proofs.YtflahclphdlolaaGreat
open Go.RowKit

theorem quo_same {p q p' q' : Int} (h : q ≠ 0) (h' : q' ≠ 0) (e : p * q' = p' * q) : quoN p q = quoN p' q' ∧ quoD p q = quoD p' q' ∧ quoB p q = quoB p' q' := by
  have e1 := quo_eq (p := p') h'
  obtain ⟨u1, u2⟩ := quo_uniq h (quoQ_pos (p := p') h') (quo_coprime (p := p') h') (show p * quoQ p' q' = quoP p' q' * q by
    have : q' * (p * quoQ p' q') = q' * (quoP p' q' * q) := by
      have t1 : q' * (p * quoQ p' q') = p * q' * quoQ p' q' := by ac_rfl
      have t2 : q' * (quoP p' q' * q) = quoP p' q' * q' * q := by ac_rfl
      rw [t1, t2, e1, e]
      ac_rfl
    exact Int.eq_of_mul_eq_mul_left h' this)
  have hB : quoB p q = quoB p' q' := by unfold quoB; rw [u1, u2, decide_eq_true h, decide_eq_true h']
  refine ⟨?_, ?_, hB⟩
  · unfold quoN; rw [hB, u1]
  · unfold quoD; rw [hB, u2]

theorem abs_prod {a b : Int} (ha : In a) (hb : In b) : 0 ≤ (a.natAbs : Int) * (b.natAbs : Int) ∧ (a.natAbs : Int) * (b.natAbs : Int) ≤ 85070591730234615865843651857942052864 := by
  obtain ⟨a1, a2⟩ := ha; obtain ⟨b1, b2⟩ := hb
  refine ⟨Int.mul_nonneg (by omega) (by omega), ?_⟩
  have h : (a.natAbs : Int) * (b.natAbs : Int) ≤ 9223372036854775808 * 9223372036854775808 := Int.mul_le_mul (by omega) (by omega) (by omega) (by omega)
  exact h
theorem in_1 : In 1 := ⟨by decide, by decide⟩

/-- The reference's way to the quotient of two numbers. -/
theorem red_v (s : Bool) (x y p q : Int) (hx : In2 x) (hy : In2 y) (h0 : y ≠ 0) (hq : q ≠ 0) (e : sz s x * q = p * y) (w : World) :
    Calls Tryz.prog 84 #[.bool s, .agg #[.int .u64 (hiZ x), .int .u64 (loZ x)], .agg #[.int .u64 (hiZ y), .int .u64 (loZ y)]] w fun e w' => e = gotR (quoN p q) (quoD p q) (quoB p q) ∧ Up w w' := by
  have h := red_up s x y hx hy h0 w
  obtain ⟨e1, e2, e3⟩ := quo_same h0 hq e
  rw [e1, e2, e3] at h
  exact h

theorem hl_abs {a : Int} (ha : In a) : hiZ (a.natAbs : Int) = 0 ∧ loZ (a.natAbs : Int) = (a.natAbs : Int) := by
  obtain ⟨a1, a2⟩ := ha; unfold hiZ loZ; omega
theorem in2_abs {a : Int} (ha : In a) : In2 (a.natAbs : Int) := by
  obtain ⟨a1, a2⟩ := ha; exact ⟨by omega, by omega⟩
/-- The sign of the reference's Make. -/
theorem make_ways (n d : Int) (_ : d ≠ 0) :
    (decide (n < 0) = false ∧ decide (d < 0) = false ∧ sz false (n.natAbs : Int) * d = n * (d.natAbs : Int)) ∨
    (decide (n < 0) = true ∧ decide (d < 0) = true ∧ sz false (n.natAbs : Int) * d = n * (d.natAbs : Int)) ∨
    (decide (n < 0) = true ∧ decide (d < 0) = false ∧ (n != 0) = true ∧ sz true (n.natAbs : Int) * d = n * (d.natAbs : Int)) ∨
    (decide (n < 0) = false ∧ decide (d < 0) = true ∧ (n != 0) = true ∧ sz true (n.natAbs : Int) * d = n * (d.natAbs : Int)) ∨
    (decide (n < 0) = false ∧ decide (d < 0) = true ∧ (n != 0) = false ∧ sz false (n.natAbs : Int) * d = n * (d.natAbs : Int)) := by
  by_cases h1 : n < 0 <;> by_cases h2 : d < 0
  · refine Or.inr (Or.inl ⟨decide_eq_true h1, decide_eq_true h2, ?_⟩)
    rw [sz_false, show (n.natAbs : Int) = -n by omega, show (d.natAbs : Int) = -d by omega, Int.neg_mul, Int.mul_neg]
  · refine Or.inr (Or.inr (Or.inl ⟨decide_eq_true h1, decide_eq_false h2, bne_iff_ne.2 (by omega), ?_⟩))
    rw [sz_true, show -(n.natAbs : Int) = n by omega, show (d.natAbs : Int) = d by omega]
  · by_cases h3 : n = 0
    · refine Or.inr (Or.inr (Or.inr (Or.inr ⟨decide_eq_false h1, decide_eq_true h2, bne_eq_false_iff_eq.2 h3, ?_⟩)))
      rw [sz_false, h3]; simp
    · refine Or.inr (Or.inr (Or.inr (Or.inl ⟨decide_eq_false h1, decide_eq_true h2, bne_iff_ne.2 h3, ?_⟩)))
      rw [sz_true, show (n.natAbs : Int) = n by omega, show (d.natAbs : Int) = -d by omega, Int.neg_mul, Int.mul_neg]
  · refine Or.inl ⟨decide_eq_false h1, decide_eq_false h2, ?_⟩
    rw [sz_false, show (n.natAbs : Int) = n by omega, show (d.natAbs : Int) = d by omega]

set_option maxHeartbeats 2000000 in
theorem rmake_up (n d : Int) (hn : In n) (hd : In d) (w : World) :
    Calls Tryz.prog 62 #[.int .i64 n, .int .i64 d] w fun e w' => e = gotR (quoN n d) (quoD n d) (quoB n d) ∧ Up w w' := by
  by_cases h0 : d = 0
  · subst h0
    rw [(quo_zero n).1, (quo_zero n).2.1, (quo_zero n).2.2]
    go_enter Tryz.func62, Tryz.ntmps62
    go_wp2_with fail
    refine bodyPost_ret (v := .tuple #[.agg #[.int .i64 0, .int .i64 0], .bool false]) (by simp [results, Tryz.results62, go_sem]) rfl ⟨?_, ?_⟩
    · rfl
    · repeat (first | exact Up.refl _ | refine Up.alloc ?_ _ _ | refine Up.setCell ?_ (by first | (simp; done) | (simp; omega) | omega) _ | refine Up.drewN ?_ _ | refine Up.drew ?_)
  · have t0 : (d == 0) = false := beq_eq_false_iff_ne.2 h0
    have HA := Lib.hid (fun W => rabs_any n hn W)
    have HB := Lib.hid (fun W => rabs_any d hd W)
    have HM := Lib.hid (fun s (e : sz s (n.natAbs : Int) * d = n * (d.natAbs : Int)) W => red_v s (n.natAbs : Int) (d.natAbs : Int) n d (in2_abs hn) (in2_abs hd) (by omega) h0 e W)
    rw [(hl_abs hn).1, (hl_abs hn).2, (hl_abs hd).1, (hl_abs hd).2] at HM
    generalize quoN n d = N at *
    generalize quoD n d = D at *
    generalize quoB n d = B at *
    have hw := make_ways n d h0
    clear hn hd h0
    rcases hw with ⟨t1, t2, e⟩ | ⟨t1, t2, e⟩ | ⟨t1, t2, t3, e⟩ | ⟨t1, t2, t3, e⟩ | ⟨t1, t2, t3, e⟩
    all_goals
      have HE := Lib.hid e
      clear e
      generalize (n.natAbs : Int) = na at *
      generalize (d.natAbs : Int) = da at *
      go_enter Tryz.func62, Tryz.ntmps62
      go_wp2_with fail
      refine (HA.out _).mono ?_
      rintro e w' ⟨rfl, rfl⟩
      go_wp2_with fail
      refine (rof_up na _).mono ?_
      rintro e w1 ⟨rfl, hu1⟩
      try unfold got2
      have c1_0 := hu1.keep (w.heap.size) (0) (.int .i64 0) (by simp [go_sem, *])
      have c1_1 := hu1.keep (w.heap.size) (1) (.int .i64 0) (by simp [go_sem, *])
      have l1_0 : w.heap.size < w1.heap.size := World.block_lt_of_cell? _ _ c1_0
      have m1_0 : w.heap.size < w1.heap.size + 1 := by omega
      have n1_0 : w.heap.size < w1.heap.size + 1 + 1 := by omega
      have x1_0 : ¬ w1.heap.size = w.heap.size := by omega
      have y1_0 : ¬ w1.heap.size + 1 = w.heap.size := by omega
      have HU1 : Hid (Up w w1) := Lib.hid (by ((repeat (first | (with_reducible exact Up.refl _) | (with_reducible refine Up.trans ?_ hu1) | (with_reducible refine Up.alloc ?_ _ _) | (with_reducible refine Up.setCell ?_ ?_ _) | (with_reducible refine Up.drewN ?_ _) | (with_reducible refine Up.drew ?_))); all_goals (first | (simp; done) | (simp; omega) | omega)))
      clear hu1
      go_wp2_with fail
      refine (HB.out _).mono ?_
      rintro e w' ⟨rfl, rfl⟩
      go_wp2_with fail
      refine (rof_up da _).mono ?_
      rintro e w2 ⟨rfl, hu2⟩
      try unfold got2
      have c2_0 := hu2.keep (w.heap.size) (0) (.int .i64 0) (by simp [go_sem, *])
      have c2_1 := hu2.keep (w.heap.size) (1) (.int .i64 0) (by simp [go_sem, *])
      have l2_0 : w.heap.size < w2.heap.size := World.block_lt_of_cell? _ _ c2_0
      have m2_0 : w.heap.size < w2.heap.size + 1 := by omega
      have n2_0 : w.heap.size < w2.heap.size + 1 + 1 := by omega
      have x2_0 : ¬ w2.heap.size = w.heap.size := by omega
      have y2_0 : ¬ w2.heap.size + 1 = w.heap.size := by omega
      have HU2 : Hid (Up w w2) := Lib.hid (by ((repeat (first | (with_reducible exact Up.refl _) | (with_reducible exact HU1.out) | (with_reducible refine Up.trans ?_ hu2) | (with_reducible refine Up.alloc ?_ _ _) | (with_reducible refine Up.setCell ?_ ?_ _) | (with_reducible refine Up.drewN ?_ _) | (with_reducible refine Up.drew ?_))); all_goals (first | (simp; done) | (simp; omega) | omega)))
      clear hu2 c1_0 c1_1
      go_wp2_with fail
      refine (HM.out _ HE.out _).mono ?_
      rintro e w3 ⟨rfl, hu3⟩
      try unfold got2
      have c3_0 := hu3.keep (w.heap.size) (0) (.int .i64 0) (by simp [go_sem, *])
      have c3_1 := hu3.keep (w.heap.size) (1) (.int .i64 0) (by simp [go_sem, *])
      have l3_0 : w.heap.size < w3.heap.size := World.block_lt_of_cell? _ _ c3_0
      have m3_0 : w.heap.size < w3.heap.size + 1 := by omega
      have n3_0 : w.heap.size < w3.heap.size + 1 + 1 := by omega
      have x3_0 : ¬ w3.heap.size = w.heap.size := by omega
      have y3_0 : ¬ w3.heap.size + 1 = w.heap.size := by omega
      have HU3 : Hid (Up w w3) := Lib.hid (by ((repeat (first | (with_reducible exact Up.refl _) | (with_reducible exact HU2.out) | (with_reducible refine Up.trans ?_ hu3) | (with_reducible refine Up.alloc ?_ _ _) | (with_reducible refine Up.setCell ?_ ?_ _) | (with_reducible refine Up.drewN ?_ _) | (with_reducible refine Up.drew ?_))); all_goals (first | (simp; done) | (simp; omega) | omega)))
      clear hu3 c2_0 c2_1
      unfold gotR
      have z0 := own0 HU3.out 0
      have z1 := own0 HU3.out 1
      go_wp2_with fail
      refine bodyPost_ret (v := .tuple #[.agg #[.int .i64 N, .int .i64 D], .bool B]) (by simp [results, Tryz.results62, go_sem, c3_0, c3_1]) rfl ⟨?_, ?_⟩
      · rfl
      · ((repeat (first | (with_reducible exact Up.refl _) | (with_reducible exact HU3.out) | (with_reducible refine Up.alloc ?_ _ _) | (with_reducible refine Up.setCell ?_ ?_ _) | (with_reducible refine Up.drewN ?_ _) | (with_reducible refine Up.drew ?_))); all_goals (first | (simp; done) | (simp; omega) | omega))

end Go.Proofs.YtflahclphdlolaaGreat

/- What Few and Spread of the reference of layer 8 return. -/
namespace Go.Proofs.YtflahclphdlolaaGreat
open Go.RowKit

/-- The values are small. -/
def smallV (v : Int) : Prop := -1048576 ≤ v ∧ v ≤ 1048576
def fewB (L : List It) : Bool := decide (L.length ≤ 200) && L.all (fun x => decide (-1048576 ≤ x.2 ∧ x.2 ≤ 1048576))
theorem fewB_true {L : List It} (h : fewB L = true) : L.length ≤ 200 ∧ ∀ x ∈ L, smallV x.2 := by
  unfold fewB at h
  rw [Bool.and_eq_true, decide_eq_true_eq, List.all_eq_true] at h
  exact ⟨h.1, fun x hx => (of_decide_eq_true (h.2 x hx) : -1048576 ≤ x.2 ∧ x.2 ≤ 1048576)⟩
theorem fewB_great {L : List It} (h : 200 < L.length) : fewB L = false := by unfold fewB; rw [decide_eq_false (by omega)]; rfl
theorem fewB_bad {L : List It} {i : Nat} (hi : i < L.length) (h : ¬ smallV (L.getD i (0, 0)).2) : fewB L = false := by
  rw [Bool.eq_false_iff]
  intro hf
  exact h ((fewB_true hf).2 _ (by simp [List.getD, hi]))
theorem fewB_good {L : List It} (h : L.length ≤ 200) (ha : ∀ j, j < L.length → smallV (L.getD j (0, 0)).2) : fewB L = true := by
  unfold fewB
  rw [decide_eq_true h, Bool.true_and, List.all_eq_true]
  intro x hx
  obtain ⟨j, hj, rfl⟩ := List.getElem_of_mem hx
  have := ha j hj
  simp only [List.getD, List.getElem?_eq_getElem hj, Option.getD_some] at this
  exact decide_eq_true this
theorem sq_small {a b : Int} (ha : smallV a) (hb : smallV b) : -2097152 ≤ a - b ∧ a - b ≤ 2097152 ∧ 0 ≤ (a - b) * (a - b) ∧ (a - b) * (a - b) ≤ 4398046511104 := by
  unfold smallV at *
  refine ⟨by omega, by omega, ?_, ?_⟩
  · rw [← sq_abs]; exact Int.mul_nonneg (by omega) (by omega)
  · rw [← sq_abs]
    have h1 : ((a - b).natAbs : Int) ≤ 2097152 := by omega
    have := Int.mul_le_mul h1 h1 (by omega) (by omega)
    omega
theorem rowZ_le {v : Int} {L : List It} (hv : smallV v) (h : ∀ x ∈ L, smallV x.2) : rowZ v L ≤ L.length * 4398046511104 := by
  induction L with
  | nil => simp [rowZ]
  | cons x L ih =>
    have h1 := (sq_small hv (h x (by simp))).2.2.2
    have h2 := ih (fun y hy => h y (by simp [hy]))
    simp only [rowZ, List.map_cons, List.sum_cons, List.length_cons] at *
    omega
theorem rowZ_take {L : List It} {j : Nat} (hj : j < L.length) (v : Int) : rowZ v (L.take (j + 1)) = rowZ v (L.take j) + (v - (L.getD j (0, 0)).2) * (v - (L.getD j (0, 0)).2) := by
  rw [take_next hj]; simp [rowZ]
theorem dvZ_small {L : List It} (hl : L.length ≤ 200) (h : ∀ x ∈ L, smallV x.2) (i : Nat) (hi : i ≤ L.length) : 0 ≤ dvZ (L.take i) ∧ dvZ (L.take i) ≤ i * 879609302220800 := by
  refine ⟨dvZ_nonneg _, ?_⟩
  induction i with
  | zero => rw [List.take_zero, dvZ_nil]; omega
  | succ i ih =>
    rw [take_next (by omega), dvZ_next]
    have h1 := ih (by omega)
    have h2 := rowZ_le (h (L.getD i (0, 0)) (by simp [List.getD, show i < L.length by omega])) (fun x hx => h x (List.mem_of_mem_take (i := i) hx))
    rw [List.length_take] at h2
    have h3 : (((min i L.length : Nat)) : Int) ≤ 200 := by omega
    omega

theorem quo_0_1 : quoN 0 1 = 0 ∧ quoD 0 1 = 1 ∧ quoB 0 1 = true := by decide
end Go.Proofs.YtflahclphdlolaaGreat

/- Equality of answers: numbers, bounds, fractions, lists of numbers. -/
namespace Go.Proofs.YtflahclphdlolaaGreat
open Go.RowKit

theorem eqRatio9 (a0 a1 : Int) (w : World) : (Op.equalIn 10000 30 (.agg #[.int .i64 a0, .int .i64 a1]) (.agg #[.int .i64 a0, .int .i64 a1])).run Tryz.prog w = .ok true w := by
  have qu := Tryz.underlying2
  have qa := Tryz.isAgg2
  have qz := Tryz.sizeOf2
  rw [show (10000 : Nat) = 9999 + 1 from rfl, Op.equalIn]
  simp only [Sem.run_bind, run_underlying Tryz.underlying30, Result.andThen_ok]
  go_simp
theorem eqBounds9 (a0 a1 : Int) (w : World) : (Op.equalIn 10000 32 (.agg #[.int .i64 a0, .int .i64 a1, .int .i64 a0, .int .i64 a1, .int .i64 a0, .int .i64 a1]) (.agg #[.int .i64 a0, .int .i64 a1, .int .i64 a0, .int .i64 a1, .int .i64 a0, .int .i64 a1])).run Tryz.prog w = .ok true w := by
  have qu := Tryz.underlying2
  have qa := Tryz.isAgg2
  have qz := Tryz.sizeOf2
  have ru := Tryz.underlying30
  have ra := Tryz.isAgg30
  have rz := Tryz.sizeOf30
  have e : ∀ w, (Op.equalIn 9999 30 (.agg #[.int .i64 a0, .int .i64 a1]) (.agg #[.int .i64 a0, .int .i64 a1])).run Tryz.prog w = .ok true w := fun w => by
    rw [show (9999 : Nat) = 9998 + 1 from rfl, Op.equalIn]
    simp only [Sem.run_bind, run_underlying Tryz.underlying30, Result.andThen_ok]
    go_simp
  rw [show (10000 : Nat) = 9999 + 1 from rfl, Op.equalIn]
  simp only [Sem.run_bind, run_underlying Tryz.underlying32, Result.andThen_ok]
  go_simp
set_option maxHeartbeats 2000000 in
set_option maxRecDepth 100000 in
theorem sameNum_t (n k q : Nat) (A B : Option Addr) (L : List Int) (hn : n ≤ 1000000) (w : World) (hA : Sn w A n L) (hB : Sn w B n L) :
    Calls Tryz.prog 32 #[.slice A n k, .slice B n q] w fun e w' => e = .returned (.bool true) ∧ Up w w' := by
  have HA := Lib.hid hA
  have HB := Lib.hid hB
  clear hA hB
  have t1 : ((n : Int) != (n : Int)) = false := by simp
  go_enter Tryz.func32, Tryz.ntmps32
  go_wp2
  go_loopw [13] (fun t wr => ∃ i : Nat, t = .int .i64 i ∧ i ≤ n ∧ Hid (Up w wr)) (fun t _ => n - (intOf t).toNat)
  case atStart => exact ⟨0, rfl, Nat.zero_le _, Lib.hid (Up.refl _)⟩
  case round =>
    obtain ⟨i, rfl, i2, HU⟩ := hrel
    by_cases hlt : i < n
    · obtain ⟨b, o, rfl, hc⟩ := (HA.out.up HU.out).2 (by omega)
      obtain ⟨b', o', rfl, hc'⟩ := (HB.out.up HU.out).2 (by omega)
      have d0 := hc i hlt
      have d1 := hc' i hlt
      clear hc hc'
      generalize L.getD i 0 = p0 at *
      have f2 : (i : Int) < n := by omega
      have f3 : (0 : Int) ≤ i := by omega
      have t2 : (p0 != p0) = false := by simp
      go_wp2
      go_quiet (fail)
      go_wp2
      go_roundw
      case rel => exact ⟨i + 1, by go_num, by omega, Lib.hid (HU.out.drewN _)⟩
      case measure => simp [intOf]; omega
    · go_wp2
      go_ret
      exact ⟨rfl, HU.out⟩
end Go.Proofs.YtflahclphdlolaaGreat
