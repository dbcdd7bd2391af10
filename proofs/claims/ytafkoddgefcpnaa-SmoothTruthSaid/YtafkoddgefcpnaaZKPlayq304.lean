/- What a variable with a smooth histogram holds, while streams are played. -/
import Derived.Test.YtafkoddgefcpnaaRows
import Derived.Test.YtafkoddgefcpnaaZBWithinq300
import Derived.Test.YtafkoddgefcpnaaZKAskq245
import Derived.Test.YtafkoddgefcpnaaZKNewq196
import Derived.Test.YtafkoddgefcpnaaZKPlayq302
import Derived.Test.YtafkoddgefcpnaaZKTruq290
namespace Go.Proofs.Ytafkoddgefcpnaa
open Go.RowKit
set_option linter.unusedVariables false

section
variable {g v q c now : Int} {X : List Mrk} {M : List It}
theorem Sm.few (h : Sm g v q c now X M) : (X.length : Int) ≤ mostZ g q c := by
  obtain ⟨hm, hl, P, rfl, hs⟩ := h
  rw [List.length_map]
  exact Sv.few hs (mayC_true hm).2 (mayC_facts hm).2.2.1
theorem Sm.mem (h : Sm g v q c now X M) : ∀ x ∈ M, (0 ≤ x.1 ∧ x.1 ≤ now) ∧ valG g x.2 := by
  obtain ⟨hm, hl, P, rfl, hs⟩ := h
  exact fun x hx => ⟨hs.rg x hx, hs.vals x hx⟩
theorem Sm.truth (h : Sm g v q c now X M) : (asM g now v X).1 ≤ agZ g ((mlL M now v).map (fun x => x.2)) ∧ agZ g ((mlL M now v).map (fun x => x.2)) ≤ (asM g now v X).2 ∧ q * ((asM g now v X).2 - (asM g now v X).1) ≤ (asM g now v X).1 ∧ 0 ≤ (asM g now v X).1 ∧ (asM g now v X).2 ≤ 1099511627776 := by
  obtain ⟨hm, hl, P, rfl, hs⟩ := h
  rw [hs.as_map hm, mlL_sv hs]
  obtain ⟨a, b, d, e⟩ := Sv.truth hs
  refine ⟨a, b, d, e, ?_⟩
  have ht := (topG_bd hs.g1 (mayC_facts hm).2.2.1).2
  have key : ∀ p, P.head? = some p → agP g M p ≤ topG g c := fun p hp => ag_top hs.g1 (vlF_val hs.vals p) (by have := hs.cap p hp; have := hs.c1; rw [vlF_len]; omega)
  cases P with
  | nil => show (0 : Int) ≤ _; omega
  | cons p R =>
    have k1 := key p rfl
    simp only [askP]
    split
    · exact Int.le_trans k1 ht
    · cases R with
      | nil => show (0 : Int) ≤ _; omega
      | cons p2 R =>
        have k2 : agP g M p2 ≤ agP g M p := agP_mono hs.g1 hs.vals (by have := (List.pairwise_cons.1 hs.up).1 p2 List.mem_cons_self; omega)
        simp only
        split
        · show agP g M p2 ≤ _; omega
        · show agP g M p ≤ _; omega
end
theorem ho_one {a m b n : Int} (h : bvB a 1 m 1 b 1 = true) (h1 : a ≤ n) (h2 : n ≤ b) : hoB a 1 m 1 b 1 n 1 = true := by
  unfold hoB
  rw [h, valid_one, decide_eq_true ((le_of_cmpR (valid_one a) (valid_one n)).2 (by omega)), decide_eq_true ((le_of_cmpR (valid_one n) (valid_one b)).2 (by omega))]
  rfl
theorem wi_one {a m b n q : Int} (h : bvB a 1 m 1 b 1 = true) (h1 : 1 ≤ q) (h2 : 0 ≤ n) (h3 : q * (b - a) ≤ n) : wiB a 1 m 1 b 1 q n 1 = true := by
  rw [wiB_main h h1 (valid_one _) h2]
  refine decide_eq_true ?_
  unfold wdZ
  rw [Int.mul_one, Int.mul_one, Int.mul_one, Int.mul_one, Int.one_mul, Int.mul_comm]
  exact h3
theorem mid_in {a b : Int} (h : a ≤ b) : a ≤ mid a b ∧ mid a b ≤ b := by
  unfold mid; omega
theorem bv_one {a b : Int} (h : a ≤ b) : bvB a 1 (mid a b) 1 b 1 = true := bvB_mk (valid_one _) (valid_one _) (valid_one _) ((le_of_cmpR (valid_one _) (valid_one _)).2 (by have := (mid_in h).1; omega)) ((le_of_cmpR (valid_one _) (valid_one _)).2 (by have := (mid_in h).2; omega))
theorem akM_yes {p : Int × Int} (h : p.1 ≤ p.2) : akM true p = .tuple #[.agg #[.int .i64 p.1, .int .i64 1, .int .i64 (mid p.1 p.2), .int .i64 1, .int .i64 p.2, .int .i64 1], .int .i64 0] := by
  unfold akM bV
  rw [decide_eq_true h]
  rfl
theorem Own.put7 {w0 w : World} {v : Value} {n p : Nat} {L : List It} (h : Own w0 w v n L) (hp : ∀ b o k, v = .slice (some ⟨b, o, none⟩) n k → b ≠ p) (y0 y1 y2 y3 y4 y5 y6 : Value) : Own w0 (((((((w.setCell ⟨p, 0, none⟩ (y0)).setCell ⟨p, 1, none⟩ (y1)).setCell ⟨p, 2, none⟩ (y2)).setCell ⟨p, 3, none⟩ (y3)).setCell ⟨p, 4, none⟩ (y4)).setCell ⟨p, 5, none⟩ (y5)).setCell ⟨p, 6, none⟩ (y6)) v n L := by
  refine ⟨h.1, ?_⟩
  rcases h.2 with h0 | ⟨g, cap, cur, h5, h6, h7, h8⟩
  · exact Or.inl h0
  · have hg : g ≠ p := hp g 0 cap h5
    refine Or.inr ⟨g, cap, cur, h5, h6, ?_, h8⟩
    exact ((((((Blk.far (t := 51) h7 hg _).far hg _).far hg _).far hg _).far hg _).far hg _).far hg _
theorem keepM9 {w w1 w2 : World} {b0 o0 b1 o1 b2 o2 b3 o3 b4 o4 b5 o5 b6 o6 b7 o7 b8 o8 : Nat} {x0 x1 x2 x3 x4 x5 x6 x7 x8 : Value} (hu : Hid (Up w1 w2)) (h : Up w w1 ∧ w1.cell? ⟨b0, o0, none⟩ = some x0 ∧ w1.cell? ⟨b1, o1, none⟩ = some x1 ∧ w1.cell? ⟨b2, o2, none⟩ = some x2 ∧ w1.cell? ⟨b3, o3, none⟩ = some x3 ∧ w1.cell? ⟨b4, o4, none⟩ = some x4 ∧ w1.cell? ⟨b5, o5, none⟩ = some x5 ∧ w1.cell? ⟨b6, o6, none⟩ = some x6 ∧ w1.cell? ⟨b7, o7, none⟩ = some x7 ∧ w1.cell? ⟨b8, o8, none⟩ = some x8) : Up w w2 ∧ w2.cell? ⟨b0, o0, none⟩ = some x0 ∧ w2.cell? ⟨b1, o1, none⟩ = some x1 ∧ w2.cell? ⟨b2, o2, none⟩ = some x2 ∧ w2.cell? ⟨b3, o3, none⟩ = some x3 ∧ w2.cell? ⟨b4, o4, none⟩ = some x4 ∧ w2.cell? ⟨b5, o5, none⟩ = some x5 ∧ w2.cell? ⟨b6, o6, none⟩ = some x6 ∧ w2.cell? ⟨b7, o7, none⟩ = some x7 ∧ w2.cell? ⟨b8, o8, none⟩ = some x8 :=
  ⟨h.1.trans hu.out, hu.out.keep _ _ _ h.2.1, hu.out.keep _ _ _ h.2.2.1, hu.out.keep _ _ _ h.2.2.2.1, hu.out.keep _ _ _ h.2.2.2.2.1, hu.out.keep _ _ _ h.2.2.2.2.2.1, hu.out.keep _ _ _ h.2.2.2.2.2.2.1, hu.out.keep _ _ _ h.2.2.2.2.2.2.2.1, hu.out.keep _ _ _ h.2.2.2.2.2.2.2.2.1, hu.out.keep _ _ _ h.2.2.2.2.2.2.2.2.2⟩
theorem setM9 {w w1 : World} {b0 o0 b1 o1 b2 o2 b3 o3 b4 o4 b5 o5 b6 o6 b7 o7 b8 o8 g o : Nat} {x0 x1 x2 x3 x4 x5 x6 x7 x8 v : Value} (h : Up w w1 ∧ w1.cell? ⟨b0, o0, none⟩ = some x0 ∧ w1.cell? ⟨b1, o1, none⟩ = some x1 ∧ w1.cell? ⟨b2, o2, none⟩ = some x2 ∧ w1.cell? ⟨b3, o3, none⟩ = some x3 ∧ w1.cell? ⟨b4, o4, none⟩ = some x4 ∧ w1.cell? ⟨b5, o5, none⟩ = some x5 ∧ w1.cell? ⟨b6, o6, none⟩ = some x6 ∧ w1.cell? ⟨b7, o7, none⟩ = some x7 ∧ w1.cell? ⟨b8, o8, none⟩ = some x8) (hg : w.heap.size ≤ g) (n0 : g ≠ b0) (n1 : g ≠ b1) (n2 : g ≠ b2) (n3 : g ≠ b3) (n4 : g ≠ b4) (n5 : g ≠ b5) (n6 : g ≠ b6) (n7 : g ≠ b7) (n8 : g ≠ b8) : Up w (w1.setCell ⟨g, o, none⟩ v) ∧ (w1.setCell ⟨g, o, none⟩ v).cell? ⟨b0, o0, none⟩ = some x0 ∧ (w1.setCell ⟨g, o, none⟩ v).cell? ⟨b1, o1, none⟩ = some x1 ∧ (w1.setCell ⟨g, o, none⟩ v).cell? ⟨b2, o2, none⟩ = some x2 ∧ (w1.setCell ⟨g, o, none⟩ v).cell? ⟨b3, o3, none⟩ = some x3 ∧ (w1.setCell ⟨g, o, none⟩ v).cell? ⟨b4, o4, none⟩ = some x4 ∧ (w1.setCell ⟨g, o, none⟩ v).cell? ⟨b5, o5, none⟩ = some x5 ∧ (w1.setCell ⟨g, o, none⟩ v).cell? ⟨b6, o6, none⟩ = some x6 ∧ (w1.setCell ⟨g, o, none⟩ v).cell? ⟨b7, o7, none⟩ = some x7 ∧ (w1.setCell ⟨g, o, none⟩ v).cell? ⟨b8, o8, none⟩ = some x8 :=
  ⟨h.1.setCell hg _, (cell_far n0).trans h.2.1, (cell_far n1).trans h.2.2.1, (cell_far n2).trans h.2.2.2.1, (cell_far n3).trans h.2.2.2.2.1, (cell_far n4).trans h.2.2.2.2.2.1, (cell_far n5).trans h.2.2.2.2.2.2.1, (cell_far n6).trans h.2.2.2.2.2.2.2.1, (cell_far n7).trans h.2.2.2.2.2.2.2.2.1, (cell_far n8).trans h.2.2.2.2.2.2.2.2.2⟩
/-- Where the loop of SmoothTruth is, ahead of the item at place i. -/
def RnM (w wr : World) (p s : Nat) (g v q c : Int) (Am : Option Addr) (nm : Nat) (M0 : List It) (z : Int) (i : Nat) (sv : Value) : Prop :=
  ∃ (now : Int) (X : List Mrk) (M : List It) (A1 B : Option Addr) (k1 kb : Nat), sv = .slice B M.length kb ∧ Own w wr (.slice B M.length kb) M.length M ∧ Ge s B ∧ Vm wr p g v q c now M.length X A1 k1 ∧ Sm g v q c now X M ∧ M.length ≤ i ∧ (i < nm → now ≤ (M0.getD i (0, 0)).1) ∧ (0 ≤ now ∧ now ≤ z) ∧ Sl wr Am nm M0 ∧ Up w wr ∧ s ≤ wr.heap.size
end Go.Proofs.Ytafkoddgefcpnaa
