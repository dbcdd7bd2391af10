/- Texts of this claim, one after the other. -/
import Derived.Test.YtflahclphdlolaaZESq
import Derived.Test.YtflahclphdlolaaZG0a
import Derived.Test.YtflahclphdlolaaZG2a
/- How a list of items, with the bounds of its numbers, is opened. -/
namespace Go.Proofs.Ytflahclphdlolaa
open Go.ChangeShapes Go.WideShapes Go.ChangeAt Go.RowKit Go.Joins Go.Deep

section
variable {H : Type} {enc : TypeId × Value → H} {w : World} {base : Nat} {spare : Nat → Bool} {held : Bool}
set_option maxRecDepth 100000 in
theorem cells_items2 {n : Nat} {cs : List Value} {x : DataW H × List MemPlace} (h : DataW.trod enc Try.prog w 0 (fun _ => true) held n 22 cs = some x) :
    ∃ (A : Option Addr) (len cap : Nat) (L : List It), cs = [.slice A len cap] ∧ len ≤ cap ∧ Sl w A len L ∧ InI L := by
  rcases open_slice_pairs Try.underlying22 Try.underlying39 item_cells rfl rfl int64_cells int64_cells h with ⟨hc, hx⟩ | ⟨a, len, cap, m, k, V0, V1, D0, D1, P0, P1, hc, _, hl, hm, hmm, hx, hall⟩
  · exact ⟨none, 0, 0, [], hc, Nat.le_refl _, Sl.none_, fun x hx => by cases hx⟩
  · simp only [if_true] at hmm
    subst hmm
    have each : ∀ i, i < m → ∃ z : It, w.cell? (a.add (i * 2)) = some (.int .i64 z.1) ∧ w.cell? (a.add (i * 2 + 1)) = some (.int .i64 z.2) ∧ In z.1 ∧ In z.2 := fun i hi => by
      obtain ⟨h1, h2, h3, h4⟩ := hall i hi
      obtain ⟨z0, e0, _, f0⟩ := DataW.trod_int Try.underlying2 h3
      obtain ⟨z1, e1, _, f1⟩ := DataW.trod_int Try.underlying2 h4
      simp at e0 e1
      exact ⟨(z0, z1), by rw [h1, e0], by rw [h2, e1], in_of_wf f0, in_of_wf f1⟩
    obtain ⟨z, hz⟩ := choose_lt each
    refine ⟨some a, len, m, (List.range len).map z, hc, hl, ⟨by simp, fun hn => ?_⟩, fun x hx => ?_⟩
    rotate_left
    · obtain ⟨j, hj, rfl⟩ := List.mem_map.1 hx
      have := hz j (by have := List.mem_range.1 hj; omega)
      exact this.2.2
    have hsp : a.spot = none := by
      have := World.cell?_spot (hz 0 (by omega)).1
      simpa [Addr.add] using this
    obtain ⟨b, o, s⟩ := a
    simp at hsp
    subst hsp
    refine ⟨b, o, rfl, fun j u hj => ?_⟩
    have hjl : j < len * 2 := by
      rcases Nat.lt_or_ge j (len * 2) with g | g
      · exact g
      · rw [List.getElem?_eq_none (by rw [fl_length]; simp; omega)] at hj; cases hj
    have hk : j / 2 < ((List.range len).map z).length := by simp; omega
    obtain ⟨c0, c1, _, _⟩ := hz (j / 2) (by omega)
    rw [add_at] at c0 c1
    rcases (by omega : j = j / 2 * 2 ∨ j = j / 2 * 2 + 1) with e | e
    · have := fl_get0 _ _ hk
      rw [← e, hj] at this
      rw [← e] at c0
      rw [c0, this]; simp
    · have := fl_get1 _ _ hk
      rw [← e, hj] at this
      rw [← e] at c1
      rw [c1, this]; simp
set_option maxRecDepth 100000 in
theorem open_item2 {r : Reach} {b0 : Nat} {v : Value} {d : DataW H} {p : List MemPlace} (hv : Value.okWide Try.prog w r b0 39 v) (h : DataW.Trod enc Try.prog w 0 (fun _ => true) held 39 v d p) :
    ∃ (x0 x1 : Int), v = .agg #[.int .i64 x0, .int .i64 x1] ∧ In x0 ∧ In x1 := by
  obtain ⟨v0, v1, y0, y1, n, rfl, _, _, h0, h1⟩ := open_agg2 Try.underlying39 (by kernel_rfl) item_cells hv h
  obtain ⟨c, ec, _, fc⟩ := DataW.trod_int Try.underlying2 h0
  obtain ⟨h', eh, _, fh⟩ := DataW.trod_int Try.underlying2 h1
  simp at ec eh
  subst ec eh
  exact ⟨c, h', rfl, in_of_wf fc, in_of_wf fh⟩
set_option maxRecDepth 100000 in
theorem open_items2 {r : Reach} {b0 : Nat} {v : Value} {d : DataW H} {p : List MemPlace} (hv : Value.okWide Try.prog w r b0 22 v) (h : DataW.Trod enc Try.prog w 0 (fun _ => true) held 22 v d p) :
    ∃ (n k : Nat) (A : Option Addr) (L : List It), v = .slice A n k ∧ n ≤ k ∧ Sl w A n L ∧ InI L := by
  obtain ⟨fuel, hf⟩ := h
  obtain ⟨A, len, cap, L, es, hl, hS, hI⟩ := cells_items2 hf
  obtain ⟨a, n, c, rfl⟩ := okWide_slice Try.underlying22 hv
  simp [Value.cells] at es
  obtain ⟨rfl, rfl, rfl⟩ := es
  exact ⟨_, _, _, L, rfl, hl, hS, hI⟩
end
end Go.Proofs.Ytflahclphdlolaa

/- What Rank, Below, Least, Greatest, Extreme and Few return. -/
namespace Go.Proofs.Ytflahclphdlolaa
open Go.RowKit

/-- How many values are at most v, and how many are less. -/
def rkN (v : Int) (L : List It) : Nat := L.countP (fun x => decide (x.2 ≤ v))
def blN (v : Int) (L : List It) : Nat := L.countP (fun x => decide (x.2 < v))
theorem rkN_le (v : Int) (L : List It) : rkN v L ≤ L.length := List.countP_le_length
theorem blN_le (v : Int) (L : List It) : blN v L ≤ L.length := List.countP_le_length
theorem rkN_take {L : List It} {i : Nat} (hi : i < L.length) (v : Int) : rkN v (L.take (i + 1)) = rkN v (L.take i) + (if (L.getD i (0, 0)).2 ≤ v then 1 else 0) := by
  unfold rkN
  rw [take_next hi, List.countP_append]
  by_cases h : (L.getD i (0, 0)).2 ≤ v <;> simp only [List.countP_cons, List.countP_nil, h, decide_true, decide_false, if_true, if_false, Bool.false_eq_true]
theorem blN_take {L : List It} {i : Nat} (hi : i < L.length) (v : Int) : blN v (L.take (i + 1)) = blN v (L.take i) + (if (L.getD i (0, 0)).2 < v then 1 else 0) := by
  unfold blN
  rw [take_next hi, List.countP_append]
  by_cases h : (L.getD i (0, 0)).2 < v <;> simp only [List.countP_cons, List.countP_nil, h, decide_true, decide_false, if_true, if_false, Bool.false_eq_true]

set_option maxHeartbeats 4000000 in
theorem rank_up (n k : Nat) (A : Option Addr) (L : List It) (v : Int) (hn : n ≤ 1000000) (w : World) (hS : Sl w A n L) :
    Calls Try.prog 59 #[.slice A n k, .int .i64 v] w fun e w' => e = .returned (.int .i64 (rkN v L : Nat)) ∧ Up w w' := by
  have HL := Lib.hid hS.1
  have HS := Lib.hid hS
  clear hS
  generalize hr : rkN v L = r
  have HR := Lib.hid hr
  clear hr
  go_enter Try.func59, Try.ntmps59
  go_wp2_with fail
  go_loopw [5, 10] (fun s t wr => ∃ i c : Nat, s = .int .i64 c ∧ t = .int .i64 i ∧ i ≤ n ∧ c ≤ i ∧ Hid (c = rkN v (L.take i)) ∧ Up w wr) (fun _ t _ => n - (intOf t).toNat)
  case atStart => exact ⟨0, 0, rfl, rfl, Nat.zero_le _, Nat.le_refl _, Lib.hid (by simp [rkN]), Up.refl _⟩
  case round =>
    obtain ⟨i, c, rfl, rfl, hin, hci, HN, hU⟩ := hrel
    have HU := Lib.hid hU
    clear hU
    by_cases hi : i < n
    · obtain ⟨b, o, rfl, d0, d1⟩ := (HS.out.up HU.out).at_ hi
      have HN1 := Lib.hid (rkN_take (L := L) (i := i) (by rw [HL.out]; exact hi) v)
      generalize (L.getD i (0, 0)).1 = p0 at *
      generalize (L.getD i (0, 0)).2 = p1 at *
      have f2 : (i : Int) < n := by omega
      have f3 : (0 : Int) ≤ i := by omega
      by_cases hx : p1 ≤ v
      · rw [if_pos hx] at HN1
        go_wp2_with fail
        go_roundw
        case rel => exact ⟨i + 1, c + 1, by go_num, by go_num, by omega, by omega, Lib.hid (by have h1 := HN1.out; have h2 := HN.out; omega), HU.out.alloc _ _⟩
        case measure => simp [intOf]; omega
      · rw [if_neg hx] at HN1
        go_wp2_with fail
        go_roundw
        case rel => exact ⟨i + 1, c, by go_num, by go_num, by omega, by omega, Lib.hid (by have h1 := HN1.out; have h2 := HN.out; omega), HU.out.alloc _ _⟩
        case measure => simp [intOf]; omega
    · obtain rfl : i = n := by omega
      obtain rfl : r = c := by rw [← HR.out, HN.out, List.take_of_length_le (by rw [HL.out]; exact Nat.le_refl _)]
      clear HR
      go_wp2_with fail
      go_ret
      exact ⟨rfl, HU.out⟩
set_option maxHeartbeats 4000000 in
theorem rrank_up (n k : Nat) (A : Option Addr) (L : List It) (v : Int) (hn : n ≤ 1000000) (w : World) (hS : Sl w A n L) :
    Calls Try.prog 27 #[.slice A n k, .int .i64 v] w fun e w' => e = .returned (.int .i64 (rkN v L : Nat)) ∧ Up w w' := by
  have HL := Lib.hid hS.1
  have HS := Lib.hid hS
  clear hS
  generalize hr : rkN v L = r
  have HR := Lib.hid hr
  clear hr
  go_enter Try.func27, Try.ntmps27
  go_wp2_with fail
  go_loopw [5, 10] (fun s t wr => ∃ i c : Nat, s = .int .i64 c ∧ t = .int .i64 i ∧ i ≤ n ∧ c ≤ i ∧ Hid (c = rkN v (L.take i)) ∧ Up w wr) (fun _ t _ => n - (intOf t).toNat)
  case atStart => exact ⟨0, 0, rfl, rfl, Nat.zero_le _, Nat.le_refl _, Lib.hid (by simp [rkN]), Up.refl _⟩
  case round =>
    obtain ⟨i, c, rfl, rfl, hin, hci, HN, hU⟩ := hrel
    have HU := Lib.hid hU
    clear hU
    by_cases hi : i < n
    · obtain ⟨b, o, rfl, d0, d1⟩ := (HS.out.up HU.out).at_ hi
      have HN1 := Lib.hid (rkN_take (L := L) (i := i) (by rw [HL.out]; exact hi) v)
      generalize (L.getD i (0, 0)).1 = p0 at *
      generalize (L.getD i (0, 0)).2 = p1 at *
      have f2 : (i : Int) < n := by omega
      have f3 : (0 : Int) ≤ i := by omega
      by_cases hx : p1 ≤ v
      · rw [if_pos hx] at HN1
        go_wp2_with fail
        go_roundw
        case rel => exact ⟨i + 1, c + 1, by go_num, by go_num, by omega, by omega, Lib.hid (by have h1 := HN1.out; have h2 := HN.out; omega), HU.out.alloc _ _⟩
        case measure => simp [intOf]; omega
      · rw [if_neg hx] at HN1
        go_wp2_with fail
        go_roundw
        case rel => exact ⟨i + 1, c, by go_num, by go_num, by omega, by omega, Lib.hid (by have h1 := HN1.out; have h2 := HN.out; omega), HU.out.alloc _ _⟩
        case measure => simp [intOf]; omega
    · obtain rfl : i = n := by omega
      obtain rfl : r = c := by rw [← HR.out, HN.out, List.take_of_length_le (by rw [HL.out]; exact Nat.le_refl _)]
      clear HR
      go_wp2_with fail
      go_ret
      exact ⟨rfl, HU.out⟩
/-- The least and the greatest value so far, from x on. -/
def leZ (x : Int) (L : List It) : Int := L.foldl (fun a y => min a y.2) x
def grZ (x : Int) (L : List It) : Int := L.foldl (fun a y => max a y.2) x
theorem leZ_take {L : List It} {i : Nat} (hi : i < L.length) (x : Int) : leZ x (L.take (i + 1)) = min (leZ x (L.take i)) (L.getD i (0, 0)).2 := by
  unfold leZ; rw [take_next hi, List.foldl_append]; rfl
theorem grZ_take {L : List It} {i : Nat} (hi : i < L.length) (x : Int) : grZ x (L.take (i + 1)) = max (grZ x (L.take i)) (L.getD i (0, 0)).2 := by
  unfold grZ; rw [take_next hi, List.foldl_append]; rfl
/-- What Least and Greatest return. -/
def leE (L : List It) : Ending := if L = [] then got 0 false else got (leZ (L.getD 0 (0, 0)).2 L) true
def grE (L : List It) : Ending := if L = [] then got 0 false else got (grZ (L.getD 0 (0, 0)).2 L) true

set_option maxHeartbeats 4000000 in
theorem least_up (n k : Nat) (A : Option Addr) (L : List It) (hn : n ≤ 1000000) (w : World) (hS : Sl w A n L) :
    Calls Try.prog 79 #[.slice A n k] w fun e w' => e = leE L ∧ Up w w' := by
  by_cases h0 : n = 0
  · subst h0
    have : L = [] := List.length_eq_zero_iff.1 hS.1
    unfold leE
    rw [if_pos this]
    clear hS this
    go_enter Try.func79, Try.ntmps79
    go_wp2_with fail
    go_ret2
    exact ⟨rfl, Up.refl _⟩
  have e : leE L = got (leZ (L.getD 0 (0, 0)).2 L) true := by unfold leE; rw [if_neg (fun h => h0 (by rw [← hS.1, h]; rfl))]
  rw [e]
  clear e
  obtain ⟨b, o, rfl, d0, d1⟩ := hS.at_ (show 0 < n by omega)
  have HL := Lib.hid hS.1
  have HS := Lib.hid hS
  have t0 : ((n : Int) == 0) = false := by simp; omega
  have t1 : (0 : Int) < n := by omega
  generalize (L.getD 0 (0, 0)).2 = x at *
  generalize (L.getD 0 (0, 0)).1 = x' at *
  simp only [Nat.zero_mul, Nat.add_zero] at d0 d1
  clear hS
  generalize hr : leZ x L = r
  have HR := Lib.hid hr
  clear hr h0
  go_enter Try.func79, Try.ntmps79
  go_wp2_with fail
  go_loopw [4, 16] (fun s t wr => ∃ (i : Nat) (c : Int), s = .int .i64 c ∧ t = .int .i64 i ∧ i ≤ n ∧ Hid (c = leZ x (L.take i)) ∧ Up w wr) (fun _ t _ => n - (intOf t).toNat)
  case atStart => exact ⟨0, x, rfl, rfl, Nat.zero_le _, Lib.hid (by simp [leZ]), Up.refl _⟩
  case round =>
    obtain ⟨i, c, rfl, rfl, hin, HN, hU⟩ := hrel
    have HU := Lib.hid hU
    clear hU
    by_cases hi : i < n
    · obtain ⟨b2, o2, hbo, d2, d3⟩ := (HS.out.up HU.out).at_ hi
      cases hbo
      have HN1 := Lib.hid (leZ_take (L := L) (i := i) (by rw [HL.out]; exact hi) x)
      generalize (L.getD i (0, 0)).1 = p0 at *
      generalize (L.getD i (0, 0)).2 = p1 at *
      have f2 : (i : Int) < n := by omega
      have f3 : (0 : Int) ≤ i := by omega
      clear d0 d1
      obtain ⟨m, hm⟩ : ∃ m, m = min c p1 := ⟨_, rfl⟩
      have HM : Hid (m = leZ x (L.take (i + 1))) := Lib.hid (by rw [HN1.out, hm, HN.out])
      have HMM := Lib.hid hm
      clear HN1 HN hm
      go_wp2_with fail
      all_goals
        go_roundw
        case rel => exact ⟨i + 1, m, by rw [HMM.out]; first | rfl | (congr 1; omega), by go_num, by omega, HM, HU.out.alloc _ _⟩
        case measure => simp [intOf]; omega
    · obtain rfl : i = n := by omega
      obtain rfl : r = c := by rw [← HR.out, HN.out, List.take_of_length_le (by rw [HL.out]; exact Nat.le_refl _)]
      clear HR
      go_wp2_with fail
      go_ret2
      exact ⟨rfl, HU.out⟩
set_option maxHeartbeats 4000000 in
theorem greatest_up (n k : Nat) (A : Option Addr) (L : List It) (hn : n ≤ 1000000) (w : World) (hS : Sl w A n L) :
    Calls Try.prog 80 #[.slice A n k] w fun e w' => e = grE L ∧ Up w w' := by
  by_cases h0 : n = 0
  · subst h0
    have : L = [] := List.length_eq_zero_iff.1 hS.1
    unfold grE
    rw [if_pos this]
    clear hS this
    go_enter Try.func80, Try.ntmps80
    go_wp2_with fail
    go_ret2
    exact ⟨rfl, Up.refl _⟩
  have e : grE L = got (grZ (L.getD 0 (0, 0)).2 L) true := by unfold grE; rw [if_neg (fun h => h0 (by rw [← hS.1, h]; rfl))]
  rw [e]
  clear e
  obtain ⟨b, o, rfl, d0, d1⟩ := hS.at_ (show 0 < n by omega)
  have HL := Lib.hid hS.1
  have HS := Lib.hid hS
  have t0 : ((n : Int) == 0) = false := by simp; omega
  have t1 : (0 : Int) < n := by omega
  generalize (L.getD 0 (0, 0)).2 = x at *
  generalize (L.getD 0 (0, 0)).1 = x' at *
  simp only [Nat.zero_mul, Nat.add_zero] at d0 d1
  clear hS
  generalize hr : grZ x L = r
  have HR := Lib.hid hr
  clear hr h0
  go_enter Try.func80, Try.ntmps80
  go_wp2_with fail
  go_loopw [4, 16] (fun s t wr => ∃ (i : Nat) (c : Int), s = .int .i64 c ∧ t = .int .i64 i ∧ i ≤ n ∧ Hid (c = grZ x (L.take i)) ∧ Up w wr) (fun _ t _ => n - (intOf t).toNat)
  case atStart => exact ⟨0, x, rfl, rfl, Nat.zero_le _, Lib.hid (by simp [grZ]), Up.refl _⟩
  case round =>
    obtain ⟨i, c, rfl, rfl, hin, HN, hU⟩ := hrel
    have HU := Lib.hid hU
    clear hU
    by_cases hi : i < n
    · obtain ⟨b2, o2, hbo, d2, d3⟩ := (HS.out.up HU.out).at_ hi
      cases hbo
      have HN1 := Lib.hid (grZ_take (L := L) (i := i) (by rw [HL.out]; exact hi) x)
      generalize (L.getD i (0, 0)).1 = p0 at *
      generalize (L.getD i (0, 0)).2 = p1 at *
      have f2 : (i : Int) < n := by omega
      have f3 : (0 : Int) ≤ i := by omega
      clear d0 d1
      obtain ⟨m, hm⟩ : ∃ m, m = max c p1 := ⟨_, rfl⟩
      have HM : Hid (m = grZ x (L.take (i + 1))) := Lib.hid (by rw [HN1.out, hm, HN.out])
      have HMM := Lib.hid hm
      clear HN1 HN hm
      go_wp2_with fail
      all_goals
        go_roundw
        case rel => exact ⟨i + 1, m, by rw [HMM.out]; first | rfl | (congr 1; omega), by go_num, by omega, HM, HU.out.alloc _ _⟩
        case measure => simp [intOf]; omega
    · obtain rfl : i = n := by omega
      obtain rfl : r = c := by rw [← HR.out, HN.out, List.take_of_length_le (by rw [HL.out]; exact Nat.le_refl _)]
      clear HR
      go_wp2_with fail
      go_ret2
      exact ⟨rfl, HU.out⟩

end Go.Proofs.Ytflahclphdlolaa
