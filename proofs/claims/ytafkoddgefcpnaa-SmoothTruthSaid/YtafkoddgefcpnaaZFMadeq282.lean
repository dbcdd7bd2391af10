/- Texts of these claims, one after the other. -/
import Derived.Test.YtafkoddgefcpnaaRows
import Derived.Test.YtafkoddgefcpnaaZIAppq120
import Derived.Test.YtafkoddgefcpnaaZKPruq168
namespace Go.Proofs.Ytafkoddgefcpnaa
open Go.RowKit

/-- The items in the window, by the verifier's own function. -/
def mlL (L : List It) (now v : Int) : List It := L.filter (fun x => decide (now - v < x.1) && decide (x.1 ≤ now))
theorem mlL_take {L : List It} {i : Nat} (hi : i < L.length) (now v : Int) : mlL (L.take (i + 1)) now v = mlL (L.take i) now v ++ (if (decide (now - v < (L.getD i (0, 0)).1) && decide ((L.getD i (0, 0)).1 ≤ now)) = true then [L.getD i (0, 0)] else []) := by
  unfold mlL; rw [take_next hi, List.filter_append]
  by_cases h : (decide (now - v < (L.getD i (0, 0)).1) && decide ((L.getD i (0, 0)).1 ≤ now)) = true
  · rw [if_pos h, List.filter_cons, if_pos h]; rfl
  · rw [if_neg h, List.filter_cons, if_neg h]; rfl

end Go.Proofs.Ytafkoddgefcpnaa

namespace Go.Proofs.Ytafkoddgefcpnaa

theorem bitsZ_lt : ∀ (m : Nat) (n : Int), n.toNat ≤ m → 0 ≤ n → n < ((2 ^ (bitsZ n).toNat : Nat) : Int) := by
  intro m
  induction m with
  | zero => intro n h h0; obtain rfl : n = 0 := by omega
            decide
  | succ m ih =>
    intro n h h0
    rcases Int.lt_or_le 0 n with hp | hp
    · have h1 := ih (n / 2) (by omega) (by omega)
      have h2 := (bitsZ_bound (n / 2)).1
      rw [bitsZ_step n hp, show (bitsZ (n / 2) + 1).toNat = (bitsZ (n / 2)).toNat + 1 by omega, Nat.pow_succ]
      generalize 2 ^ (bitsZ (n / 2)).toNat = y at *
      omega
    · obtain rfl : n = 0 := by omega
      decide
theorem topG_nn {g c : Int} (hc : 1 ≤ c) : 0 ≤ topG g c := by
  unfold topG
  repeat' split
  all_goals omega
/-- No more marks than Most says. -/
theorem Sv.few {g w k c now : Int} {P : List Nat} {I : List It} (h : Sv g w k c now P I) (hk : 1 ≤ k ∧ k ≤ 64) (hc : 1 ≤ c ∧ c ≤ 65536) : (P.length : Int) ≤ mostZ g k c := by
  have e : mostZ g k c = 2 * k * bitsZ (topG g c) + 2 := if_pos ⟨decide_eq_true h.g1, hk, hc⟩
  have h1 := few_ch3 (f := agP g I) (k := k.toNat) (by omega) (bitsZ (topG g c)).toNat P (by
    rw [show ((k.toNat : Nat) : Int) = k by omega]; exact h.far) (fun p _ => agP_nn h.g1 h.vals p) (fun a ha => by
      have h2 : agP g I a ≤ topG g c := ag_top h.g1 (vlF_val h.vals a) (by have := h.cap a ha; rw [vlF_len]; omega)
      exact Int.lt_of_le_of_lt h2 (bitsZ_lt _ _ (Nat.le_refl _) (topG_nn hc.1)))
  have h3 := (bitsZ_bound (topG g c)).1
  rw [e]
  generalize bitsZ (topG g c) = y at *
  have h4 : (2 * k.toNat * y.toNat : Nat) = (2 * k.toNat * y.toNat : Nat) := rfl
  have h5 : ((2 * k.toNat * y.toNat + 2 : Nat) : Int) = 2 * k * y + 2 := by
    rw [Int.natCast_add, Int.natCast_mul, Int.natCast_mul, show ((k.toNat : Nat) : Int) = k by omega, show ((y.toNat : Nat) : Int) = y by omega]; rfl
  omega
theorem leZ_mn : ∀ (L : List It) (x : Int), leZ x L = mnL (x :: L.map (fun y => y.2)) := by
  intro L
  induction L with
  | nil => intro x; rfl
  | cons a L ih =>
    intro x
    show leZ (min x a.2) L = _
    rw [ih]
    cases L with
    | nil => rfl
    | cons b L =>
      simp only [List.map_cons]
      rw [mnL_cons x (by simp), mnL_cons a.2 (by simp), mnL_cons (min x a.2) (by simp)]
      omega
theorem grZ_mx : ∀ (L : List It) (x : Int), grZ x L = mxL (x :: L.map (fun y => y.2)) := by
  intro L
  induction L with
  | nil => intro x; rfl
  | cons a L ih =>
    intro x
    show grZ (max x a.2) L = _
    rw [ih]
    cases L with
    | nil => rfl
    | cons b L =>
      simp only [List.map_cons]
      rw [mxL_cons x (by simp), mxL_cons a.2 (by simp), mxL_cons (max x a.2) (by simp)]
      omega
theorem leZ_list {L : List It} (h : L ≠ []) : leZ (L.getD 0 (0, 0)).2 L = mnL (L.map (fun y => y.2)) := by
  cases L with
  | nil => exact absurd rfl h
  | cons a L =>
    show leZ (min a.2 a.2) L = mnL (a.2 :: L.map (fun y => y.2))
    rw [show min a.2 a.2 = a.2 by omega, leZ_mn]
theorem grZ_list {L : List It} (h : L ≠ []) : grZ (L.getD 0 (0, 0)).2 L = mxL (L.map (fun y => y.2)) := by
  cases L with
  | nil => exact absurd rfl h
  | cons a L =>
    show grZ (max a.2 a.2) L = mxL (a.2 :: L.map (fun y => y.2))
    rw [show max a.2 a.2 = a.2 by omega, grZ_mx]
/-- The live items as the laws take them. -/
theorem mlL_sv {nr : List It → Nat → Nat → Prop} {cl : List It → Nat → Nat → Bool} {g w c now : Int} {P : List Nat} {I : List It} (h : SnM nr cl g w c now P I) : mlL I now w = I.filter (fun x => decide (now - w < x.1)) := by
  unfold mlL
  refine List.filter_congr (fun x hx => ?_)
  rw [decide_eq_true (h.rg x hx).2, Bool.and_true]
theorem suL_push (A : List Int) (x : Int) : suL (A ++ [x]) = suL A + x := by rw [suL_app]; simp [suL]
theorem sqL_push (A : List Int) (x : Int) : sqL (A ++ [x]) = sqL A + x * x := by rw [sqL_app]; simp [sqL]
theorem tr_take {M : List It} {i : Nat} (h : i < M.length) : (M.take (i + 1)).map (fun x => x.2) = (M.take i).map (fun x => x.2) ++ [(M.getD i (0, 0)).2] := by
  rw [take_next h, List.map_append]; rfl
theorem tr_bd {M : List It} (h : ∀ x ∈ M, -4096 ≤ x.2 ∧ x.2 ≤ 4096) (i : Nat) : (((M.take i).map (fun x => x.2)).length : Int) ≤ M.length ∧ (-4096 * (M.length : Int) ≤ suL ((M.take i).map (fun x => x.2)) ∧ suL ((M.take i).map (fun x => x.2)) ≤ 4096 * (M.length : Int)) ∧ 0 ≤ sqL ((M.take i).map (fun x => x.2)) ∧ sqL ((M.take i).map (fun x => x.2)) ≤ 16777216 * (M.length : Int) := by
  have hb : ∀ x ∈ (M.take i).map (fun x => x.2), -4096 ≤ x ∧ x ≤ 4096 := fun x hx => by
    obtain ⟨y, hy, rfl⟩ := List.mem_map.1 hx
    exact h y (List.mem_of_mem_take hy)
  have hl : (((M.take i).map (fun x => x.2)).length : Int) ≤ M.length := by
    rw [List.length_map, List.length_take]; omega
  have h1 := suL_ge (fun x hx => (hb x hx).1)
  have h2 := suL_le (fun x hx => (hb x hx).2)
  have h3 := sqL_le (A := (M.take i).map (fun x => x.2)) (m := 4096) (fun x hx => hb x hx)
  have h4 := sqL_nn ((M.take i).map (fun x => x.2))
  exact ⟨hl, ⟨by omega, by omega⟩, h4, by omega⟩
end Go.Proofs.Ytafkoddgefcpnaa

namespace Go.Proofs.Ytafkoddgefcpnaa
open Go.RowKit
set_option linter.unusedVariables false

set_option maxHeartbeats 4000000 in
set_option maxRecDepth 100000 in
theorem mliveI_up (n k : Nat) (A : Option Addr) (L : List It) (now v : Int) (hn : n ≤ 100000) (h0 : 0 ≤ now) (h1 : now ≤ 100000) (h2 : 1 ≤ v) (h3 : v ≤ 25) (w : World) (hS : Sl w A n L) :
    Calls Try.prog 36 #[.slice A n k, .int .i64 now, .int .i64 v] w fun e w' => ∃ A' n' k', e = .returned (.slice A' n' k') ∧ n' ≤ n ∧ Own w w' (.slice A' n' k') n' (mlL L now v) ∧ Up w w' := by
  have HL := Lib.hid hS.1
  have HS := Lib.hid hS
  clear hS
  have k2 : IntKind.i64.wrap (now - v) = now - v := IntWalk.i64_in _ (by omega)
  go_enter Try.func36, Try.ntmps36
  go_wp2_with fail
  go_loopw [7, 12] (fun s t wr => ∃ (i c : Nat) (A1 : Option Addr) (k1 : Nat), s = .slice A1 c k1 ∧ t = .int .i64 i ∧ i ≤ n ∧ c ≤ i ∧ Own w wr (.slice A1 c k1) c (mlL (L.take i) now v) ∧ Up w wr) (fun _ t _ => n - (intOf t).toNat)
  case atStart => exact ⟨0, 0, none, 0, rfl, rfl, Nat.zero_le _, Nat.le_refl _, Own.nil _ _, Up.refl _⟩
  case round =>
    obtain ⟨i, c, A1, k1, rfl, rfl, hin, hci, hO, hU⟩ := hrel
    have HU := Lib.hid hU
    have HO := Lib.hid hO
    clear hU hO
    by_cases hi : i < n
    · obtain ⟨b, o, rfl, d0, d1⟩ := (HS.out.up HU.out).at_ hi
      have HN1 := Lib.hid (mlL_take (L := L) (i := i) (by rw [HL.out]; exact hi) now v)
      have hp : L.getD i (0, 0) = ((L.getD i (0, 0)).1, (L.getD i (0, 0)).2) := rfl
      rw [hp] at HN1
      generalize (L.getD i (0, 0)).1 = p0 at *
      generalize (L.getD i (0, 0)).2 = p1 at *
      have f2 : (i : Int) < n := by omega
      have f3 : (0 : Int) ≤ i := by omega
      clear hp
      by_cases hx : now - v < p0 ∧ p0 ≤ now
      · have HM : Hid (mlL (L.take (i + 1)) now v = mlL (L.take i) now v ++ [(p0, p1)]) := Lib.hid (by rw [HN1.out, if_pos (by simp only [Bool.and_eq_true, decide_eq_true_eq]; exact hx)])
        have t1 : decide (now - v < p0) = true := decide_eq_true hx.1
        have t2 : decide (p0 ≤ now) = true := decide_eq_true hx.2
        clear HN1 hx
        obtain ⟨A2, k2, w2, hr, ho, hu⟩ := append1I_run 45 w (wr.alloc (.cells #[.int .i64 p0, .int .i64 p1] 51)) A1 c k1 _ p0 p1 (HO.out.of_up ((Up.refl _).alloc _ _)) (HU.out.alloc _ _) (by omega)
        rw [← HM.out] at ho
        rw [size_alloc] at hr
        have HO2 := Lib.hid ho
        have HU2 := Lib.hid hu
        clear ho hu HM
        go_wp2_with (refine wpList_append_run (o := ⟨some 31, _, _, _, _, _⟩) rfl (.tmp 28) (.tmp 30) _ rfl _ _ rfl rfl _ _ hr ?_)
        go_roundw
        case rel => exact ⟨i + 1, c + 1, _, _, rfl, by go_num, by omega, by omega, HO2.out, HU2.out⟩
        case measure => simp [intOf]; omega
      · have HM : Hid (mlL (L.take (i + 1)) now v = mlL (L.take i) now v) := Lib.hid (by rw [HN1.out, if_neg (by simp only [Bool.and_eq_true, decide_eq_true_eq]; exact hx), List.append_nil])
        clear HN1
        by_cases h1 : now - v < p0
        · have t1 : decide (now - v < p0) = true := decide_eq_true h1
          have t2 : decide (p0 ≤ now) = false := decide_eq_false (fun h => hx ⟨h1, h⟩)
          clear hx h1
          go_wp2_with fail
          go_roundw
          case rel => exact ⟨i + 1, c, _, _, rfl, by go_num, by omega, by omega, by rw [HM.out]; exact HO.out.of_up ((Up.refl _).alloc _ _), HU.out.alloc _ _⟩
          case measure => simp [intOf]; omega
        · have t1 : decide (now - v < p0) = false := decide_eq_false h1
          clear hx h1
          go_wp2_with fail
          go_roundw
          case rel => exact ⟨i + 1, c, _, _, rfl, by go_num, by omega, by omega, by rw [HM.out]; exact HO.out.of_up ((Up.refl _).alloc _ _), HU.out.alloc _ _⟩
          case measure => simp [intOf]; omega
    · obtain rfl : i = n := by omega
      have ht : L.take i = L := List.take_of_length_le (by rw [HL.out]; exact Nat.le_refl _)
      rw [ht] at HO
      clear ht
      go_wp2_with fail
      go_ret
      exact ⟨_, _, _, rfl, hci, HO.out, HU.out⟩


end Go.Proofs.Ytafkoddgefcpnaa
