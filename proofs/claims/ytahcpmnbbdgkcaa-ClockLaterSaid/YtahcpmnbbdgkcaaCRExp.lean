/- Expired of the reference. -/
import Derived.Test.YtahcpmnbbdgkcaaCSorted
namespace Go.Proofs.Ytahcpmnbbdgkcaa
open Go.RowKit

/-- What the reference asks of the element at place j. -/
def goodP (L : List Int) (now : Int) (j : Nat) : Prop := 0 ≤ L.getD j 0 ∧ L.getD j 0 ≤ now ∧ (0 < j → L.getD (j - 1) 0 ≤ L.getD j 0)
theorem past_good {L : List Int} {now : Int} : pastP L now ↔ ∀ j, j < L.length → goodP L now j := by
  constructor
  · intro ⟨h1, h2⟩ j hj
    have := h2 (L.getD j 0) (by simp [List.getD, hj])
    refine ⟨this.1, this.2, fun h0 => ?_⟩
    have := h1 (j - 1) (by omega)
    rwa [show j - 1 + 1 = j by omega] at this
  · intro h
    refine ⟨fun j hj => ?_, fun x hx => ?_⟩
    · have := (h (j + 1) (by omega)).2.2 (by omega)
      simpa using this
    · obtain ⟨j, hj, rfl⟩ := List.getElem_of_mem hx
      have := h j hj
      simp only [goodP, List.getD, List.getElem?_eq_getElem hj, Option.getD_some] at this
      exact ⟨this.1, this.2.1⟩
theorem expZ_bad {L : List Int} {now v : Int} {j : Nat} (hj : j < L.length) (h : ¬ goodP L now j) : expZ L now v = -1 := by
  have : pastB L now = false := decide_eq_false (fun hp => h (past_good.1 hp j hj))
  unfold expZ
  rw [this, Bool.and_false]
  rfl
theorem expZ_good {L : List Int} {now v : Int} (hb : (tickB now && winB v) = true) (h : ∀ j, j < L.length → goodP L now j) : expZ L now v = cntN (firZ now v) L := by
  have : pastB L now = true := decide_eq_true (past_good.2 h)
  unfold expZ
  rw [this, hb]
  rfl
theorem expZ_no {L : List Int} {now v : Int} (hb : (tickB now && winB v) = false) : expZ L now v = -1 := by unfold expZ; rw [hb]; rfl
theorem cntN_take {L : List Int} {i : Nat} (hi : i < L.length) (f : Int) : cntN f (L.take (i + 1)) = cntN f (L.take i) + (if L.getD i 0 < f then 1 else 0) := by
  have e1 : L.take (i + 1) = L.take i ++ [L.getD i 0] := by rw [List.take_add_one]; simp [List.getD, hi]
  unfold cntN
  rw [e1, List.countP_append]
  by_cases h : L.getD i 0 < f <;> simp only [List.countP_cons, List.countP_nil, h, decide_true, decide_false, if_true, if_false, Bool.false_eq_true]

set_option maxHeartbeats 4000000 in
theorem rexpired_any (n k : Nat) (A : Option Addr) (L : List Int) (now v : Int) (hz : n * 8 ≤ 140737488351232) (w : World) (hS : Sn w A n L) :
    Calls Try.prog 18 #[.slice A n k, .int .i64 now, .int .i64 v] w fun e w' => e = .returned (.int .i64 (expZ L now v)) ∧ w = w' := by
  have KT := Lib.hid (rtick_any now)
  have KW := Lib.hid (rwin_any v)
  have KF := Lib.hid (rfirst_any now v)
  cases ht : tickB now with
  | false =>
    rw [expZ_no (by rw [ht]; rfl)]
    rw [ht] at KT
    clear ht hS
    go_enter Try.func18, Try.ntmps18
    go_wp2_with fail
    refine (KT.out _).mono ?_
    rintro e w' ⟨rfl, rfl⟩
    go_wp2_with fail
    go_ret
    exact ⟨rfl, rfl⟩
  | true =>
  rw [ht] at KT
  cases hv : winB v with
  | false =>
    rw [expZ_no (by rw [hv, Bool.and_false])]
    rw [hv] at KW
    clear ht hv hS
    go_enter Try.func18, Try.ntmps18
    go_wp2_with fail
    refine (KT.out _).mono ?_
    rintro e w' ⟨rfl, rfl⟩
    go_wp2_with fail
    refine (KW.out _).mono ?_
    rintro e w' ⟨rfl, rfl⟩
    go_wp2_with fail
    go_ret
    exact ⟨rfl, rfl⟩
  | true =>
  rw [hv] at KW
  have HB : Hid ((tickB now && winB v) = true) := Lib.hid (by rw [ht, hv]; rfl)
  have HT := Lib.hid (tickB_true ht)
  clear ht hv
  obtain ⟨hl, hcell⟩ := hS
  have HL := Lib.hid hl
  have HC := Lib.hid hcell
  clear hl hcell
  generalize hr : expZ L now v = r
  have HR := Lib.hid hr
  generalize hf : firZ now v = f at KF
  have HF := Lib.hid hf
  clear hr hf
  go_enter Try.func18, Try.ntmps18
  go_wp2_with fail
  refine (KT.out _).mono ?_
  rintro e w' ⟨rfl, rfl⟩
  go_wp2_with fail
  refine (KW.out _).mono ?_
  rintro e w' ⟨rfl, rfl⟩
  go_wp2_with fail
  go_loop [7, 20] (fun s d => ∃ i c : Nat, s = .int .i64 c ∧ d = .int .i64 i ∧ i ≤ n ∧ c ≤ i ∧ Hid (c = cntN f (L.take i)) ∧ Hid (∀ j, j < i → goodP L now j)) (fun _ d => n - (intOf d).toNat)
  case atStart => exact ⟨0, 0, rfl, rfl, Nat.zero_le _, Nat.le_refl _, Lib.hid (by simp [cntN]), Lib.hid (fun j hj => absurd hj (Nat.not_lt_zero _))⟩
  case round =>
    obtain ⟨i, c, rfl, rfl, hin, hci, HN, HG⟩ := hrel
    by_cases hi : i < n
    · obtain ⟨b, o, rfl, hc⟩ := HC.out (by omega)
      have c1 : w.cell? ⟨b, o + i, none⟩ = some (.int .i64 (L.getD i 0)) := hc i hi
      have KX := Lib.hid (rtick_any (L.getD i 0))
      cases hx : tickB (L.getD i 0) with
      | false =>
        obtain rfl : r = -1 := by
          rw [← HR.out]
          refine expZ_bad (j := i) (by rw [HL.out]; exact hi) (fun h => ?_)
          have := tickB_false hx; have := HT.out; have := h.1; have := h.2.1; omega
        rw [hx] at KX
        generalize L.getD i 0 = x at c1 KX hx
        clear hc HC HG HN HR hx
        go_wp2_with fail
        refine (KX.out _).mono ?_
        rintro e w' ⟨rfl, rfl⟩
        go_wp2_with fail
        go_ret
        exact ⟨rfl, rfl⟩
      | true =>
      rw [hx] at KX
      by_cases hxn : now < L.getD i 0
      · obtain rfl : r = -1 := by
          rw [← HR.out]
          exact expZ_bad (j := i) (by rw [HL.out]; exact hi) (fun h => by have := h.2.1; omega)
        generalize L.getD i 0 = x at c1 KX hx hxn
        clear hc HC HG HN HR hx
        go_wp2_with fail
        refine (KX.out _).mono ?_
        rintro e w' ⟨rfl, rfl⟩
        go_wp2_with fail
        go_ret
        exact ⟨rfl, rfl⟩
      · cases i with
        | zero =>
          have HG1 : Hid (∀ j, j < 0 + 1 → goodP L now j) := Lib.hid (fun j hj => by
            obtain rfl : j = 0 := by omega
            exact ⟨(tickB_true hx).1, by omega, fun h => absurd h (by omega)⟩)
          have HN1 := Lib.hid (cntN_take (L := L) (i := 0) (by rw [HL.out]; exact hi) f)
          rw [Nat.add_zero] at c1
          generalize hx0 : L.getD 0 0 = x at c1 KX hx hxn HN1
          clear hx0
          by_cases hxf : x < f
          · rw [if_pos hxf] at HN1
            clear hc hx
            go_wp2_with fail
            refine (KX.out _).mono ?_
            rintro e w' ⟨rfl, rfl⟩
            go_wp2_with fail
            refine (KF.out _).mono ?_
            rintro e w' ⟨rfl, rfl⟩
            go_wp2_with fail
            go_round
            case rel => exact ⟨0 + 1, c + 1, by first | rfl | simp, by first | rfl | simp, by omega, by omega, Lib.hid (by have h1 := HN1.out; have h2 := HN.out; omega), HG1⟩
            case measure => simp only [intOf]; omega
          · rw [if_neg hxf] at HN1
            clear hc hx
            go_wp2_with fail
            refine (KX.out _).mono ?_
            rintro e w' ⟨rfl, rfl⟩
            go_wp2_with fail
            refine (KF.out _).mono ?_
            rintro e w' ⟨rfl, rfl⟩
            go_wp2_with fail
            go_round
            case rel => exact ⟨0 + 1, c, by first | rfl | simp, by first | rfl | simp, by omega, by omega, Lib.hid (by have h1 := HN1.out; have h2 := HN.out; omega), HG1⟩
            case measure => simp only [intOf]; omega
        | succ t =>
          have c2 : w.cell? ⟨b, o + t, none⟩ = some (.int .i64 (L.getD t 0)) := hc t (by omega)
          have eq1 : ((t + 1 : Nat) : Int) = (t : Int) + 1 := by omega
          rw [eq1]
          have p1 : (0 : Int) < (t : Int) + 1 := by omega
          have p2 : (0 : Int) ≤ (t : Int) + 1 := by omega
          have p3 : (t : Int) + 1 < (n : Int) := by omega
          have p4 : (t : Int) < (n : Int) := by omega
          have p5 : ((t : Int) + 1).toNat = t + 1 := by omega
          have HN1 := Lib.hid (cntN_take (L := L) (i := t + 1) (by rw [HL.out]; exact hi) f)
          by_cases hy : L.getD (t + 1) 0 < L.getD t 0
          · obtain rfl : r = -1 := by
              rw [← HR.out]
              exact expZ_bad (j := t + 1) (by rw [HL.out]; exact hi) (fun h => by have := h.2.2 (by omega); simp only [Nat.add_sub_cancel] at this; omega)
            generalize L.getD (t + 1) 0 = x at c1 KX hx hxn HN1 hy
            generalize L.getD t 0 = y at c2 hy
            clear hc hx HG HN HN1 HR HC
            go_wp2_with fail
            refine (KX.out _).mono ?_
            rintro e w' ⟨rfl, rfl⟩
            go_wp2_with fail
            go_ret
            exact ⟨rfl, rfl⟩
          · have HG1 : Hid (∀ j, j < t + 1 + 1 → goodP L now j) := Lib.hid (fun j hj => by
              rcases Nat.lt_or_ge j (t + 1) with h | h
              · exact HG.out j h
              · obtain rfl : j = t + 1 := by omega
                exact ⟨(tickB_true hx).1, by omega, fun _ => by simp only [Nat.add_sub_cancel]; omega⟩)
            generalize L.getD (t + 1) 0 = x at c1 KX hx hxn HN1 hy
            generalize L.getD t 0 = y at c2 hy
            by_cases hxf : x < f
            · rw [if_pos hxf] at HN1
              clear hc hx
              go_wp2_with fail
              refine (KX.out _).mono ?_
              rintro e w' ⟨rfl, rfl⟩
              go_wp2_with fail
              refine (KF.out _).mono ?_
              rintro e w' ⟨rfl, rfl⟩
              go_wp2_with fail
              go_round
              case rel => exact ⟨t + 1 + 1, c + 1, by first | rfl | simp, by first | rfl | simp, by omega, by omega, Lib.hid (by have h1 := HN1.out; have h2 := HN.out; omega), HG1⟩
              case measure => simp only [intOf]; omega
            · rw [if_neg hxf] at HN1
              clear hc hx
              go_wp2_with fail
              refine (KX.out _).mono ?_
              rintro e w' ⟨rfl, rfl⟩
              go_wp2_with fail
              refine (KF.out _).mono ?_
              rintro e w' ⟨rfl, rfl⟩
              go_wp2_with fail
              go_round
              case rel => exact ⟨t + 1 + 1, c, by first | rfl | simp, by first | rfl | simp, by omega, by omega, Lib.hid (by have h1 := HN1.out; have h2 := HN.out; omega), HG1⟩
              case measure => simp only [intOf]; omega
    · obtain rfl : i = n := by omega
      obtain rfl : r = c := by
        rw [← HR.out, expZ_good HB.out (by rw [HL.out]; exact HG.out), HF.out, HN.out, List.take_of_length_le (by rw [HL.out]; exact Nat.le_refl _)]
      clear HR HC
      go_wp2_with fail
      go_ret
      exact ⟨rfl, rfl⟩
end Go.Proofs.Ytahcpmnbbdgkcaa
