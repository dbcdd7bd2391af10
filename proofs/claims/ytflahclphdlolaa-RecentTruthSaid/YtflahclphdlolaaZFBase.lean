/- The numbers of package recent: which parameters, values and states are valid; what the functions on numbers return. -/
import Derived.Test.YtflahclphdlolaaZCClock
import Derived.Test.YtflahclphdlolaaZELive
import Derived.Test.YtflahclphdlolaaZELive2
import Derived.Test.YtflahclphdlolaaZG0a
import Derived.Test.YtflahclphdlolaaZG2a
import Derived.Test.YtflahclphdlolaaZG4a
namespace Go.Proofs.Ytflahclphdlolaa
open Go.RowKit

def valueB (v : Int) : Bool := decide (-4096 ≤ v ∧ v ≤ 4096)
theorem valueB_true {v : Int} (h : valueB v = true) : -4096 ≤ v ∧ v ≤ 4096 := of_decide_eq_true h
def mayB (v c now : Int) : Bool := (tickB now && winB v) && decide (1 ≤ c ∧ c ≤ 65536)
theorem mayB_true {v c now : Int} (h : mayB v c now = true) : tickB now = true ∧ winB v = true ∧ 1 ≤ c ∧ c ≤ 65536 := by
  unfold mayB at h
  simp only [Bool.and_eq_true, decide_eq_true_eq] at h
  exact ⟨h.1.1, h.1.2, h.2⟩
/-- What is asked of the item at place j besides. -/
def okI (now v : Int) (L : List It) (j : Nat) : Prop := liveB now v (L.getD j (0, 0)).1 = true ∧ valueB (L.getD j (0, 0)).2 = true
instance (now v : Int) (L : List It) (j : Nat) : Decidable (okI now v L j) := by unfold okI; infer_instance
def okB (now v : Int) (L : List It) : Bool := decide (∀ j, j < L.length → okI now v L j)
theorem okB_bad {now v : Int} {L : List It} {j : Nat} (hj : j < L.length) (h : ¬ okI now v L j) : okB now v L = false := decide_eq_false (fun hp => h (hp j hj))
def stB (v c now : Int) (L : List It) : Bool := mayB v c now && decide ((L.length : Int) ≤ c) && valB L now && okB now v L
def stE (v c now : Int) (L : List It) : Int := if stB v c now L = true then 0 else 2
theorem stB_may {v c now : Int} {L : List It} (h : mayB v c now = false) : stB v c now L = false := by unfold stB; rw [h]; rfl
theorem stB_len {v c now : Int} {L : List It} (h : c < (L.length : Int)) : stB v c now L = false := by unfold stB; rw [decide_eq_false (by omega), Bool.and_false]; rfl
theorem stB_val {v c now : Int} {L : List It} (h : valB L now = false) : stB v c now L = false := by unfold stB; rw [h, Bool.and_false]; rfl
theorem stB_ok {v c now : Int} {L : List It} (h : okB now v L = false) : stB v c now L = false := by unfold stB; rw [h, Bool.and_false]
theorem stB_yes {v c now : Int} {L : List It} (h1 : mayB v c now = true) (h2 : (L.length : Int) ≤ c) (h3 : valB L now = true) (h4 : okB now v L = true) : stB v c now L = true := by
  unfold stB; rw [h1, h3, h4, decide_eq_true h2]; rfl
theorem stB_true {v c now : Int} {L : List It} (h : stB v c now L = true) : mayB v c now = true ∧ (L.length : Int) ≤ c ∧ valB L now = true ∧ okB now v L = true := by
  unfold stB at h
  simp only [Bool.and_eq_true, decide_eq_true_eq] at h
  exact ⟨h.1.1.1, h.1.1.2, h.1.2, h.2⟩
theorem stE_no {v c now : Int} {L : List It} (h : stB v c now L = false) : stE v c now L = 2 := by unfold stE; rw [h]; rfl
theorem stE_yes {v c now : Int} {L : List It} (h : stB v c now L = true) : stE v c now L = 0 := by unfold stE; rw [h]; rfl
/-- In an ascending list all items are live if the first one is. -/
theorem asc_live {now v : Int} {L : List It} (h : valB L now = true) (h0 : liveB now v (L.getD 0 (0, 0)).1 = true) : ∀ j, j < L.length → liveB now v (L.getD j (0, 0)).1 = true := by
  unfold valB at h
  rw [Bool.and_eq_true, decide_eq_true_eq] at h
  intro j
  induction j with
  | zero => intro _; exact h0
  | succ j ih =>
    intro hj
    have g := h.2 (j + 1) hj
    have ih := ih (by omega)
    have g3 := g.2.2 (by omega)
    have g2 := g.2.1
    rw [Nat.add_sub_cancel] at g3
    unfold liveB at ih ⊢
    simp only [Bool.and_eq_true, decide_eq_true_eq] at ih ⊢
    exact ⟨⟨ih.1.1, by omega⟩, g2⟩

theorem value_any (v : Int) (w : World) : Calls Try.prog 36 #[.int .i64 v] w fun e w' => e = .returned (.bool (valueB v)) ∧ w = w' := by
  by_cases h1 : -4096 ≤ v
  · by_cases h2 : v ≤ 4096
    · rw [show valueB v = true from decide_eq_true ⟨h1, h2⟩]
      go_enter Try.func36, Try.ntmps36
      go_wp2
      go_ret
      exact ⟨rfl, rfl⟩
    · rw [show valueB v = false from decide_eq_false (fun h => h2 h.2)]
      go_enter Try.func36, Try.ntmps36
      go_wp2
      go_ret
      exact ⟨rfl, rfl⟩
  · rw [show valueB v = false from decide_eq_false (fun h => h1 h.1)]
    go_enter Try.func36, Try.ntmps36
    go_wp2
    go_ret
    exact ⟨rfl, rfl⟩
theorem rvalue_any (v : Int) (w : World) : Calls Try.prog 37 #[.int .i64 v] w fun e w' => e = .returned (.bool (valueB v)) ∧ w = w' := by
  by_cases h1 : -4096 ≤ v
  · by_cases h2 : v ≤ 4096
    · rw [show valueB v = true from decide_eq_true ⟨h1, h2⟩]
      go_enter Try.func37, Try.ntmps37
      go_wp2
      go_ret
      exact ⟨rfl, rfl⟩
    · rw [show valueB v = false from decide_eq_false (fun h => h2 h.2)]
      go_enter Try.func37, Try.ntmps37
      go_wp2
      go_ret
      exact ⟨rfl, rfl⟩
  · rw [show valueB v = false from decide_eq_false (fun h => h1 h.1)]
    go_enter Try.func37, Try.ntmps37
    go_wp2
    go_ret
    exact ⟨rfl, rfl⟩

theorem validSizes_any (v c now : Int) (w : World) :
    Calls Try.prog 30 #[.int .i64 v, .int .i64 c, .int .i64 now] w fun e w' => e = .returned (.bool (mayB v c now)) ∧ w = w' := by
  have KF := Lib.hid (first_any now v)
  cases hb : (tickB now && winB v) with
  | false =>
    have e0 : mayB v c now = false := by unfold mayB; rw [hb]; rfl
    rw [e0]
    rw [firZ_no hb] at KF
    clear hb e0
    go_enter Try.func30, Try.ntmps30
    go_wp2_with (go_at_call 65; (with_reducible refine (KF.out _).mono ?_); rintro e w' ⟨rfl, rfl⟩)
    go_ret
    exact ⟨rfl, rfl⟩
  | true =>
    have h0 := firZ_low hb
    have e0 : mayB v c now = decide (1 ≤ c ∧ c ≤ 65536) := by unfold mayB; rw [hb]; rfl
    rw [e0]
    clear hb e0
    generalize firZ now v = x at *
    by_cases h1 : 1 ≤ c
    · by_cases h2 : c ≤ 65536
      · rw [decide_eq_true (p := 1 ≤ c ∧ c ≤ 65536) ⟨h1, h2⟩]
        go_enter Try.func30, Try.ntmps30
        go_wp2_with (go_at_call 65; (with_reducible refine (KF.out _).mono ?_); rintro e w' ⟨rfl, rfl⟩)
        go_ret
        exact ⟨rfl, rfl⟩
      · rw [decide_eq_false (p := 1 ≤ c ∧ c ≤ 65536) (fun h => h2 h.2)]
        have t2 : decide (c ≤ 65536) = false := decide_eq_false h2
        go_enter Try.func30, Try.ntmps30
        go_wp2_with (go_at_call 65; (with_reducible refine (KF.out _).mono ?_); rintro e w' ⟨rfl, rfl⟩)
        go_ret
        exact ⟨rfl, rfl⟩
    · rw [decide_eq_false (p := 1 ≤ c ∧ c ≤ 65536) (fun h => h1 h.1)]
      go_enter Try.func30, Try.ntmps30
      go_wp2_with (go_at_call 65; (with_reducible refine (KF.out _).mono ?_); rintro e w' ⟨rfl, rfl⟩)
      go_ret
      exact ⟨rfl, rfl⟩

theorem rmay_any (v c now : Int) (w : World) :
    Calls Try.prog 31 #[.int .i64 v, .int .i64 c, .int .i64 now] w fun e w' => e = .returned (.bool (mayB v c now)) ∧ w = w' := by
  have KT := Lib.hid (rtick_any now)
  have KW := Lib.hid (rwin_any v)
  cases hv : winB v with
  | false =>
    have e0 : mayB v c now = false := by unfold mayB; rw [hv, Bool.and_false]; rfl
    rw [e0]
    rw [hv] at KW
    clear hv e0
    go_enter Try.func31, Try.ntmps31
    go_wp2_with (go_at_call 66; (with_reducible refine (KW.out _).mono ?_); rintro e w' ⟨rfl, rfl⟩)
    go_ret
    exact ⟨rfl, rfl⟩
  | true =>
    rw [hv] at KW
    have e0 : mayB v c now = (tickB now && decide (1 ≤ c ∧ c ≤ 65536)) := by unfold mayB; rw [hv, Bool.and_true]
    rw [e0]
    clear hv e0
    generalize tickB now = t at *
    by_cases h1 : 1 ≤ c
    · by_cases h2 : c ≤ 65536
      · rw [decide_eq_true (p := 1 ≤ c ∧ c ≤ 65536) ⟨h1, h2⟩]
        go_enter Try.func31, Try.ntmps31
        go_wp2_with (first | (go_at_call 67; (with_reducible refine (KT.out _).mono ?_); rintro e w' ⟨rfl, rfl⟩) | (go_at_call 66; (with_reducible refine (KW.out _).mono ?_); rintro e w' ⟨rfl, rfl⟩))
        go_ret
        exact ⟨by cases t <;> rfl, rfl⟩
      · rw [decide_eq_false (p := 1 ≤ c ∧ c ≤ 65536) (fun h => h2 h.2), Bool.and_false]
        have t2 : decide (c ≤ 65536) = false := decide_eq_false h2
        go_enter Try.func31, Try.ntmps31
        go_wp2_with (first | (go_at_call 67; (with_reducible refine (KT.out _).mono ?_); rintro e w' ⟨rfl, rfl⟩) | (go_at_call 66; (with_reducible refine (KW.out _).mono ?_); rintro e w' ⟨rfl, rfl⟩))
        go_ret
        exact ⟨rfl, rfl⟩
    · rw [decide_eq_false (p := 1 ≤ c ∧ c ≤ 65536) (fun h => h1 h.1), Bool.and_false]
      go_enter Try.func31, Try.ntmps31
      go_wp2_with (first | (go_at_call 67; (with_reducible refine (KT.out _).mono ?_); rintro e w' ⟨rfl, rfl⟩) | (go_at_call 66; (with_reducible refine (KW.out _).mono ?_); rintro e w' ⟨rfl, rfl⟩))
      go_ret
      exact ⟨rfl, rfl⟩

set_option maxHeartbeats 2000000 in
set_option maxRecDepth 100000 in
theorem new9_no (v c now : Int) (h : mayB v c now = false) (w : World) :
    Calls Try.prog 7 #[.int .i64 v, .int .i64 c, .int .i64 now] w fun e w' => e = .returned (.tuple #[.agg #[.int .i64 0, .int .i64 0, .int .i64 0, .slice none 0 0], .int .i64 1]) ∧ Up w w' := by
  have KM := Lib.hid (validSizes_any v c now)
  rw [h] at KM
  clear h
  go_enter Try.func7, Try.ntmps7
  go_wp2_with (go_at_call 30; (with_reducible refine (KM.out _).mono ?_); rintro e w' ⟨rfl, rfl⟩)
  refine bodyPost_ret (v := .tuple #[.agg #[.int .i64 0, .int .i64 0, .int .i64 0, .slice none 0 0], .int .i64 1]) (by simp [results, Try.results7, go_sem]) rfl ⟨?_, ?_⟩
  · rfl
  · repeat (first | exact Up.refl _ | refine Up.alloc ?_ _ _ | refine Up.setCell ?_ (by first | (simp; done) | (simp; omega) | omega) _ | refine Up.drewN ?_ _ | refine Up.drew ?_)
set_option maxHeartbeats 2000000 in
set_option maxRecDepth 100000 in
theorem new9_yes (v c now : Int) (h : mayB v c now = true) (w : World) :
    Calls Try.prog 7 #[.int .i64 v, .int .i64 c, .int .i64 now] w fun e w' => e = .returned (.tuple #[.agg #[.int .i64 v, .int .i64 c, .int .i64 now, .slice none 0 0], .int .i64 0]) ∧ Up w w' := by
  have KM := Lib.hid (validSizes_any v c now)
  rw [h] at KM
  clear h
  go_enter Try.func7, Try.ntmps7
  go_wp2_with (go_at_call 30; (with_reducible refine (KM.out _).mono ?_); rintro e w' ⟨rfl, rfl⟩)
  refine bodyPost_ret (v := .tuple #[.agg #[.int .i64 v, .int .i64 c, .int .i64 now, .slice none 0 0], .int .i64 0]) (by simp [results, Try.results7, go_sem]) rfl ⟨?_, ?_⟩
  · rfl
  · repeat (first | exact Up.refl _ | refine Up.alloc ?_ _ _ | refine Up.setCell ?_ (by first | (simp; done) | (simp; omega) | omega) _ | refine Up.drewN ?_ _ | refine Up.drew ?_)
set_option maxHeartbeats 2000000 in
set_option maxRecDepth 100000 in
theorem rnew9_no (v c now : Int) (h : mayB v c now = false) (w : World) :
    Calls Try.prog 8 #[.int .i64 v, .int .i64 c, .int .i64 now] w fun e w' => e = .returned (.tuple #[.agg #[.int .i64 0, .int .i64 0, .int .i64 0, .slice none 0 0], .int .i64 1]) ∧ Up w w' := by
  have KM := Lib.hid (rmay_any v c now)
  rw [h] at KM
  clear h
  go_enter Try.func8, Try.ntmps8
  go_wp2_with (go_at_call 31; (with_reducible refine (KM.out _).mono ?_); rintro e w' ⟨rfl, rfl⟩)
  refine bodyPost_ret (v := .tuple #[.agg #[.int .i64 0, .int .i64 0, .int .i64 0, .slice none 0 0], .int .i64 1]) (by simp [results, Try.results8, go_sem]) rfl ⟨?_, ?_⟩
  · rfl
  · repeat (first | exact Up.refl _ | refine Up.alloc ?_ _ _ | refine Up.setCell ?_ (by first | (simp; done) | (simp; omega) | omega) _ | refine Up.drewN ?_ _ | refine Up.drew ?_)
set_option maxHeartbeats 2000000 in
set_option maxRecDepth 100000 in
theorem rnew9_yes (v c now : Int) (h : mayB v c now = true) (w : World) :
    Calls Try.prog 8 #[.int .i64 v, .int .i64 c, .int .i64 now] w fun e w' => e = .returned (.tuple #[.agg #[.int .i64 v, .int .i64 c, .int .i64 now, .slice none 0 0], .int .i64 0]) ∧ Up w w' := by
  have KM := Lib.hid (rmay_any v c now)
  rw [h] at KM
  clear h
  go_enter Try.func8, Try.ntmps8
  go_wp2_with (go_at_call 31; (with_reducible refine (KM.out _).mono ?_); rintro e w' ⟨rfl, rfl⟩)
  refine bodyPost_ret (v := .tuple #[.agg #[.int .i64 v, .int .i64 c, .int .i64 now, .slice none 0 0], .int .i64 0]) (by simp [results, Try.results8, go_sem]) rfl ⟨?_, ?_⟩
  · rfl
  · repeat (first | exact Up.refl _ | refine Up.alloc ?_ _ _ | refine Up.setCell ?_ (by first | (simp; done) | (simp; omega) | omega) _ | refine Up.drewN ?_ _ | refine Up.drew ?_)

set_option maxHeartbeats 2000000 in
set_option maxRecDepth 100000 in
theorem same9_t (c h l : Int) (n k q : Nat) (A B : Option Addr) (L : List It) (hn : n ≤ 1000000) (w : World) (hA : Sl w A n L) (hB : Sl w B n L) :
    Calls Try.prog 9 #[.agg #[.int .i64 c, .int .i64 h, .int .i64 l, .slice A n k], .agg #[.int .i64 c, .int .i64 h, .int .i64 l, .slice B n q]] w fun e w' => e = .returned (.bool true) ∧ Up w w' := by
  have HA := Lib.hid hA
  have HB := Lib.hid hB
  clear hA hB
  have t1 : (c == c) = true := by simp
  have t2 : (h == h) = true := by simp
  have t3 : (l == l) = true := by simp
  go_enter Try.func9, Try.ntmps9
  go_wp2_with (go_at_call 22; refine (sameItems_t n k q A B L hn _ (HA.out.up (((Up.refl w).alloc _ _).alloc _ _)) (HB.out.up (((Up.refl w).alloc _ _).alloc _ _))).mono ?_; rintro e w' ⟨rfl, hu⟩; have HU := Lib.hid hu; clear hu)
  go_ret
  exact ⟨rfl, (((Up.refl w).alloc _ _).alloc _ _).trans HU.out⟩

theorem few9_any (c h l : Int) (n k : Nat) (A : Option Addr) (w : World) :
    Calls Try.prog 11 #[.agg #[.int .i64 c, .int .i64 h, .int .i64 l, .slice A n k]] w fun e w' => e = .returned (.bool (decide ((n : Int) ≤ 200))) ∧ Up w w' := by
  go_enter Try.func11, Try.ntmps11
  go_wp2
  go_ret
  refine ⟨rfl, ?_⟩
  repeat (first | exact Up.refl _ | refine Up.alloc ?_ _ _ | refine Up.setCell ?_ (by first | (simp; done) | (simp; omega) | omega) _ | refine Up.drewN ?_ _ | refine Up.drew ?_)
end Go.Proofs.Ytflahclphdlolaa
