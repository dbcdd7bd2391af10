/- Texts of this claim, one after the other. -/
import Derived.Test.YtflahclphdlolaaZCClock
import Derived.Test.YtflahclphdlolaaZELive
import Derived.Test.YtflahclphdlolaaZELive2
import Derived.Test.YtflahclphdlolaaZESq
import Derived.Test.YtflahclphdlolaaZG0a
import Derived.Test.YtflahclphdlolaaZG2a
import Derived.Test.YtflahclphdlolaaZG4a
import Derived.Test.YtflahclphdlolaaZG6a
import Derived.Test.YtflahclphdlolaaZGLaw
import Derived.Test.YtflahclphdlolaaZRValid
import Derived.Test.YtflahclphdlolaaZWGcd
/- The numbers of package recent: which parameters, values and states are valid; what the functions on numbers return. -/
namespace Go.Proofs.Ytflahclphdlolaa
open Go.RowKit

def valueB (v : Int) : Bool := decide (-4096 ≤ v ∧ v ≤ 4096)
theorem valueB_true {v : Int} (h : valueB v = true) : -4096 ≤ v ∧ v ≤ 4096 := of_decide_eq_true h
def mayB (v c now : Int) : Bool := (tickB now && winB v) && decide (1 ≤ c ∧ c ≤ 65536)
theorem mayB_true {v c now : Int} (h : mayB v c now = true) : tickB now = true ∧ winB v = true ∧ 1 ≤ c ∧ c ≤ 65536 := by
  unfold mayB at h
  simp only [Bool.and_eq_true, decide_eq_true_eq] at h
  exact ⟨h.1.1, h.1.2, h.2⟩
/-- What is asked of the item at place j besides. -/
def okI (now v : Int) (L : List It) (j : Nat) : Prop := liveB now v (L.getD j (0, 0)).1 = true ∧ valueB (L.getD j (0, 0)).2 = true
instance (now v : Int) (L : List It) (j : Nat) : Decidable (okI now v L j) := by unfold okI; infer_instance
def okB (now v : Int) (L : List It) : Bool := decide (∀ j, j < L.length → okI now v L j)
theorem okB_bad {now v : Int} {L : List It} {j : Nat} (hj : j < L.length) (h : ¬ okI now v L j) : okB now v L = false := decide_eq_false (fun hp => h (hp j hj))
def stB (v c now : Int) (L : List It) : Bool := mayB v c now && decide ((L.length : Int) ≤ c) && valB L now && okB now v L
def stE (v c now : Int) (L : List It) : Int := if stB v c now L = true then 0 else 2
theorem stB_may {v c now : Int} {L : List It} (h : mayB v c now = false) : stB v c now L = false := by unfold stB; rw [h]; rfl
theorem stB_len {v c now : Int} {L : List It} (h : c < (L.length : Int)) : stB v c now L = false := by unfold stB; rw [decide_eq_false (by omega), Bool.and_false]; rfl
theorem stB_val {v c now : Int} {L : List It} (h : valB L now = false) : stB v c now L = false := by unfold stB; rw [h, Bool.and_false]; rfl
theorem stB_ok {v c now : Int} {L : List It} (h : okB now v L = false) : stB v c now L = false := by unfold stB; rw [h, Bool.and_false]
theorem stB_yes {v c now : Int} {L : List It} (h1 : mayB v c now = true) (h2 : (L.length : Int) ≤ c) (h3 : valB L now = true) (h4 : okB now v L = true) : stB v c now L = true := by
  unfold stB; rw [h1, h3, h4, decide_eq_true h2]; rfl
theorem stB_true {v c now : Int} {L : List It} (h : stB v c now L = true) : mayB v c now = true ∧ (L.length : Int) ≤ c ∧ valB L now = true ∧ okB now v L = true := by
  unfold stB at h
  simp only [Bool.and_eq_true, decide_eq_true_eq] at h
  exact ⟨h.1.1.1, h.1.1.2, h.1.2, h.2⟩
theorem stE_no {v c now : Int} {L : List It} (h : stB v c now L = false) : stE v c now L = 2 := by unfold stE; rw [h]; rfl
theorem stE_yes {v c now : Int} {L : List It} (h : stB v c now L = true) : stE v c now L = 0 := by unfold stE; rw [h]; rfl
/-- In an ascending list all items are live if the first one is. -/
theorem asc_live {now v : Int} {L : List It} (h : valB L now = true) (h0 : liveB now v (L.getD 0 (0, 0)).1 = true) : ∀ j, j < L.length → liveB now v (L.getD j (0, 0)).1 = true := by
  unfold valB at h
  rw [Bool.and_eq_true, decide_eq_true_eq] at h
  intro j
  induction j with
  | zero => intro _; exact h0
  | succ j ih =>
    intro hj
    have g := h.2 (j + 1) hj
    have ih := ih (by omega)
    have g3 := g.2.2 (by omega)
    have g2 := g.2.1
    rw [Nat.add_sub_cancel] at g3
    unfold liveB at ih ⊢
    simp only [Bool.and_eq_true, decide_eq_true_eq] at ih ⊢
    exact ⟨⟨ih.1.1, by omega⟩, g2⟩

theorem value_any (v : Int) (w : World) : Calls Try.prog 36 #[.int .i64 v] w fun e w' => e = .returned (.bool (valueB v)) ∧ w = w' := by
  by_cases h1 : -4096 ≤ v
  · by_cases h2 : v ≤ 4096
    · rw [show valueB v = true from decide_eq_true ⟨h1, h2⟩]
      go_enter Try.func36, Try.ntmps36
      go_wp2
      go_ret
      exact ⟨rfl, rfl⟩
    · rw [show valueB v = false from decide_eq_false (fun h => h2 h.2)]
      go_enter Try.func36, Try.ntmps36
      go_wp2
      go_ret
      exact ⟨rfl, rfl⟩
  · rw [show valueB v = false from decide_eq_false (fun h => h1 h.1)]
    go_enter Try.func36, Try.ntmps36
    go_wp2
    go_ret
    exact ⟨rfl, rfl⟩
theorem rvalue_any (v : Int) (w : World) : Calls Try.prog 37 #[.int .i64 v] w fun e w' => e = .returned (.bool (valueB v)) ∧ w = w' := by
  by_cases h1 : -4096 ≤ v
  · by_cases h2 : v ≤ 4096
    · rw [show valueB v = true from decide_eq_true ⟨h1, h2⟩]
      go_enter Try.func37, Try.ntmps37
      go_wp2
      go_ret
      exact ⟨rfl, rfl⟩
    · rw [show valueB v = false from decide_eq_false (fun h => h2 h.2)]
      go_enter Try.func37, Try.ntmps37
      go_wp2
      go_ret
      exact ⟨rfl, rfl⟩
  · rw [show valueB v = false from decide_eq_false (fun h => h1 h.1)]
    go_enter Try.func37, Try.ntmps37
    go_wp2
    go_ret
    exact ⟨rfl, rfl⟩

theorem validSizes_any (v c now : Int) (w : World) :
    Calls Try.prog 30 #[.int .i64 v, .int .i64 c, .int .i64 now] w fun e w' => e = .returned (.bool (mayB v c now)) ∧ w = w' := by
  have KF := Lib.hid (first_any now v)
  cases hb : (tickB now && winB v) with
  | false =>
    have e0 : mayB v c now = false := by unfold mayB; rw [hb]; rfl
    rw [e0]
    rw [firZ_no hb] at KF
    clear hb e0
    go_enter Try.func30, Try.ntmps30
    go_wp2_with (go_at_call 65; (with_reducible refine (KF.out _).mono ?_); rintro e w' ⟨rfl, rfl⟩)
    go_ret
    exact ⟨rfl, rfl⟩
  | true =>
    have h0 := firZ_low hb
    have e0 : mayB v c now = decide (1 ≤ c ∧ c ≤ 65536) := by unfold mayB; rw [hb]; rfl
    rw [e0]
    clear hb e0
    generalize firZ now v = x at *
    by_cases h1 : 1 ≤ c
    · by_cases h2 : c ≤ 65536
      · rw [decide_eq_true (p := 1 ≤ c ∧ c ≤ 65536) ⟨h1, h2⟩]
        go_enter Try.func30, Try.ntmps30
        go_wp2_with (go_at_call 65; (with_reducible refine (KF.out _).mono ?_); rintro e w' ⟨rfl, rfl⟩)
        go_ret
        exact ⟨rfl, rfl⟩
      · rw [decide_eq_false (p := 1 ≤ c ∧ c ≤ 65536) (fun h => h2 h.2)]
        have t2 : decide (c ≤ 65536) = false := decide_eq_false h2
        go_enter Try.func30, Try.ntmps30
        go_wp2_with (go_at_call 65; (with_reducible refine (KF.out _).mono ?_); rintro e w' ⟨rfl, rfl⟩)
        go_ret
        exact ⟨rfl, rfl⟩
    · rw [decide_eq_false (p := 1 ≤ c ∧ c ≤ 65536) (fun h => h1 h.1)]
      go_enter Try.func30, Try.ntmps30
      go_wp2_with (go_at_call 65; (with_reducible refine (KF.out _).mono ?_); rintro e w' ⟨rfl, rfl⟩)
      go_ret
      exact ⟨rfl, rfl⟩

theorem rmay_any (v c now : Int) (w : World) :
    Calls Try.prog 31 #[.int .i64 v, .int .i64 c, .int .i64 now] w fun e w' => e = .returned (.bool (mayB v c now)) ∧ w = w' := by
  have KT := Lib.hid (rtick_any now)
  have KW := Lib.hid (rwin_any v)
  cases hv : winB v with
  | false =>
    have e0 : mayB v c now = false := by unfold mayB; rw [hv, Bool.and_false]; rfl
    rw [e0]
    rw [hv] at KW
    clear hv e0
    go_enter Try.func31, Try.ntmps31
    go_wp2_with (go_at_call 66; (with_reducible refine (KW.out _).mono ?_); rintro e w' ⟨rfl, rfl⟩)
    go_ret
    exact ⟨rfl, rfl⟩
  | true =>
    rw [hv] at KW
    have e0 : mayB v c now = (tickB now && decide (1 ≤ c ∧ c ≤ 65536)) := by unfold mayB; rw [hv, Bool.and_true]
    rw [e0]
    clear hv e0
    generalize tickB now = t at *
    by_cases h1 : 1 ≤ c
    · by_cases h2 : c ≤ 65536
      · rw [decide_eq_true (p := 1 ≤ c ∧ c ≤ 65536) ⟨h1, h2⟩]
        go_enter Try.func31, Try.ntmps31
        go_wp2_with (first | (go_at_call 67; (with_reducible refine (KT.out _).mono ?_); rintro e w' ⟨rfl, rfl⟩) | (go_at_call 66; (with_reducible refine (KW.out _).mono ?_); rintro e w' ⟨rfl, rfl⟩))
        go_ret
        exact ⟨by cases t <;> rfl, rfl⟩
      · rw [decide_eq_false (p := 1 ≤ c ∧ c ≤ 65536) (fun h => h2 h.2), Bool.and_false]
        have t2 : decide (c ≤ 65536) = false := decide_eq_false h2
        go_enter Try.func31, Try.ntmps31
        go_wp2_with (first | (go_at_call 67; (with_reducible refine (KT.out _).mono ?_); rintro e w' ⟨rfl, rfl⟩) | (go_at_call 66; (with_reducible refine (KW.out _).mono ?_); rintro e w' ⟨rfl, rfl⟩))
        go_ret
        exact ⟨rfl, rfl⟩
    · rw [decide_eq_false (p := 1 ≤ c ∧ c ≤ 65536) (fun h => h1 h.1), Bool.and_false]
      go_enter Try.func31, Try.ntmps31
      go_wp2_with (first | (go_at_call 67; (with_reducible refine (KT.out _).mono ?_); rintro e w' ⟨rfl, rfl⟩) | (go_at_call 66; (with_reducible refine (KW.out _).mono ?_); rintro e w' ⟨rfl, rfl⟩))
      go_ret
      exact ⟨rfl, rfl⟩

set_option maxHeartbeats 2000000 in
set_option maxRecDepth 100000 in
theorem new9_no (v c now : Int) (h : mayB v c now = false) (w : World) :
    Calls Try.prog 7 #[.int .i64 v, .int .i64 c, .int .i64 now] w fun e w' => e = .returned (.tuple #[.agg #[.int .i64 0, .int .i64 0, .int .i64 0, .slice none 0 0], .int .i64 1]) ∧ Up w w' := by
  have KM := Lib.hid (validSizes_any v c now)
  rw [h] at KM
  clear h
  go_enter Try.func7, Try.ntmps7
  go_wp2_with (go_at_call 30; (with_reducible refine (KM.out _).mono ?_); rintro e w' ⟨rfl, rfl⟩)
  refine bodyPost_ret (v := .tuple #[.agg #[.int .i64 0, .int .i64 0, .int .i64 0, .slice none 0 0], .int .i64 1]) (by simp [results, Try.results7, go_sem]) rfl ⟨?_, ?_⟩
  · rfl
  · repeat (first | exact Up.refl _ | refine Up.alloc ?_ _ _ | refine Up.setCell ?_ (by first | (simp; done) | (simp; omega) | omega) _ | refine Up.drewN ?_ _ | refine Up.drew ?_)
set_option maxHeartbeats 2000000 in
set_option maxRecDepth 100000 in
theorem new9_yes (v c now : Int) (h : mayB v c now = true) (w : World) :
    Calls Try.prog 7 #[.int .i64 v, .int .i64 c, .int .i64 now] w fun e w' => e = .returned (.tuple #[.agg #[.int .i64 v, .int .i64 c, .int .i64 now, .slice none 0 0], .int .i64 0]) ∧ Up w w' := by
  have KM := Lib.hid (validSizes_any v c now)
  rw [h] at KM
  clear h
  go_enter Try.func7, Try.ntmps7
  go_wp2_with (go_at_call 30; (with_reducible refine (KM.out _).mono ?_); rintro e w' ⟨rfl, rfl⟩)
  refine bodyPost_ret (v := .tuple #[.agg #[.int .i64 v, .int .i64 c, .int .i64 now, .slice none 0 0], .int .i64 0]) (by simp [results, Try.results7, go_sem]) rfl ⟨?_, ?_⟩
  · rfl
  · repeat (first | exact Up.refl _ | refine Up.alloc ?_ _ _ | refine Up.setCell ?_ (by first | (simp; done) | (simp; omega) | omega) _ | refine Up.drewN ?_ _ | refine Up.drew ?_)
set_option maxHeartbeats 2000000 in
set_option maxRecDepth 100000 in
theorem rnew9_no (v c now : Int) (h : mayB v c now = false) (w : World) :
    Calls Try.prog 8 #[.int .i64 v, .int .i64 c, .int .i64 now] w fun e w' => e = .returned (.tuple #[.agg #[.int .i64 0, .int .i64 0, .int .i64 0, .slice none 0 0], .int .i64 1]) ∧ Up w w' := by
  have KM := Lib.hid (rmay_any v c now)
  rw [h] at KM
  clear h
  go_enter Try.func8, Try.ntmps8
  go_wp2_with (go_at_call 31; (with_reducible refine (KM.out _).mono ?_); rintro e w' ⟨rfl, rfl⟩)
  refine bodyPost_ret (v := .tuple #[.agg #[.int .i64 0, .int .i64 0, .int .i64 0, .slice none 0 0], .int .i64 1]) (by simp [results, Try.results8, go_sem]) rfl ⟨?_, ?_⟩
  · rfl
  · repeat (first | exact Up.refl _ | refine Up.alloc ?_ _ _ | refine Up.setCell ?_ (by first | (simp; done) | (simp; omega) | omega) _ | refine Up.drewN ?_ _ | refine Up.drew ?_)
set_option maxHeartbeats 2000000 in
set_option maxRecDepth 100000 in
theorem rnew9_yes (v c now : Int) (h : mayB v c now = true) (w : World) :
    Calls Try.prog 8 #[.int .i64 v, .int .i64 c, .int .i64 now] w fun e w' => e = .returned (.tuple #[.agg #[.int .i64 v, .int .i64 c, .int .i64 now, .slice none 0 0], .int .i64 0]) ∧ Up w w' := by
  have KM := Lib.hid (rmay_any v c now)
  rw [h] at KM
  clear h
  go_enter Try.func8, Try.ntmps8
  go_wp2_with (go_at_call 31; (with_reducible refine (KM.out _).mono ?_); rintro e w' ⟨rfl, rfl⟩)
  refine bodyPost_ret (v := .tuple #[.agg #[.int .i64 v, .int .i64 c, .int .i64 now, .slice none 0 0], .int .i64 0]) (by simp [results, Try.results8, go_sem]) rfl ⟨?_, ?_⟩
  · rfl
  · repeat (first | exact Up.refl _ | refine Up.alloc ?_ _ _ | refine Up.setCell ?_ (by first | (simp; done) | (simp; omega) | omega) _ | refine Up.drewN ?_ _ | refine Up.drew ?_)

set_option maxHeartbeats 2000000 in
set_option maxRecDepth 100000 in
theorem same9_t (c h l : Int) (n k q : Nat) (A B : Option Addr) (L : List It) (hn : n ≤ 1000000) (w : World) (hA : Sl w A n L) (hB : Sl w B n L) :
    Calls Try.prog 9 #[.agg #[.int .i64 c, .int .i64 h, .int .i64 l, .slice A n k], .agg #[.int .i64 c, .int .i64 h, .int .i64 l, .slice B n q]] w fun e w' => e = .returned (.bool true) ∧ Up w w' := by
  have HA := Lib.hid hA
  have HB := Lib.hid hB
  clear hA hB
  have t1 : (c == c) = true := by simp
  have t2 : (h == h) = true := by simp
  have t3 : (l == l) = true := by simp
  go_enter Try.func9, Try.ntmps9
  go_wp2_with (go_at_call 22; refine (sameItems_t n k q A B L hn _ (HA.out.up (((Up.refl w).alloc _ _).alloc _ _)) (HB.out.up (((Up.refl w).alloc _ _).alloc _ _))).mono ?_; rintro e w' ⟨rfl, hu⟩; have HU := Lib.hid hu; clear hu)
  go_ret
  exact ⟨rfl, (((Up.refl w).alloc _ _).alloc _ _).trans HU.out⟩

theorem few9_any (c h l : Int) (n k : Nat) (A : Option Addr) (w : World) :
    Calls Try.prog 11 #[.agg #[.int .i64 c, .int .i64 h, .int .i64 l, .slice A n k]] w fun e w' => e = .returned (.bool (decide ((n : Int) ≤ 200))) ∧ Up w w' := by
  go_enter Try.func11, Try.ntmps11
  go_wp2
  go_ret
  refine ⟨rfl, ?_⟩
  repeat (first | exact Up.refl _ | refine Up.alloc ?_ _ _ | refine Up.setCell ?_ (by first | (simp; done) | (simp; omega) | omega) _ | refine Up.drewN ?_ _ | refine Up.drew ?_)
end Go.Proofs.Ytflahclphdlolaa

/- What Validate of package recent and of its reference returns. -/
namespace Go.Proofs.Ytflahclphdlolaa
open Go.RowKit

set_option maxHeartbeats 4000000 in
set_option maxRecDepth 100000 in
theorem validate9_up (v c now : Int) (n k : Nat) (A : Option Addr) (L : List It) (w : World) (hS : Sl w A n L) :
    Calls Try.prog 16 #[.agg #[.int .i64 v, .int .i64 c, .int .i64 now, .slice A n k]] w fun e w' => e = .returned (.int .i64 (stE v c now L)) ∧ Up w w' := by
  have KM := Lib.hid (validSizes_any v c now)
  cases hm : mayB v c now with
  | false =>
    rw [stE_no (stB_may hm)]
    rw [hm] at KM
    clear hm hS
    go_enter Try.func16, Try.ntmps16
    go_wp2_with (go_at_call 30; (with_reducible refine (KM.out _).mono ?_); rintro e w' ⟨rfl, rfl⟩)
    go_ret
    refine ⟨rfl, ?_⟩
    repeat (first | exact Up.refl _ | refine Up.alloc ?_ _ _ | refine Up.setCell ?_ (by first | (simp; done) | (simp; omega) | omega) _ | refine Up.drewN ?_ _ | refine Up.drew ?_)
  | true =>
  rw [hm] at KM
  obtain ⟨hm1, hm2, hm3, hm4⟩ := mayB_true hm
  by_cases hl : c < (n : Int)
  · rw [stE_no (stB_len (by rw [hS.1]; exact hl))]
    clear hm hS hm1 hm2 hm3 hm4
    have t1 : decide (c < (n : Int)) = true := decide_eq_true hl
    go_enter Try.func16, Try.ntmps16
    go_wp2_with (go_at_call 30; (with_reducible refine (KM.out _).mono ?_); rintro e w' ⟨rfl, rfl⟩)
    go_ret
    refine ⟨rfl, ?_⟩
    repeat (first | exact Up.refl _ | refine Up.alloc ?_ _ _ | refine Up.setCell ?_ (by first | (simp; done) | (simp; omega) | omega) _ | refine Up.drewN ?_ _ | refine Up.drew ?_)
  have t1 : decide (c < (n : Int)) = false := decide_eq_false hl
  have hn9 : n ≤ 65536 := by omega
  have KV := Lib.hid (fun W (h : Sl W A n L) => valid8_up n k A L now (by omega) W h)
  cases hv : valB L now with
  | false =>
    rw [stE_no (stB_val hv)]
    rw [hv] at KV
    have HS := Lib.hid hS
    clear hm hS hm1 hm2 hm3 hm4 hv
    go_enter Try.func16, Try.ntmps16
    go_wp2_with (first | (go_at_call 30; (with_reducible refine (KM.out _).mono ?_); rintro e w' ⟨rfl, rfl⟩) | (go_at_call 38; (with_reducible refine (KV.out _ (HS.out.up ((Up.refl w).alloc _ _))).mono ?_); rintro e w' ⟨rfl, hu⟩; have HU := Lib.hid hu; clear hu))
    go_ret
    exact ⟨rfl, ((Up.refl w).alloc _ _).trans HU.out⟩
  | true =>
  rw [hv] at KV
  have HL := Lib.hid hS.1
  have HS := Lib.hid hS
  have HV := Lib.hid hv
  have HM := Lib.hid (show ∀ x : Bool, okB now v L = x → stE v c now L = if x = true then 0 else 2 from fun x hx => by
    cases x with
    | true => rw [stE_yes (stB_yes hm (by rw [hS.1]; omega) hv hx)]; rfl
    | false => rw [stE_no (stB_ok hx)]; rfl)
  generalize hr : stE v c now L = r at HM ⊢
  clear hr hS hv hm hm1 hm2 hl
  cases n with
  | zero =>
    obtain rfl : r = 0 := by
      have e1 : L = [] := List.length_eq_zero_iff.1 HL.out
      exact HM.out true (by subst e1; exact decide_eq_true (fun j hj => absurd hj (Nat.not_lt_zero _)))
    clear HM
    go_enter Try.func16, Try.ntmps16
    go_wp2_with (first | (go_at_call 30; (with_reducible refine (KM.out _).mono ?_); rintro e w' ⟨rfl, rfl⟩) | (go_at_call 38; (with_reducible refine (KV.out _ (HS.out.up ((Up.refl w).alloc _ _))).mono ?_); rintro e w1 ⟨rfl, hu⟩; have c0 := hu.keep w.heap.size 0 (.int .i64 v) (by simp [go_sem]); have c2 := hu.keep w.heap.size 2 (.int .i64 now) (by simp [go_sem]); have c3 := hu.keep w.heap.size 3 (.slice A 0 k) (by simp [go_sem]); have HU := Lib.hid hu; clear hu))
    go_quiet (fail)
    go_wp2_with fail
    go_loopw [49] (fun t wr => t = .int .i64 0 ∧ Hid (Up w1 wr)) (fun _ _ => 0)
    case atStart => exact ⟨rfl, Lib.hid ((Up.refl w1).drewN _)⟩
    case round =>
      obtain ⟨rfl, HW⟩ := hrel
      go_wp2_with fail
      go_ret
      exact ⟨rfl, (((Up.refl w).alloc _ _).trans HU.out).trans HW.out⟩
  | succ m =>
  obtain ⟨b, o, rfl, d0, _⟩ := HS.out.at_ (Nat.succ_pos m)
  simp only [Nat.zero_mul, Nat.add_zero] at d0
  have KL := Lib.hid (fun w => (live_any now v (L.getD 0 (0, 0)).1 w).mono (fun _ _ h => And.intro h.1 h.2.symm))
  have HQ := Lib.hid (asc_live (v := v) HV.out)
  have HB := Lib.hid (fun h => HM.out false (okB_bad (now := now) (v := v) (L := L) (j := 0) (by rw [HL.out]; exact Nat.succ_pos m) h))
  have HB : Hid (liveB now v (L.getD 0 (0, 0)).1 = false → r = 2) := Lib.hid (fun h => HB.out (fun hk => by rw [hk.1] at h; cases h))
  generalize hx : liveB now v (L.getD 0 (0, 0)).1 = x at HQ HB KL
  clear hx
  generalize (L.getD 0 (0, 0)).1 = p0 at d0 KL
  have z1 : (0 : Int) < (m : Int) + 1 := by omega
  have t2 : decide (c < (m : Int) + 1) = false := decide_eq_false (by have := of_decide_eq_false t1; omega)
  clear t1
  cases x with
  | false =>
    obtain rfl : r = 2 := HB.out rfl
    clear HM HB HQ
    go_enter Try.func16, Try.ntmps16
    go_wp2_with (first | (go_at_call 30; (with_reducible refine (KM.out _).mono ?_); rintro e w' ⟨rfl, rfl⟩) | (go_at_call 38; (with_reducible refine (KV.out _ (HS.out.up ((Up.refl w).alloc _ _))).mono ?_); rintro e w1 ⟨rfl, hu⟩; have c0 := hu.keep w.heap.size 0 (.int .i64 v) (by simp [go_sem]); have c2 := hu.keep w.heap.size 2 (.int .i64 now) (by simp [go_sem]); have c3 := hu.keep w.heap.size 3 (.slice (some ⟨b, o, none⟩) (m + 1) k) (by simp [go_sem]); have d1 := (((Up.refl w).alloc #[.int .i64 v, .int .i64 c, .int .i64 now, .slice (some ⟨b, o, none⟩) (m + 1) k] 24).trans hu).keep _ _ _ d0; have HU := Lib.hid hu; clear hu))
    go_quiet (first | (go_at_call 39; refine Calls.quiet_of_same (KL.out _)))
    go_wp2_with fail
    go_ret
    exact ⟨rfl, (((Up.refl w).alloc _ _).trans HU.out).drewN _⟩
  | true =>
    have HQ1 : Hid (∀ j, j < L.length → liveB now v (L.getD j (0, 0)).1 = true) := Lib.hid (HQ.out rfl)
    clear HB HQ
    have KI := Lib.hid value_any
    go_enter Try.func16, Try.ntmps16
    go_wp2_with (first | (go_at_call 30; (with_reducible refine (KM.out _).mono ?_); rintro e w' ⟨rfl, rfl⟩) | (go_at_call 38; (with_reducible refine (KV.out _ (HS.out.up ((Up.refl w).alloc _ _))).mono ?_); rintro e w1 ⟨rfl, hu⟩; have c0 := hu.keep w.heap.size 0 (.int .i64 v) (by simp [go_sem]); have c2 := hu.keep w.heap.size 2 (.int .i64 now) (by simp [go_sem]); have c3 := hu.keep w.heap.size 3 (.slice (some ⟨b, o, none⟩) (m + 1) k) (by simp [go_sem]); have d1 := (((Up.refl w).alloc #[.int .i64 v, .int .i64 c, .int .i64 now, .slice (some ⟨b, o, none⟩) (m + 1) k] 24).trans hu).keep _ _ _ d0; have HU := Lib.hid (((Up.refl w).alloc #[.int .i64 v, .int .i64 c, .int .i64 now, .slice (some ⟨b, o, none⟩) (m + 1) k] 24).trans hu); clear hu))
    go_quiet (first | (go_at_call 39; refine Calls.quiet_of_same (KL.out _)))
    go_wp2_with fail
    clear c0 c2 d0 d1
    go_loopw [49] (fun t wr => ∃ i : Nat, t = .int .i64 i ∧ i ≤ m + 1 ∧ Hid (∀ j, j < i → valueB (L.getD j (0, 0)).2 = true) ∧ Hid (Up w wr)) (fun t _ => m + 1 - (intOf t).toNat)
    case atStart => exact ⟨0, rfl, Nat.zero_le _, Lib.hid (fun j hj => absurd hj (Nat.not_lt_zero _)), Lib.hid (HU.out.drewN _)⟩
    case round =>
      obtain ⟨i, rfl, hin, HG, HW⟩ := hrel
      by_cases hi : i < m + 1
      · obtain ⟨b', o', hbo, d0, d1⟩ := (HS.out.up HW.out).at_ hi
        cases hbo
        have hil : i < L.length := by rw [HL.out]; exact hi
        have HB : Hid (valueB (L.getD i (0, 0)).2 = false → r = 2) := Lib.hid (fun h => HM.out false (okB_bad hil (fun hk => by rw [hk.2] at h; cases h)))
        have HY : Hid (valueB (L.getD i (0, 0)).2 = true → ∀ j, j < i + 1 → valueB (L.getD j (0, 0)).2 = true) := Lib.hid (fun h j hj => by
          rcases Nat.lt_or_ge j i with g | g
          · exact HG.out j g
          · obtain rfl : j = i := by omega
            exact h)
        generalize (L.getD i (0, 0)).1 = p0 at d0
        generalize (L.getD i (0, 0)).2 = p1 at d1 HB HY
        have f2 : (i : Int) < (m : Int) + 1 := by omega
        have f3 : (0 : Int) ≤ i := by omega
        have KJ := Lib.hid (KI.out p1)
        cases hp : valueB p1 with
        | false =>
          obtain rfl : r = 2 := HB.out hp
          rw [hp] at KJ
          clear hp HM HG HB HY
          go_wp2_with (go_at_call 36; (with_reducible refine (KJ.out _).mono ?_); rintro e w' ⟨rfl, rfl⟩)
          go_ret
          exact ⟨rfl, HW.out.alloc _ _⟩
        | true =>
          have HG1 := Lib.hid (HY.out hp)
          rw [hp] at KJ
          clear hp HG HB HY
          go_wp2_with (go_at_call 36; (with_reducible refine (KJ.out _).mono ?_); rintro e w' ⟨rfl, rfl⟩)
          go_roundw
          case rel => exact ⟨i + 1, by go_num, by omega, HG1, Lib.hid (HW.out.alloc _ _)⟩
          case measure => simp [intOf]; omega
      · obtain rfl : i = m + 1 := by omega
        obtain rfl : r = 0 := HM.out true (decide_eq_true (fun j hj => ⟨HQ1.out j hj, HG.out j (by rw [HL.out] at hj; exact hj)⟩))
        clear HM HG
        go_wp2_with fail
        go_ret
        exact ⟨rfl, HW.out⟩
end Go.Proofs.Ytflahclphdlolaa

/- What Validate of the reference of package recent returns. -/
namespace Go.Proofs.Ytflahclphdlolaa
open Go.RowKit

set_option maxHeartbeats 4000000 in
set_option maxRecDepth 100000 in
theorem rvalidate9_up (v c now : Int) (n k : Nat) (A : Option Addr) (L : List It) (w : World) (hS : Sl w A n L) :
    Calls Try.prog 17 #[.agg #[.int .i64 v, .int .i64 c, .int .i64 now, .slice A n k]] w fun e w' => e = .returned (.int .i64 (stE v c now L)) ∧ Up w w' := by
  have KM := Lib.hid (rmay_any v c now)
  cases hm : mayB v c now with
  | false =>
    rw [stE_no (stB_may hm)]
    rw [hm] at KM
    clear hm hS
    go_enter Try.func17, Try.ntmps17
    go_wp2_with (go_at_call 31; (with_reducible refine (KM.out _).mono ?_); rintro e w' ⟨rfl, rfl⟩)
    go_ret
    refine ⟨rfl, ?_⟩
    repeat (first | exact Up.refl _ | refine Up.alloc ?_ _ _ | refine Up.setCell ?_ (by first | (simp; done) | (simp; omega) | omega) _ | refine Up.drewN ?_ _ | refine Up.drew ?_)
  | true =>
  rw [hm] at KM
  obtain ⟨hm1, hm2, hm3, hm4⟩ := mayB_true hm
  by_cases hl : c < (n : Int)
  · rw [stE_no (stB_len (by rw [hS.1]; exact hl))]
    clear hm hS hm1 hm2 hm3 hm4
    have t1 : decide (c < (n : Int)) = true := decide_eq_true hl
    go_enter Try.func17, Try.ntmps17
    go_wp2_with (go_at_call 31; (with_reducible refine (KM.out _).mono ?_); rintro e w' ⟨rfl, rfl⟩)
    go_ret
    refine ⟨rfl, ?_⟩
    repeat (first | exact Up.refl _ | refine Up.alloc ?_ _ _ | refine Up.setCell ?_ (by first | (simp; done) | (simp; omega) | omega) _ | refine Up.drewN ?_ _ | refine Up.drew ?_)
  have t1 : decide (c < (n : Int)) = false := decide_eq_false hl
  have hn9 : n ≤ 65536 := by omega
  have KV := Lib.hid (fun W (h : Sl W A n L) => rvalid8_up n k A L now (by omega) W h)
  cases hv : valB L now with
  | false =>
    rw [stE_no (stB_val hv)]
    rw [hv] at KV
    have HS := Lib.hid hS
    clear hm hS hm1 hm2 hm3 hm4 hv
    go_enter Try.func17, Try.ntmps17
    go_wp2_with (first | (go_at_call 31; (with_reducible refine (KM.out _).mono ?_); rintro e w' ⟨rfl, rfl⟩) | (go_at_call 40; (with_reducible refine (KV.out _ (HS.out.up ((Up.refl w).alloc _ _))).mono ?_); rintro e w' ⟨rfl, hu⟩; have HU := Lib.hid hu; clear hu))
    go_ret
    exact ⟨rfl, ((Up.refl w).alloc _ _).trans HU.out⟩
  | true =>
  rw [hv] at KV
  have HL := Lib.hid hS.1
  have HS := Lib.hid hS
  have HM := Lib.hid (show ∀ x : Bool, okB now v L = x → stE v c now L = if x = true then 0 else 2 from fun x hx => by
    cases x with
    | true => rw [stE_yes (stB_yes hm (by rw [hS.1]; omega) hv hx)]; rfl
    | false => rw [stE_no (stB_ok hx)]; rfl)
  generalize hr : stE v c now L = r at HM ⊢
  have KJ := Lib.hid (rlive_any now v)
  have KI := Lib.hid rvalue_any
  clear hr hS hv hm hm1 hm2 hl
  go_enter Try.func17, Try.ntmps17
  go_wp2_with (first | (go_at_call 31; (with_reducible refine (KM.out _).mono ?_); rintro e w' ⟨rfl, rfl⟩) | (go_at_call 40; (with_reducible refine (KV.out _ (HS.out.up ((Up.refl w).alloc _ _))).mono ?_); rintro e w1 ⟨rfl, hu⟩; have c0 := hu.keep w.heap.size 0 (.int .i64 v) (by simp [go_sem]); have c2 := hu.keep w.heap.size 2 (.int .i64 now) (by simp [go_sem]); have c3 := hu.keep w.heap.size 3 (.slice A n k) (by simp [go_sem]); have HU := Lib.hid (((Up.refl w).alloc #[.int .i64 v, .int .i64 c, .int .i64 now, .slice A n k] 24).trans hu); clear hu))
  have HC0 := Lib.hid c0
  have HC2 := Lib.hid c2
  clear c0 c2 c3
  go_loopw [32] (fun t wr => ∃ i : Nat, t = .int .i64 i ∧ i ≤ n ∧ Hid (∀ j, j < i → okI now v L j) ∧ Hid (Up w1 wr)) (fun t _ => n - (intOf t).toNat)
  case atStart => exact ⟨0, rfl, Nat.zero_le _, Lib.hid (fun j hj => absurd hj (Nat.not_lt_zero _)), Lib.hid (Up.refl _)⟩
  case round =>
    obtain ⟨i, rfl, hin, HG, HW⟩ := hrel
    by_cases hi : i < n
    · obtain ⟨b', o', rfl, d0, d1⟩ := (HS.out.up (HU.out.trans HW.out)).at_ hi
      have hil : i < L.length := by rw [HL.out]; exact hi
      have c0 := HW.out.keep _ _ _ HC0.out
      have c2 := HW.out.keep _ _ _ HC2.out
      have hb0 : w.heap.size < wr.heap.size := World.block_lt_of_cell? _ _ c0
      have HB : Hid (¬ okI now v L i → r = 2) := Lib.hid (fun h => HM.out false (okB_bad hil h))
      have HY : Hid (okI now v L i → ∀ j, j < i + 1 → okI now v L j) := Lib.hid (fun h j hj => by
        rcases Nat.lt_or_ge j i with g | g
        · exact HG.out j g
        · obtain rfl : j = i := by omega
          exact h)
      have HO : Hid (okI now v L i ↔ liveB now v (L.getD i (0, 0)).1 = true ∧ valueB (L.getD i (0, 0)).2 = true) := Lib.hid Iff.rfl
      generalize okI now v L i = oi at HB HY HO
      generalize (L.getD i (0, 0)).1 = p0 at d0 HO
      generalize (L.getD i (0, 0)).2 = p1 at d1 HO
      have f2 : (i : Int) < n := by omega
      have f3 : (0 : Int) ≤ i := by omega
      have KA := Lib.hid (KJ.out p0)
      have KB := Lib.hid (KI.out p1)
      generalize liveB now v p0 = x at KA HO
      generalize valueB p1 = y at KB HO
      cases x with
      | false =>
        obtain rfl : r = 2 := HB.out (fun h => by have := (HO.out.1 h).1; cases this)
        clear HM HG HB HY HO KB
        go_wp2_with (go_at_call 41; (with_reducible refine (KA.out _).mono ?_); rintro e w' ⟨rfl, rfl⟩)
        go_ret
        exact ⟨rfl, (HU.out.trans HW.out).alloc _ _⟩
      | true =>
        cases y with
        | false =>
          obtain rfl : r = 2 := HB.out (fun h => by have := (HO.out.1 h).2; cases this)
          clear HM HG HB HY HO
          go_wp2_with (first | (go_at_call 41; (with_reducible refine (KA.out _).mono ?_); rintro e w' ⟨rfl, rfl⟩) | (go_at_call 37; (with_reducible refine (KB.out _).mono ?_); rintro e w' ⟨rfl, rfl⟩))
          go_ret
          exact ⟨rfl, (HU.out.trans HW.out).alloc _ _⟩
        | true =>
          have HG1 := Lib.hid (HY.out (HO.out.2 ⟨rfl, rfl⟩))
          clear HG HB HY HO
          go_wp2_with (first | (go_at_call 41; (with_reducible refine (KA.out _).mono ?_); rintro e w' ⟨rfl, rfl⟩) | (go_at_call 37; (with_reducible refine (KB.out _).mono ?_); rintro e w' ⟨rfl, rfl⟩))
          go_roundw
          case rel => exact ⟨i + 1, by go_num, by omega, HG1, Lib.hid (HW.out.alloc _ _)⟩
          case measure => simp [intOf]; omega
    · obtain rfl : i = n := by omega
      obtain rfl : r = 0 := HM.out true (decide_eq_true (fun j hj => HG.out j (by rw [HL.out] at hj; exact hj)))
      clear HM HG
      go_wp2_with fail
      go_ret
      exact ⟨rfl, HU.out.trans HW.out⟩
end Go.Proofs.Ytflahclphdlolaa

/- What Advance of package recent and of its reference returns. -/
namespace Go.Proofs.Ytflahclphdlolaa
open Go.RowKit

theorem valB_later {L : List It} {now to : Int} (h : valB L now = true) (h1 : now ≤ to) (h2 : to ≤ 16777216) : valB L to = true := by
  unfold valB at h ⊢
  rw [Bool.and_eq_true, decide_eq_true_eq] at h ⊢
  exact ⟨tickB_yes (by have := tickB_true h.1; omega) h2, fun j hj => by have g := h.2 j hj; exact ⟨g.1, by have := g.2.1; omega, g.2.2⟩⟩
theorem adv_live {L : List It} {v c now to : Int} (h : mayB v c now = true ∧ (L.length : Int) ≤ c ∧ valB L now = true ∧ okB now v L = true) (h1 : now ≤ to) (h2 : to ≤ 16777216) : (valB L to && winB v) = true := by
  rw [valB_later h.2.2.1 h1 h2, (mayB_true h.1).2.1]; rfl
theorem Sl.off {w : World} {A : Option Addr} {n p o : Nat} {M : List It} (h : Sl w A n M) (hn : ∀ b o, A = some ⟨b, o, none⟩ → b ≠ p) (x : Value) : Sl (w.setCell ⟨p, o, none⟩ x) A n M := by
  refine ⟨h.1, fun h0 => ?_⟩
  obtain ⟨b, o, e, hc⟩ := h.2 h0
  exact ⟨b, o, e, fun j u hj => (cell_far (fun hp => hn b o e hp.symm)).trans (hc j u hj)⟩
/-- An address that was not there before. -/
def Nw (w : World) (A : Option Addr) : Prop := ∀ b o, A = some ⟨b, o, none⟩ → w.heap.size ≤ b
theorem Own.nw {w0 w : World} {A : Option Addr} {n c : Nat} {L : List It} (h : Own w0 w (.slice A n c) n L) : Nw w0 A := by
  intro b o e
  rcases h.2 with ⟨h1, _⟩ | ⟨g, cap, cur, h1, h2, _⟩
  · injection h1 with h1; rw [h1] at e; cases e
  · injection h1 with h1
    rw [h1] at e
    injection e with e
    injection e with e1 e2
    omega
theorem Own.cap {w0 w : World} {A : Option Addr} {n c : Nat} {L : List It} (h : Own w0 w (.slice A n c) n L) : n ≤ c := by
  obtain ⟨A2, c2, e, h1, _⟩ := h.sl
  cases e
  exact h1
theorem Nw.up {w w1 : World} {A : Option Addr} (h : Nw w1 A) (hu : Up w w1) : Nw w A := fun b o e => Nat.le_trans hu.size (h b o e)
theorem back_no {now to : Int} (h : to < now ∨ 16777216 < to) : backE now to = 3 := if_pos h
theorem back_yes {now to : Int} (h : now ≤ to) (k : to ≤ 16777216) : backE now to = 0 := if_neg (by omega)
theorem adv_no {now to : Int} (ht : tickB now = true) (h : to < now ∨ 16777216 < to) : (if tickB now = true then (if to < now ∨ 16777216 < to then ((0 : Int), (3 : Int)) else (to, 0)) else (0, 1)) = (0, 3) := by rw [if_pos ht, if_pos h]
theorem adv_yes {now to : Int} (ht : tickB now = true) (h : now ≤ to) (k : to ≤ 16777216) : (if tickB now = true then (if to < now ∨ 16777216 < to then ((0 : Int), (3 : Int)) else (to, 0)) else (0, 1)) = (to, 0) := by rw [if_pos ht, if_neg (by omega)]

set_option maxHeartbeats 4000000 in
set_option maxRecDepth 100000 in
theorem adv9_bad (v c now to : Int) (n k : Nat) (A : Option Addr) (L : List It) (hv : stB v c now L = false) (w : World) (hS : Sl w A n L) :
    Calls Try.prog 12 #[.agg #[.int .i64 v, .int .i64 c, .int .i64 now, .slice A n k], .int .i64 to] w fun e w' => e = .returned (.tuple #[.agg #[.int .i64 0, .int .i64 0, .int .i64 0, .slice none 0 0], .int .i64 2]) ∧ Up w w' := by
  have KV := Lib.hid (fun W (h : Sl W A n L) => validate9_up v c now n k A L W h)
  rw [stE_no hv] at KV
  have HS := Lib.hid hS
  clear hS hv
  go_enter Try.func12, Try.ntmps12
  go_wp2_with (go_at_call 16; (with_reducible refine (KV.out _ (HS.out.up (((Up.refl w).alloc _ _).alloc _ _))).mono ?_); rintro e w1 ⟨rfl, hu⟩; have HU1 := Lib.hid ((((Up.refl w).alloc #[.int .i64 v, .int .i64 c, .int .i64 now, .slice A n k] 24).alloc #[.int .i64 0, .int .i64 0, .int .i64 0, .slice none 0 0] 24).trans hu); have c00 := hu.keep (w.heap.size) 0 (.int .i64 v) (by simp [go_sem]); have c01 := hu.keep (w.heap.size) 1 (.int .i64 c) (by simp [go_sem]); have c02 := hu.keep (w.heap.size) 2 (.int .i64 now) (by simp [go_sem]); have c03 := hu.keep (w.heap.size) 3 (.slice A n k) (by simp [go_sem]); have c10 := hu.keep (w.heap.size + 1) 0 (.int .i64 0) (by simp [go_sem]); have c11 := hu.keep (w.heap.size + 1) 1 (.int .i64 0) (by simp [go_sem]); have c12 := hu.keep (w.heap.size + 1) 2 (.int .i64 0) (by simp [go_sem]); have c13 := hu.keep (w.heap.size + 1) 3 (.slice none 0 0) (by simp [go_sem]); have z00 := HU1.out.ownGe (g := w.heap.size) (Nat.le_refl _) 0; have z01 := HU1.out.ownGe (g := w.heap.size) (Nat.le_refl _) 1; have z02 := HU1.out.ownGe (g := w.heap.size) (Nat.le_refl _) 2; have z03 := HU1.out.ownGe (g := w.heap.size) (Nat.le_refl _) 3; have z10 := HU1.out.ownGe (g := w.heap.size + 1) (by omega) 0; have z11 := HU1.out.ownGe (g := w.heap.size + 1) (by omega) 1; have z12 := HU1.out.ownGe (g := w.heap.size + 1) (by omega) 2; have z13 := HU1.out.ownGe (g := w.heap.size + 1) (by omega) 3; have hlt : w.heap.size + 1 < w1.heap.size := World.block_lt_of_cell? _ _ c10; have hlt0 : w.heap.size < w1.heap.size := Nat.lt_of_succ_lt hlt; clear hu)
  refine bodyPost_ret (v := .tuple #[.agg #[.int .i64 0, .int .i64 0, .int .i64 0, .slice none 0 0], .int .i64 2]) (by simp [results, Try.results12, go_sem, c10, c11, c12, c13]) rfl ⟨rfl, ?_⟩
  exact HU1.out.set4 (by omega)

set_option maxHeartbeats 4000000 in
set_option maxRecDepth 100000 in
theorem adv9_time (v c now to : Int) (n k : Nat) (A : Option Addr) (L : List It) (hv : stB v c now L = true) (ht : to < now ∨ 16777216 < to) (w : World) (hS : Sl w A n L) :
    Calls Try.prog 12 #[.agg #[.int .i64 v, .int .i64 c, .int .i64 now, .slice A n k], .int .i64 to] w fun e w' => e = .returned (.tuple #[.agg #[.int .i64 0, .int .i64 0, .int .i64 0, .slice none 0 0], .int .i64 3]) ∧ Up w w' := by
  have KV := Lib.hid (fun W (h : Sl W A n L) => validate9_up v c now n k A L W h)
  rw [stE_yes hv] at KV
  have HS := Lib.hid hS
  have KB := Lib.hid (fun W => advance_any now to 0 3 (adv_no (mayB_true (stB_true hv).1).1 ht) W)
  clear hS hv ht
  go_enter Try.func12, Try.ntmps12
  go_wp2_with (first | (go_at_call 32; (with_reducible refine (KB.out _).mono ?_); rintro e w2 ⟨rfl, rfl⟩) | (go_at_call 16; (with_reducible refine (KV.out _ (HS.out.up (((Up.refl w).alloc _ _).alloc _ _))).mono ?_); rintro e w1 ⟨rfl, hu⟩; have HU1 := Lib.hid ((((Up.refl w).alloc #[.int .i64 v, .int .i64 c, .int .i64 now, .slice A n k] 24).alloc #[.int .i64 0, .int .i64 0, .int .i64 0, .slice none 0 0] 24).trans hu); have c00 := hu.keep (w.heap.size) 0 (.int .i64 v) (by simp [go_sem]); have c01 := hu.keep (w.heap.size) 1 (.int .i64 c) (by simp [go_sem]); have c02 := hu.keep (w.heap.size) 2 (.int .i64 now) (by simp [go_sem]); have c03 := hu.keep (w.heap.size) 3 (.slice A n k) (by simp [go_sem]); have c10 := hu.keep (w.heap.size + 1) 0 (.int .i64 0) (by simp [go_sem]); have c11 := hu.keep (w.heap.size + 1) 1 (.int .i64 0) (by simp [go_sem]); have c12 := hu.keep (w.heap.size + 1) 2 (.int .i64 0) (by simp [go_sem]); have c13 := hu.keep (w.heap.size + 1) 3 (.slice none 0 0) (by simp [go_sem]); have z00 := HU1.out.ownGe (g := w.heap.size) (Nat.le_refl _) 0; have z01 := HU1.out.ownGe (g := w.heap.size) (Nat.le_refl _) 1; have z02 := HU1.out.ownGe (g := w.heap.size) (Nat.le_refl _) 2; have z03 := HU1.out.ownGe (g := w.heap.size) (Nat.le_refl _) 3; have z10 := HU1.out.ownGe (g := w.heap.size + 1) (by omega) 0; have z11 := HU1.out.ownGe (g := w.heap.size + 1) (by omega) 1; have z12 := HU1.out.ownGe (g := w.heap.size + 1) (by omega) 2; have z13 := HU1.out.ownGe (g := w.heap.size + 1) (by omega) 3; have hlt : w.heap.size + 1 < w1.heap.size := World.block_lt_of_cell? _ _ c10; have hlt0 : w.heap.size < w1.heap.size := Nat.lt_of_succ_lt hlt; clear hu))
  refine bodyPost_ret (v := .tuple #[.agg #[.int .i64 0, .int .i64 0, .int .i64 0, .slice none 0 0], .int .i64 3]) (by simp [results, Try.results12, go_sem, c10, c11, c12, c13]) rfl ⟨rfl, ?_⟩
  exact HU1.out.set4 (by omega)

set_option maxHeartbeats 4000000 in
set_option maxRecDepth 100000 in
theorem adv9_good (v c now to : Int) (n k : Nat) (A : Option Addr) (L : List It) (hv : stB v c now L = true) (h1 : now ≤ to) (h2 : to ≤ 16777216) (w : World) (hS : Sl w A n L) :
    Calls Try.prog 12 #[.agg #[.int .i64 v, .int .i64 c, .int .i64 now, .slice A n k], .int .i64 to] w fun e w' => ∃ A' n' k', e = .returned (.tuple #[.agg #[.int .i64 v, .int .i64 c, .int .i64 to, .slice A' n' k'], .int .i64 0]) ∧ n' ≤ n ∧ n' ≤ k' ∧ Nw w A' ∧ Sl w' A' n' (livE L to v) ∧ Up w w' := by
  have KV := Lib.hid (fun W (h : Sl W A n L) => validate9_up v c now n k A L W h)
  rw [stE_yes hv] at KV
  have HS := Lib.hid hS
  have hn : n ≤ 65536 := by
    have := stB_true hv
    have h3 := (mayB_true this.1).2.2.2
    have h4 := this.2.1
    rw [hS.1] at h4
    omega
  have KL := Lib.hid (fun W (h : Sl W A n L) => live8_up_own n k A L to v (by omega) (adv_live (stB_true hv) h1 h2) W h)
  have KB := Lib.hid (fun W => advance_any now to to 0 (adv_yes (mayB_true (stB_true hv).1).1 h1 h2) W)
  clear hS hv h1 h2 hn
  generalize livE L to v = M at KL ⊢
  go_enter Try.func12, Try.ntmps12
  go_wp2_with (first | (go_at_call 32; (with_reducible refine (KB.out _).mono ?_); rintro e w1 ⟨rfl, rfl⟩) | (go_at_call 16; (with_reducible refine (KV.out _ (HS.out.up (((Up.refl w).alloc _ _).alloc _ _))).mono ?_); rintro e w1 ⟨rfl, hu⟩; have HU1 := Lib.hid ((((Up.refl w).alloc #[.int .i64 v, .int .i64 c, .int .i64 now, .slice A n k] 24).alloc #[.int .i64 0, .int .i64 0, .int .i64 0, .slice none 0 0] 24).trans hu); have c00 := hu.keep (w.heap.size) 0 (.int .i64 v) (by simp [go_sem]); have c01 := hu.keep (w.heap.size) 1 (.int .i64 c) (by simp [go_sem]); have c02 := hu.keep (w.heap.size) 2 (.int .i64 now) (by simp [go_sem]); have c03 := hu.keep (w.heap.size) 3 (.slice A n k) (by simp [go_sem]); have c10 := hu.keep (w.heap.size + 1) 0 (.int .i64 0) (by simp [go_sem]); have c11 := hu.keep (w.heap.size + 1) 1 (.int .i64 0) (by simp [go_sem]); have c12 := hu.keep (w.heap.size + 1) 2 (.int .i64 0) (by simp [go_sem]); have c13 := hu.keep (w.heap.size + 1) 3 (.slice none 0 0) (by simp [go_sem]); have z00 := HU1.out.ownGe (g := w.heap.size) (Nat.le_refl _) 0; have z01 := HU1.out.ownGe (g := w.heap.size) (Nat.le_refl _) 1; have z02 := HU1.out.ownGe (g := w.heap.size) (Nat.le_refl _) 2; have z03 := HU1.out.ownGe (g := w.heap.size) (Nat.le_refl _) 3; have z10 := HU1.out.ownGe (g := w.heap.size + 1) (by omega) 0; have z11 := HU1.out.ownGe (g := w.heap.size + 1) (by omega) 1; have z12 := HU1.out.ownGe (g := w.heap.size + 1) (by omega) 2; have z13 := HU1.out.ownGe (g := w.heap.size + 1) (by omega) 3; have hlt : w.heap.size + 1 < w1.heap.size := World.block_lt_of_cell? _ _ c10; have hlt0 : w.heap.size < w1.heap.size := Nat.lt_of_succ_lt hlt; clear hu))
  refine (KL.out _ (HS.out.up HU1.out)).mono ?_
  rintro e w2 ⟨A2, n2, k2, rfl, hn2, hM, hu⟩
  have HU2 := Lib.hid (HU1.out.trans hu)
  have HM := Lib.hid hM
  have d10 := hu.keep _ _ _ c10
  have d11 := hu.keep _ _ _ c11
  have d12 := hu.keep _ _ _ c12
  have d13 := hu.keep _ _ _ c13
  have d00 := hu.keep _ _ _ c00
  have d01 := hu.keep _ _ _ c01
  have d02 := hu.keep _ _ _ c02
  have d03 := hu.keep _ _ _ c03
  have y00 := HU2.out.ownGe (g := w.heap.size) (Nat.le_refl _) 0
  have y10 := HU2.out.ownGe (g := w.heap.size + 1) (by omega) 0
  have y01 := HU2.out.ownGe (g := w.heap.size) (Nat.le_refl _) 1
  have y11 := HU2.out.ownGe (g := w.heap.size + 1) (by omega) 1
  have y02 := HU2.out.ownGe (g := w.heap.size) (Nat.le_refl _) 2
  have y12 := HU2.out.ownGe (g := w.heap.size + 1) (by omega) 2
  have y03 := HU2.out.ownGe (g := w.heap.size) (Nat.le_refl _) 3
  have y13 := HU2.out.ownGe (g := w.heap.size + 1) (by omega) 3
  clear c00 c01 c02 c03 c10 c11 c12 c13 z00 z01 z02 z03 z10 z11 z12 z13 hu hM
  go_wp2_with fail
  refine bodyPost_ret (v := .tuple #[.agg #[.int .i64 v, .int .i64 c, .int .i64 to, .slice A2 n2 k2], .int .i64 0]) (by simp [results, Try.results12, go_sem, d10, d11, d12, d13]) rfl ⟨A2, n2, k2, rfl, hn2, HM.out.cap, HM.out.nw.up HU1.out, ?_, ?_⟩
  · obtain ⟨A3, k3, e3, _, hS3⟩ := HM.out.sl
    cases e3
    exact ((hS3.off (HM.out.off (by omega)) _).off (HM.out.off (by omega)) _).off4 (HM.out.off (by omega)) _ _ _ _
  · exact ((HU2.out.setCell (Nat.le_refl _) _).setCell (Nat.le_refl _) _).set4 (by omega)

set_option maxHeartbeats 4000000 in
set_option maxRecDepth 100000 in
theorem radv9_bad (v c now to : Int) (n k : Nat) (A : Option Addr) (L : List It) (hv : stB v c now L = false) (w : World) (hS : Sl w A n L) :
    Calls Try.prog 13 #[.agg #[.int .i64 v, .int .i64 c, .int .i64 now, .slice A n k], .int .i64 to] w fun e w' => e = .returned (.tuple #[.agg #[.int .i64 0, .int .i64 0, .int .i64 0, .slice none 0 0], .int .i64 2]) ∧ Up w w' := by
  have KV := Lib.hid (fun W (h : Sl W A n L) => rvalidate9_up v c now n k A L W h)
  rw [stE_no hv] at KV
  have HS := Lib.hid hS
  clear hS hv
  go_enter Try.func13, Try.ntmps13
  go_wp2_with (go_at_call 17; (with_reducible refine (KV.out _ (HS.out.up (((Up.refl w).alloc _ _).alloc _ _))).mono ?_); rintro e w1 ⟨rfl, hu⟩; have HU1 := Lib.hid ((((Up.refl w).alloc #[.int .i64 v, .int .i64 c, .int .i64 now, .slice A n k] 24).alloc #[.int .i64 0, .int .i64 0, .int .i64 0, .slice none 0 0] 24).trans hu); have c00 := hu.keep (w.heap.size) 0 (.int .i64 v) (by simp [go_sem]); have c01 := hu.keep (w.heap.size) 1 (.int .i64 c) (by simp [go_sem]); have c02 := hu.keep (w.heap.size) 2 (.int .i64 now) (by simp [go_sem]); have c03 := hu.keep (w.heap.size) 3 (.slice A n k) (by simp [go_sem]); have c10 := hu.keep (w.heap.size + 1) 0 (.int .i64 0) (by simp [go_sem]); have c11 := hu.keep (w.heap.size + 1) 1 (.int .i64 0) (by simp [go_sem]); have c12 := hu.keep (w.heap.size + 1) 2 (.int .i64 0) (by simp [go_sem]); have c13 := hu.keep (w.heap.size + 1) 3 (.slice none 0 0) (by simp [go_sem]); have z00 := HU1.out.ownGe (g := w.heap.size) (Nat.le_refl _) 0; have z01 := HU1.out.ownGe (g := w.heap.size) (Nat.le_refl _) 1; have z02 := HU1.out.ownGe (g := w.heap.size) (Nat.le_refl _) 2; have z03 := HU1.out.ownGe (g := w.heap.size) (Nat.le_refl _) 3; have z10 := HU1.out.ownGe (g := w.heap.size + 1) (by omega) 0; have z11 := HU1.out.ownGe (g := w.heap.size + 1) (by omega) 1; have z12 := HU1.out.ownGe (g := w.heap.size + 1) (by omega) 2; have z13 := HU1.out.ownGe (g := w.heap.size + 1) (by omega) 3; have hlt : w.heap.size + 1 < w1.heap.size := World.block_lt_of_cell? _ _ c10; have hlt0 : w.heap.size < w1.heap.size := Nat.lt_of_succ_lt hlt; clear hu)
  refine bodyPost_ret (v := .tuple #[.agg #[.int .i64 0, .int .i64 0, .int .i64 0, .slice none 0 0], .int .i64 2]) (by simp [results, Try.results13, go_sem, c10, c11, c12, c13]) rfl ⟨rfl, ?_⟩
  exact HU1.out.set4 (by omega)

set_option maxHeartbeats 4000000 in
set_option maxRecDepth 100000 in
theorem radv9_time (v c now to : Int) (n k : Nat) (A : Option Addr) (L : List It) (hv : stB v c now L = true) (ht : to < now ∨ 16777216 < to) (w : World) (hS : Sl w A n L) :
    Calls Try.prog 13 #[.agg #[.int .i64 v, .int .i64 c, .int .i64 now, .slice A n k], .int .i64 to] w fun e w' => e = .returned (.tuple #[.agg #[.int .i64 0, .int .i64 0, .int .i64 0, .slice none 0 0], .int .i64 3]) ∧ Up w w' := by
  have KV := Lib.hid (fun W (h : Sl W A n L) => rvalidate9_up v c now n k A L W h)
  rw [stE_yes hv] at KV
  have HS := Lib.hid hS
  have KB := Lib.hid (fun W => rback_any now to W)
  rw [back_no ht] at KB
  clear hS hv ht
  go_enter Try.func13, Try.ntmps13
  go_wp2_with (first | (go_at_call 34; (with_reducible refine (KB.out _).mono ?_); rintro e w2 ⟨rfl, rfl⟩) | (go_at_call 17; (with_reducible refine (KV.out _ (HS.out.up (((Up.refl w).alloc _ _).alloc _ _))).mono ?_); rintro e w1 ⟨rfl, hu⟩; have HU1 := Lib.hid ((((Up.refl w).alloc #[.int .i64 v, .int .i64 c, .int .i64 now, .slice A n k] 24).alloc #[.int .i64 0, .int .i64 0, .int .i64 0, .slice none 0 0] 24).trans hu); have c00 := hu.keep (w.heap.size) 0 (.int .i64 v) (by simp [go_sem]); have c01 := hu.keep (w.heap.size) 1 (.int .i64 c) (by simp [go_sem]); have c02 := hu.keep (w.heap.size) 2 (.int .i64 now) (by simp [go_sem]); have c03 := hu.keep (w.heap.size) 3 (.slice A n k) (by simp [go_sem]); have c10 := hu.keep (w.heap.size + 1) 0 (.int .i64 0) (by simp [go_sem]); have c11 := hu.keep (w.heap.size + 1) 1 (.int .i64 0) (by simp [go_sem]); have c12 := hu.keep (w.heap.size + 1) 2 (.int .i64 0) (by simp [go_sem]); have c13 := hu.keep (w.heap.size + 1) 3 (.slice none 0 0) (by simp [go_sem]); have z00 := HU1.out.ownGe (g := w.heap.size) (Nat.le_refl _) 0; have z01 := HU1.out.ownGe (g := w.heap.size) (Nat.le_refl _) 1; have z02 := HU1.out.ownGe (g := w.heap.size) (Nat.le_refl _) 2; have z03 := HU1.out.ownGe (g := w.heap.size) (Nat.le_refl _) 3; have z10 := HU1.out.ownGe (g := w.heap.size + 1) (by omega) 0; have z11 := HU1.out.ownGe (g := w.heap.size + 1) (by omega) 1; have z12 := HU1.out.ownGe (g := w.heap.size + 1) (by omega) 2; have z13 := HU1.out.ownGe (g := w.heap.size + 1) (by omega) 3; have hlt : w.heap.size + 1 < w1.heap.size := World.block_lt_of_cell? _ _ c10; have hlt0 : w.heap.size < w1.heap.size := Nat.lt_of_succ_lt hlt; clear hu))
  refine bodyPost_ret (v := .tuple #[.agg #[.int .i64 0, .int .i64 0, .int .i64 0, .slice none 0 0], .int .i64 3]) (by simp [results, Try.results13, go_sem, c10, c11, c12, c13]) rfl ⟨rfl, ?_⟩
  exact HU1.out.set4 (by omega)

set_option maxHeartbeats 4000000 in
set_option maxRecDepth 100000 in
theorem radv9_good (v c now to : Int) (n k : Nat) (A : Option Addr) (L : List It) (hv : stB v c now L = true) (h1 : now ≤ to) (h2 : to ≤ 16777216) (w : World) (hS : Sl w A n L) :
    Calls Try.prog 13 #[.agg #[.int .i64 v, .int .i64 c, .int .i64 now, .slice A n k], .int .i64 to] w fun e w' => ∃ A' n' k', e = .returned (.tuple #[.agg #[.int .i64 v, .int .i64 c, .int .i64 to, .slice A' n' k'], .int .i64 0]) ∧ n' ≤ n ∧ n' ≤ k' ∧ Nw w A' ∧ Sl w' A' n' (livE L to v) ∧ Up w w' := by
  have KV := Lib.hid (fun W (h : Sl W A n L) => rvalidate9_up v c now n k A L W h)
  rw [stE_yes hv] at KV
  have HS := Lib.hid hS
  have hn : n ≤ 65536 := by
    have := stB_true hv
    have h3 := (mayB_true this.1).2.2.2
    have h4 := this.2.1
    rw [hS.1] at h4
    omega
  have KL := Lib.hid (fun W (h : Sl W A n L) => rlive8_up_own n k A L to v (by omega) (adv_live (stB_true hv) h1 h2) W h)
  have KB := Lib.hid (fun W => rback_any now to W)
  rw [back_yes h1 h2] at KB
  clear hS hv h1 h2 hn
  generalize livE L to v = M at KL ⊢
  go_enter Try.func13, Try.ntmps13
  go_wp2_with (first | (go_at_call 34; (with_reducible refine (KB.out _).mono ?_); rintro e w1 ⟨rfl, rfl⟩) | (go_at_call 17; (with_reducible refine (KV.out _ (HS.out.up (((Up.refl w).alloc _ _).alloc _ _))).mono ?_); rintro e w1 ⟨rfl, hu⟩; have HU1 := Lib.hid ((((Up.refl w).alloc #[.int .i64 v, .int .i64 c, .int .i64 now, .slice A n k] 24).alloc #[.int .i64 0, .int .i64 0, .int .i64 0, .slice none 0 0] 24).trans hu); have c00 := hu.keep (w.heap.size) 0 (.int .i64 v) (by simp [go_sem]); have c01 := hu.keep (w.heap.size) 1 (.int .i64 c) (by simp [go_sem]); have c02 := hu.keep (w.heap.size) 2 (.int .i64 now) (by simp [go_sem]); have c03 := hu.keep (w.heap.size) 3 (.slice A n k) (by simp [go_sem]); have c10 := hu.keep (w.heap.size + 1) 0 (.int .i64 0) (by simp [go_sem]); have c11 := hu.keep (w.heap.size + 1) 1 (.int .i64 0) (by simp [go_sem]); have c12 := hu.keep (w.heap.size + 1) 2 (.int .i64 0) (by simp [go_sem]); have c13 := hu.keep (w.heap.size + 1) 3 (.slice none 0 0) (by simp [go_sem]); have z00 := HU1.out.ownGe (g := w.heap.size) (Nat.le_refl _) 0; have z01 := HU1.out.ownGe (g := w.heap.size) (Nat.le_refl _) 1; have z02 := HU1.out.ownGe (g := w.heap.size) (Nat.le_refl _) 2; have z03 := HU1.out.ownGe (g := w.heap.size) (Nat.le_refl _) 3; have z10 := HU1.out.ownGe (g := w.heap.size + 1) (by omega) 0; have z11 := HU1.out.ownGe (g := w.heap.size + 1) (by omega) 1; have z12 := HU1.out.ownGe (g := w.heap.size + 1) (by omega) 2; have z13 := HU1.out.ownGe (g := w.heap.size + 1) (by omega) 3; have hlt : w.heap.size + 1 < w1.heap.size := World.block_lt_of_cell? _ _ c10; have hlt0 : w.heap.size < w1.heap.size := Nat.lt_of_succ_lt hlt; clear hu))
  have HSS : Hid (Up w w1 ∧ w1.cell? ⟨w.heap.size, 0, none⟩ = some (.int .i64 v) ∧ w1.cell? ⟨w.heap.size, 1, none⟩ = some (.int .i64 c) ∧ w1.cell? ⟨w.heap.size, 3, none⟩ = some (.slice A n k)) := Lib.hid ⟨HU1.out, c00, c01, c03⟩
  go_region_held3 (fun w' => Up w w' ∧ w'.cell? ⟨w.heap.size, 0, none⟩ = some (.int .i64 v) ∧ w'.cell? ⟨w.heap.size, 1, none⟩ = some (.int .i64 c) ∧ w'.cell? ⟨w.heap.size, 3, none⟩ = some (.slice A n k))
    (repeat (first | (with_reducible refine set3 ?_ (by omega) (by omega) (by omega) (by omega)) | (with_reducible exact HSS.out) | (with_reducible exact keep3 (by assumption) (by assumption)) | (with_reducible exact Hid.out (by assumption)) | (with_reducible refine keep3 (Lib.hid (Up.refl _).drew) ?_)))
    (first
      | (go_at_call 35; (with_reducible refine (KL.out _ (HS.out.up (by assumption : Up w _ ∧ _).1)).mono ?_); rintro e w2 ⟨A2, n2, k2, rfl, hn2, hM, hu⟩; have HU2 := Lib.hid hu; have HS2 := Lib.hid (keep3 HU2 (by assumption)); have HM := Lib.hid hM; have d10 := hu.keep (w.heap.size + 1) 0 (.int .i64 0) c10; have d11 := hu.keep (w.heap.size + 1) 1 (.int .i64 0) c11; have d12 := hu.keep (w.heap.size + 1) 2 (.int .i64 0) c12; have d13 := hu.keep (w.heap.size + 1) 3 (.slice none 0 0) c13; have y10 := HS2.out.1.ownGe (g := w.heap.size + 1) (by omega) 0; have y11 := HS2.out.1.ownGe (g := w.heap.size + 1) (by omega) 1; have y12 := HS2.out.1.ownGe (g := w.heap.size + 1) (by omega) 2; have y13 := HS2.out.1.ownGe (g := w.heap.size + 1) (by omega) 3; clear hu hM))
  clear ‹Up w _ ∧ _›
  clear c00 c01 c02 c03 c10 c11 c12 c13 z00 z01 z02 z03 z10 z11 z12 z13
  go_wp2_with fail
  refine bodyPost_ret (v := .tuple #[.agg #[.int .i64 v, .int .i64 c, .int .i64 to, .slice A2 n2 k2], .int .i64 0]) (by simp [results, Try.results13, go_sem, d10, d11, d12, d13]) rfl ⟨A2, n2, k2, rfl, hn2, HM.out.cap, HM.out.nw.up HU1.out.drew, ?_, ?_⟩
  · obtain ⟨A3, k3, e3, _, hS3⟩ := HM.out.sl
    cases e3
    exact hS3.off4 (HM.out.off (by simp; omega)) _ _ _ _
  · exact HS2.out.1.set4 (by omega)
end Go.Proofs.Ytflahclphdlolaa

/- What Add of package recent returns. -/
namespace Go.Proofs.Ytflahclphdlolaa
open Go.RowKit

/-- append of one item onto a slice without room: a new block. -/
theorem appendF_run (ty : TypeId) (w0 w : World) (A : Option Addr) (n : Nat) (L : List It) (hS : Sl w A n L) (hu : Up w0 w) (g : Nat) (p0 p1 : Int) (hg : Sl w (some ⟨g, 0, none⟩) 1 [(p0, p1)]) (hn : n ≤ 100000) :
    ∃ g' k' w', (Builtin.append_ #[22, 22] ty #[.slice A n n, .slice (some ⟨g, 0, none⟩) 1 1]).run Try.prog w = .ok (.slice (some ⟨g', 0, none⟩) (n + 1) k') w' ∧ n + 1 ≤ k' ∧ Own w0 w' (.slice (some ⟨g', 0, none⟩) (n + 1) k') (n + 1) (L ++ [(p0, p1)]) ∧ Up w w' := by
  obtain ⟨i, hi, hz, hs, hb⟩ := info_parts item_info
  have ht := Try.underlying22
  have hL := hS.1
  have hnews : ∀ j u, (fl [(p0, p1)])[j]? = some u → w.cell? ((⟨g, 0, none⟩ : Addr).add j) = some u := by
    obtain ⟨b, o, e, hc⟩ := hg.2 (by omega)
    cases e
    intro j u hj
    rw [add_at]
    exact hc j u hj
  have hl : (fl [(p0, p1)]).length = 1 * i.size := by rw [fl_length, hs]; rfl
  have h63 : n + 1 ≤ maxLen := by simp only [maxLen]; omega
  have hfl : (fl (L ++ [(p0, p1)])).length = (n + 1) * 2 := by rw [fl_length, List.length_append, hL]; rfl
  have grown : Own w0 (w.drew.alloc (.cells ((fl L).toArray ++ (fl [(p0, p1)]).toArray ++ Builtin.zeroCells (Value.agg #[Value.int .i64 0, Value.int .i64 0]).cells (grownCap w (n + 1) n 39 - (n + 1))) 39))
      (.slice (some ⟨w.heap.size, 0, none⟩) (n + 1) (grownCap w (n + 1) n 39)) (n + 1) (L ++ [(p0, p1)]) := by
    have hge := grownCap_ge w (n + 1) n 39
    have hcm : grownCap w (n + 1) n 39 ≤ maxLen := grownCap_le_maxLen w (n + 1) n _ h63
    refine ⟨hfl, .inr ⟨w.heap.size, _, _, rfl, hu.size, heap_alloc_new w.drew _, hge, hcm, ?_, ?_⟩⟩
    · simp only [Array.size_append, List.size_toArray, size_zeroCells, fl_length, hL, show (Value.agg #[Value.int .i64 0, Value.int .i64 0]).cells.size = 2 from rfl]
      simp only [List.length_cons, List.length_nil]
      omega
    · simp only [Array.toList_append, List.append_assoc]
      rw [← List.append_assoc, ← fl_append, ← hfl]
      exact List.take_left
  have holds : ∀ a, A = some a → ∀ j u, (fl L)[j]? = some u → w.cell? (a.add j) = some u := by
    intro a ha j u hj
    have hn0 : 0 < n := by
      rcases Nat.eq_zero_or_pos n with h | h
      · rw [h] at hL
        rw [List.length_eq_zero_iff.1 hL] at hj
        cases hj
      · exact h
    obtain ⟨b, o, e, hc⟩ := hS.2 hn0
    rw [ha] at e
    cases e
    rw [add_at]
    exact hc j u hj
  cases A with
  | none =>
    have h0 : n = 0 := by
      rcases Nat.eq_zero_or_pos n with h | h
      · exact h
      · obtain ⟨b, o, e, _⟩ := hS.2 h; cases e
    subst h0
    have hx : L = [] := List.eq_nil_of_length_eq_zero hL
    subst hx
    have hr := run_append_nil (P := Try.prog) w 22 ty 39 i _ ht hi hz ⟨g, 0, none⟩ 1 1 (fl [(p0, p1)]) hl hnews (by omega) (by omega) (by rw [hb]; omega)
    simp only [Nat.zero_add] at grown ⊢
    refine ⟨_, _, _, hr, grownCap_ge w 1 0 _, ?_, (Up.refl w).drew.alloc _ _⟩
    simpa [fl] using grown
  | some a =>
    have hr := run_append_grow (P := Try.prog) w 22 ty 39 i _ ht hi hz a n n (fl L) (by rw [fl_length, hL, hs]) (holds a rfl) ⟨g, 0, none⟩ 1 1 (fl [(p0, p1)]) hl hnews (by omega) (by omega) (growslice_fits (by omega) (by rw [hb]; omega))
    exact ⟨_, _, _, hr, grownCap_ge w (n + 1) n _, grown, (Up.refl w).drew.alloc _ _⟩

theorem slice3_run (A : Option Addr) (n k : Nat) (hk : n ≤ k) (w : World) : (Instr.slice 22 (.slice A n k) none (some (.int .i64 n)) (some (.int .i64 n))).run Try.prog w = .ok (.slice A n n) w := by
  have qs := Try.sizeOf39
  have ht := Try.underlying22
  have e0 : A.map (·.add 0) = A := by cases A <;> simp [Addr.add]
  have h1 : (n : Int) ≤ k := by omega
  simp [Instr.slice, run_underlying ht, Instr.sliceBounds, run_sliceBound, qs, e0, h1, Int.natCast_nonneg]

set_option maxHeartbeats 4000000 in
set_option maxRecDepth 100000 in
theorem add9_bad (v c now x : Int) (n k : Nat) (A : Option Addr) (L : List It) (hv : stB v c now L = false) (w : World) (hS : Sl w A n L) :
    Calls Try.prog 14 #[.agg #[.int .i64 v, .int .i64 c, .int .i64 now, .slice A n k], .int .i64 x] w fun e w' => e = .returned (.tuple #[.agg #[.int .i64 0, .int .i64 0, .int .i64 0, .slice none 0 0], .int .i64 2]) ∧ Up w w' := by
  have KV := Lib.hid (fun W (h : Sl W A n L) => validate9_up v c now n k A L W h)
  rw [stE_no hv] at KV
  have HS := Lib.hid hS
  clear hS hv
  go_enter Try.func14, Try.ntmps14
  go_wp2_with (go_at_call 16; (with_reducible refine (KV.out _ (HS.out.up (((Up.refl w).alloc _ _).alloc _ _))).mono ?_); rintro e w1 ⟨rfl, hu⟩; have HU1 := Lib.hid ((((Up.refl w).alloc #[.int .i64 v, .int .i64 c, .int .i64 now, .slice A n k] 24).alloc #[.int .i64 0, .int .i64 0, .int .i64 0, .slice none 0 0] 24).trans hu); have c00 := hu.keep (w.heap.size) 0 (.int .i64 v) (by simp [go_sem]); have c01 := hu.keep (w.heap.size) 1 (.int .i64 c) (by simp [go_sem]); have c02 := hu.keep (w.heap.size) 2 (.int .i64 now) (by simp [go_sem]); have c03 := hu.keep (w.heap.size) 3 (.slice A n k) (by simp [go_sem]); have c10 := hu.keep (w.heap.size + 1) 0 (.int .i64 0) (by simp [go_sem]); have c11 := hu.keep (w.heap.size + 1) 1 (.int .i64 0) (by simp [go_sem]); have c12 := hu.keep (w.heap.size + 1) 2 (.int .i64 0) (by simp [go_sem]); have c13 := hu.keep (w.heap.size + 1) 3 (.slice none 0 0) (by simp [go_sem]); have z00 := HU1.out.ownGe (g := w.heap.size) (Nat.le_refl _) 0; have z01 := HU1.out.ownGe (g := w.heap.size) (Nat.le_refl _) 1; have z02 := HU1.out.ownGe (g := w.heap.size) (Nat.le_refl _) 2; have z03 := HU1.out.ownGe (g := w.heap.size) (Nat.le_refl _) 3; have z10 := HU1.out.ownGe (g := w.heap.size + 1) (by omega) 0; have z11 := HU1.out.ownGe (g := w.heap.size + 1) (by omega) 1; have z12 := HU1.out.ownGe (g := w.heap.size + 1) (by omega) 2; have z13 := HU1.out.ownGe (g := w.heap.size + 1) (by omega) 3; have hlt : w.heap.size + 1 < w1.heap.size := World.block_lt_of_cell? _ _ c10; have hlt0 : w.heap.size < w1.heap.size := Nat.lt_of_succ_lt hlt; clear hu)
  refine bodyPost_ret (v := .tuple #[.agg #[.int .i64 0, .int .i64 0, .int .i64 0, .slice none 0 0], .int .i64 2]) (by simp [results, Try.results14, go_sem, c10, c11, c12, c13]) rfl ⟨rfl, ?_⟩
  exact HU1.out.set4 (by omega)

set_option maxHeartbeats 4000000 in
set_option maxRecDepth 100000 in
theorem add9_range (v c now x : Int) (n k : Nat) (A : Option Addr) (L : List It) (hv : stB v c now L = true) (hx : valueB x = false) (w : World) (hS : Sl w A n L) :
    Calls Try.prog 14 #[.agg #[.int .i64 v, .int .i64 c, .int .i64 now, .slice A n k], .int .i64 x] w fun e w' => e = .returned (.tuple #[.agg #[.int .i64 0, .int .i64 0, .int .i64 0, .slice none 0 0], .int .i64 4]) ∧ Up w w' := by
  have KV := Lib.hid (fun W (h : Sl W A n L) => validate9_up v c now n k A L W h)
  rw [stE_yes hv] at KV
  have HS := Lib.hid hS
  have KA := Lib.hid (value_any x)
  rw [hx] at KA
  clear hS hv hx
  go_enter Try.func14, Try.ntmps14
  go_wp2_with (first | (go_at_call 36; (with_reducible refine (KA.out _).mono ?_); rintro e w2 ⟨rfl, rfl⟩) | (go_at_call 16; (with_reducible refine (KV.out _ (HS.out.up (((Up.refl w).alloc _ _).alloc _ _))).mono ?_); rintro e w1 ⟨rfl, hu⟩; have HU1 := Lib.hid ((((Up.refl w).alloc #[.int .i64 v, .int .i64 c, .int .i64 now, .slice A n k] 24).alloc #[.int .i64 0, .int .i64 0, .int .i64 0, .slice none 0 0] 24).trans hu); have c00 := hu.keep (w.heap.size) 0 (.int .i64 v) (by simp [go_sem]); have c01 := hu.keep (w.heap.size) 1 (.int .i64 c) (by simp [go_sem]); have c02 := hu.keep (w.heap.size) 2 (.int .i64 now) (by simp [go_sem]); have c03 := hu.keep (w.heap.size) 3 (.slice A n k) (by simp [go_sem]); have c10 := hu.keep (w.heap.size + 1) 0 (.int .i64 0) (by simp [go_sem]); have c11 := hu.keep (w.heap.size + 1) 1 (.int .i64 0) (by simp [go_sem]); have c12 := hu.keep (w.heap.size + 1) 2 (.int .i64 0) (by simp [go_sem]); have c13 := hu.keep (w.heap.size + 1) 3 (.slice none 0 0) (by simp [go_sem]); have z00 := HU1.out.ownGe (g := w.heap.size) (Nat.le_refl _) 0; have z01 := HU1.out.ownGe (g := w.heap.size) (Nat.le_refl _) 1; have z02 := HU1.out.ownGe (g := w.heap.size) (Nat.le_refl _) 2; have z03 := HU1.out.ownGe (g := w.heap.size) (Nat.le_refl _) 3; have z10 := HU1.out.ownGe (g := w.heap.size + 1) (by omega) 0; have z11 := HU1.out.ownGe (g := w.heap.size + 1) (by omega) 1; have z12 := HU1.out.ownGe (g := w.heap.size + 1) (by omega) 2; have z13 := HU1.out.ownGe (g := w.heap.size + 1) (by omega) 3; have hlt : w.heap.size + 1 < w1.heap.size := World.block_lt_of_cell? _ _ c10; have hlt0 : w.heap.size < w1.heap.size := Nat.lt_of_succ_lt hlt; clear hu))
  refine bodyPost_ret (v := .tuple #[.agg #[.int .i64 0, .int .i64 0, .int .i64 0, .slice none 0 0], .int .i64 4]) (by simp [results, Try.results14, go_sem, c10, c11, c12, c13]) rfl ⟨rfl, ?_⟩
  exact HU1.out.set4 (by omega)

set_option maxHeartbeats 4000000 in
set_option maxRecDepth 100000 in
theorem add9_full (v c now x : Int) (n k : Nat) (A : Option Addr) (L : List It) (hv : stB v c now L = true) (hx : valueB x = true) (hf : (n : Int) = c) (w : World) (hS : Sl w A n L) :
    Calls Try.prog 14 #[.agg #[.int .i64 v, .int .i64 c, .int .i64 now, .slice A n k], .int .i64 x] w fun e w' => e = .returned (.tuple #[.agg #[.int .i64 0, .int .i64 0, .int .i64 0, .slice none 0 0], .int .i64 5]) ∧ Up w w' := by
  have KV := Lib.hid (fun W (h : Sl W A n L) => validate9_up v c now n k A L W h)
  rw [stE_yes hv] at KV
  have HS := Lib.hid hS
  have KA := Lib.hid (value_any x)
  rw [hx] at KA
  have t1 : ((n : Int) == c) = true := by simp [hf]
  clear hS hv hx hf
  go_enter Try.func14, Try.ntmps14
  go_wp2_with (first | (go_at_call 36; (with_reducible refine (KA.out _).mono ?_); rintro e w2 ⟨rfl, rfl⟩) | (go_at_call 16; (with_reducible refine (KV.out _ (HS.out.up (((Up.refl w).alloc _ _).alloc _ _))).mono ?_); rintro e w1 ⟨rfl, hu⟩; have HU1 := Lib.hid ((((Up.refl w).alloc #[.int .i64 v, .int .i64 c, .int .i64 now, .slice A n k] 24).alloc #[.int .i64 0, .int .i64 0, .int .i64 0, .slice none 0 0] 24).trans hu); have c00 := hu.keep (w.heap.size) 0 (.int .i64 v) (by simp [go_sem]); have c01 := hu.keep (w.heap.size) 1 (.int .i64 c) (by simp [go_sem]); have c02 := hu.keep (w.heap.size) 2 (.int .i64 now) (by simp [go_sem]); have c03 := hu.keep (w.heap.size) 3 (.slice A n k) (by simp [go_sem]); have c10 := hu.keep (w.heap.size + 1) 0 (.int .i64 0) (by simp [go_sem]); have c11 := hu.keep (w.heap.size + 1) 1 (.int .i64 0) (by simp [go_sem]); have c12 := hu.keep (w.heap.size + 1) 2 (.int .i64 0) (by simp [go_sem]); have c13 := hu.keep (w.heap.size + 1) 3 (.slice none 0 0) (by simp [go_sem]); have z00 := HU1.out.ownGe (g := w.heap.size) (Nat.le_refl _) 0; have z01 := HU1.out.ownGe (g := w.heap.size) (Nat.le_refl _) 1; have z02 := HU1.out.ownGe (g := w.heap.size) (Nat.le_refl _) 2; have z03 := HU1.out.ownGe (g := w.heap.size) (Nat.le_refl _) 3; have z10 := HU1.out.ownGe (g := w.heap.size + 1) (by omega) 0; have z11 := HU1.out.ownGe (g := w.heap.size + 1) (by omega) 1; have z12 := HU1.out.ownGe (g := w.heap.size + 1) (by omega) 2; have z13 := HU1.out.ownGe (g := w.heap.size + 1) (by omega) 3; have hlt : w.heap.size + 1 < w1.heap.size := World.block_lt_of_cell? _ _ c10; have hlt0 : w.heap.size < w1.heap.size := Nat.lt_of_succ_lt hlt; clear hu))
  refine bodyPost_ret (v := .tuple #[.agg #[.int .i64 0, .int .i64 0, .int .i64 0, .slice none 0 0], .int .i64 5]) (by simp [results, Try.results14, go_sem, c10, c11, c12, c13]) rfl ⟨rfl, ?_⟩
  exact HU1.out.set4 (by omega)

set_option maxHeartbeats 4000000 in
set_option maxRecDepth 100000 in
theorem add9_good (v c now x : Int) (n k : Nat) (A : Option Addr) (L : List It) (hk : n ≤ k) (hv : stB v c now L = true) (hx : valueB x = true) (hf : (n : Int) ≠ c) (w : World) (hS : Sl w A n L) :
    Calls Try.prog 14 #[.agg #[.int .i64 v, .int .i64 c, .int .i64 now, .slice A n k], .int .i64 x] w fun e w' => ∃ g' k', e = .returned (.tuple #[.agg #[.int .i64 v, .int .i64 c, .int .i64 now, .slice (some ⟨g', 0, none⟩) (n + 1) k'], .int .i64 0]) ∧ n + 1 ≤ k' ∧ Nw w (some ⟨g', 0, none⟩) ∧ Sl w' (some ⟨g', 0, none⟩) (n + 1) (L ++ [(now, x)]) ∧ Up w w' := by
  have KV := Lib.hid (fun W (h : Sl W A n L) => validate9_up v c now n k A L W h)
  rw [stE_yes hv] at KV
  have HS := Lib.hid hS
  have hn : n ≤ 65536 := by
    have := stB_true hv
    have h3 := (mayB_true this.1).2.2.2
    have h4 := this.2.1
    rw [hS.1] at h4
    omega
  have KA := Lib.hid (value_any x)
  rw [hx] at KA
  have t1 : ((n : Int) == c) = false := by simp [hf]
  have hsl := slice3_run A n k hk
  clear hS hv hx hf
  go_enter Try.func14, Try.ntmps14
  go_wp2_with (first | (go_at_call 36; (with_reducible refine (KA.out _).mono ?_); rintro e w1 ⟨rfl, rfl⟩) | (go_at_call 16; (with_reducible refine (KV.out _ (HS.out.up (((Up.refl w).alloc _ _).alloc _ _))).mono ?_); rintro e w1 ⟨rfl, hu⟩; have HU1 := Lib.hid ((((Up.refl w).alloc #[.int .i64 v, .int .i64 c, .int .i64 now, .slice A n k] 24).alloc #[.int .i64 0, .int .i64 0, .int .i64 0, .slice none 0 0] 24).trans hu); have c00 := hu.keep (w.heap.size) 0 (.int .i64 v) (by simp [go_sem]); have c01 := hu.keep (w.heap.size) 1 (.int .i64 c) (by simp [go_sem]); have c02 := hu.keep (w.heap.size) 2 (.int .i64 now) (by simp [go_sem]); have c03 := hu.keep (w.heap.size) 3 (.slice A n k) (by simp [go_sem]); have c10 := hu.keep (w.heap.size + 1) 0 (.int .i64 0) (by simp [go_sem]); have c11 := hu.keep (w.heap.size + 1) 1 (.int .i64 0) (by simp [go_sem]); have c12 := hu.keep (w.heap.size + 1) 2 (.int .i64 0) (by simp [go_sem]); have c13 := hu.keep (w.heap.size + 1) 3 (.slice none 0 0) (by simp [go_sem]); have z00 := HU1.out.ownGe (g := w.heap.size) (Nat.le_refl _) 0; have z01 := HU1.out.ownGe (g := w.heap.size) (Nat.le_refl _) 1; have z02 := HU1.out.ownGe (g := w.heap.size) (Nat.le_refl _) 2; have z03 := HU1.out.ownGe (g := w.heap.size) (Nat.le_refl _) 3; have z10 := HU1.out.ownGe (g := w.heap.size + 1) (by omega) 0; have z11 := HU1.out.ownGe (g := w.heap.size + 1) (by omega) 1; have z12 := HU1.out.ownGe (g := w.heap.size + 1) (by omega) 2; have z13 := HU1.out.ownGe (g := w.heap.size + 1) (by omega) 3; have hlt : w.heap.size + 1 < w1.heap.size := World.block_lt_of_cell? _ _ c10; have hlt0 : w.heap.size < w1.heap.size := Nat.lt_of_succ_lt hlt; clear hu))
  have hW1 : Sl (w1.drew.alloc (.cells #[.int .i64 now, .int .i64 x] 39)) A n L := ((HS.out.up HU1.out).up (Up.refl _).drew).up ((Up.refl _).alloc _ _)
  obtain ⟨g2, k2, w2, hr, hk2, hO, hu⟩ := appendF_run 22 w1 (w1.drew.alloc (.cells #[.int .i64 now, .int .i64 x] 39)) A n L hW1 ((Up.refl _).drew.alloc _ _) w1.heap.size now x (one_new w1.drew now x) (by omega)
  have hu12 : Up w1 w2 := ((Up.refl w1).drew.alloc _ _).trans hu
  have HU2 := Lib.hid (HU1.out.trans hu12)
  have HO := Lib.hid hO
  have HR := Lib.hid hr
  have d00 := hu12.keep _ _ _ c00
  have d01 := hu12.keep _ _ _ c01
  have d02 := hu12.keep _ _ _ c02
  have d03 := hu12.keep _ _ _ c03
  have d10 := hu12.keep _ _ _ c10
  have d11 := hu12.keep _ _ _ c11
  have d12 := hu12.keep _ _ _ c12
  have d13 := hu12.keep _ _ _ c13
  have y00 := HU2.out.ownGe (g := w.heap.size) (Nat.le_refl _) 0
  have y10 := HU2.out.ownGe (g := w.heap.size + 1) (by omega) 0
  have y01 := HU2.out.ownGe (g := w.heap.size) (Nat.le_refl _) 1
  have y11 := HU2.out.ownGe (g := w.heap.size + 1) (by omega) 1
  have y02 := HU2.out.ownGe (g := w.heap.size) (Nat.le_refl _) 2
  have y12 := HU2.out.ownGe (g := w.heap.size + 1) (by omega) 2
  have y03 := HU2.out.ownGe (g := w.heap.size) (Nat.le_refl _) 3
  have y13 := HU2.out.ownGe (g := w.heap.size + 1) (by omega) 3
  clear hu hO hr hu12 hW1 c00 c10 c11 c12 c13 z00 z01 z02 z03 z10 z11 z12 z13
  go_region_law (refine step_append_run rfl (.tmp 30) (.tmp 35) _ rfl _ _ rfl rfl _ _ HR.out ?_)
  all_goals go_wp2_with fail
  all_goals refine bodyPost_ret (v := .tuple #[.agg #[.int .i64 v, .int .i64 c, .int .i64 now, .slice (some ⟨g2, 0, none⟩) (n + 1) k2], .int .i64 0]) (by simp [results, Try.results14, go_sem, d10, d11, d12, d13]) rfl ⟨g2, k2, rfl, hk2, HO.out.nw.up HU1.out, ?_, ?_⟩
  all_goals first
    | (obtain ⟨A3, k3, e3, _, hS3⟩ := HO.out.sl
       cases e3
       exact (hS3.off (HO.out.off (by omega)) _).off4 (HO.out.off (by omega)) _ _ _ _)
    | exact (HU2.out.setCell (Nat.le_refl _) _).set4 (by omega)
end Go.Proofs.Ytflahclphdlolaa

/- What awake of the laws of package recent returns. -/
namespace Go.Proofs.Ytflahclphdlolaa
open Go.RowKit

theorem awk9_new (W : World) : Calls Try.prog 7 #[.int .i64 3, .int .i64 2, .int .i64 0] W fun e w' => e = .returned (.tuple #[.agg #[.int .i64 3, .int .i64 2, .int .i64 0, .slice none 0 0], .int .i64 0]) ∧ Up W w' :=
  new9_yes 3 2 0 (by decide) W
theorem awk9_add (W : World) : Calls Try.prog 14 #[.agg #[.int .i64 3, .int .i64 2, .int .i64 0, .slice none 0 0], .int .i64 5] W fun e w' => ∃ g' k', e = .returned (.tuple #[.agg #[.int .i64 3, .int .i64 2, .int .i64 0, .slice (some ⟨g', 0, none⟩) 1 k'], .int .i64 0]) ∧ Up W w' :=
  (add9_good 3 2 0 5 0 0 none [] (Nat.le_refl _) (by decide) (by decide) (by decide) W Sl.none_).mono (fun _ _ ⟨g', k', h1, _, _, _, h4⟩ => ⟨g', k', h1, h4⟩)

set_option maxHeartbeats 4000000 in
set_option maxRecDepth 100000 in
theorem awake9_up (w : World) : Calls Try.prog 10 #[] w fun e w' => e = .returned (.bool true) ∧ Up w w' := by
  have K1 := Lib.hid awk9_new
  have K2 := Lib.hid awk9_add
  go_enter Try.func10, Try.ntmps10
  go_wp2_with (first
    | (go_at_call 7; (with_reducible refine (K1.out _).mono ?_); rintro e w1 ⟨rfl, hu⟩; have HU1 := Lib.hid hu; clear hu)
    | (go_at_call 14; (with_reducible refine (K2.out _).mono ?_); rintro e w2 ⟨g2, k2, rfl, hu⟩; have HU2 := Lib.hid ((HU1.out.alloc _ _).trans hu);
        have a0 := hu.keep w1.heap.size 0 (.int .i64 3) (by simp [go_sem]); have a1 := hu.keep w1.heap.size 1 (.int .i64 2) (by simp [go_sem]); have a2 := hu.keep w1.heap.size 2 (.int .i64 0) (by simp [go_sem]); have a3 := hu.keep w1.heap.size 3 (.slice none 0 0) (by simp [go_sem]);
        have hw1 := HU1.out.size; have f0 := HU2.out.ownGe (g := w1.heap.size) hw1 0; have f1 := HU2.out.ownGe (g := w1.heap.size) hw1 1; have f2 := HU2.out.ownGe (g := w1.heap.size) hw1 2; have f3 := HU2.out.ownGe (g := w1.heap.size) hw1 3; clear hu))
  go_ret
  exact ⟨rfl, HU2.out.set4 hw1⟩
end Go.Proofs.Ytflahclphdlolaa

/- The states that Advance and Add lead to are valid; where RecentRuns is. -/
namespace Go.Proofs.Ytflahclphdlolaa
open Go.RowKit

theorem getD_mem {L : List It} {j : Nat} (h : j < L.length) : L.getD j (0, 0) ∈ L := by simp [List.getD, h]
theorem getD_at {L : List It} {j : Nat} (h : j < L.length) : L.getD j (0, 0) = L[j] := by simp [List.getD, h]
theorem asc_all {L : List It} (h : ∀ j, j < L.length → 0 < j → (L.getD (j - 1) (0, 0)).1 ≤ (L.getD j (0, 0)).1) : ∀ d i, i + d < L.length → (L.getD i (0, 0)).1 ≤ (L.getD (i + d) (0, 0)).1 := by
  intro d
  induction d with
  | zero => intro i _; exact Int.le_refl _
  | succ d ih =>
    intro i hi
    have h1 := ih i (by omega)
    have h2 := h (i + (d + 1)) hi (by omega)
    rw [show i + (d + 1) - 1 = i + d by omega] at h2
    omega
theorem val_iff {L : List It} {now : Int} : valB L now = true ↔ tickB now = true ∧ (∀ x ∈ L, 0 ≤ x.1 ∧ x.1 ≤ now) ∧ L.Pairwise (fun x y => x.1 ≤ y.1) := by
  unfold valB
  rw [Bool.and_eq_true, decide_eq_true_eq]
  constructor
  · rintro ⟨h1, h2⟩
    refine ⟨h1, fun x hx => ?_, ?_⟩
    · obtain ⟨j, hj, rfl⟩ := List.mem_iff_getElem.1 hx
      have g := h2 j hj
      rw [← getD_at hj]
      exact ⟨g.1, g.2.1⟩
    · rw [List.pairwise_iff_getElem]
      intro i j hi hj hij
      have g := asc_all (fun j hj h0 => (h2 j hj).2.2 h0) (j - i) i (by omega)
      rw [show i + (j - i) = j by omega, getD_at hi, getD_at hj] at g
      exact g
  · rintro ⟨h1, h2, h3⟩
    refine ⟨h1, fun j hj => ⟨(h2 _ (getD_mem hj)).1, (h2 _ (getD_mem hj)).2, fun h0 => ?_⟩⟩
    rw [getD_at hj, getD_at (show j - 1 < L.length by omega)]
    exact List.pairwise_iff_getElem.1 h3 (j - 1) j (by omega) hj (by omega)
theorem ok_iff {L : List It} {now v : Int} : okB now v L = true ↔ ∀ x ∈ L, liveB now v x.1 = true ∧ valueB x.2 = true := by
  unfold okB okI
  rw [decide_eq_true_eq]
  constructor
  · intro h x hx
    obtain ⟨j, hj, rfl⟩ := List.mem_iff_getElem.1 hx
    rw [← getD_at hj]
    exact h j hj
  · intro h j hj
    exact h _ (getD_mem hj)
theorem adv_state {L : List It} {v c now z : Int} (h : stB v c now L = true) (h1 : now ≤ z) (h2 : z ≤ 16777216) : livE L z v = livL L z v ∧ stB v c z (livE L z v) = true ∧ valB L z = true := by
  have g := stB_true h
  obtain ⟨m1, m2, m3, m4⟩ := mayB_true g.1
  have hz : tickB z = true := tickB_yes (by have := tickB_true m1; omega) h2
  have hvz : valB L z = true := by
    obtain ⟨a, b, d⟩ := val_iff.1 g.2.2.1
    exact val_iff.2 ⟨hz, fun x hx => ⟨(b x hx).1, by have := (b x hx).2; omega⟩, d⟩
  have e : livE L z v = livL L z v := by unfold livE; rw [hvz, m2]; rfl
  obtain ⟨a, b, d⟩ := val_iff.1 hvz
  have hok := ok_iff.1 g.2.2.2
  refine ⟨e, ?_, hvz⟩
  rw [e]
  refine stB_yes ?_ ?_ ?_ ?_
  · unfold mayB; rw [hz, m2, decide_eq_true ⟨m3, m4⟩]; rfl
  · have := livL_len L z v; have := g.2.1; omega
  · exact val_iff.2 ⟨hz, fun x hx => b x (List.mem_filter.1 hx).1, d.filter _⟩
  · exact ok_iff.2 (fun x hx => ⟨(List.mem_filter.1 hx).2, (hok x (List.mem_filter.1 hx).1).2⟩)
theorem add_state {L : List It} {v c now x : Int} (h : stB v c now L = true) (hx : valueB x = true) (hn : (L.length : Int) ≠ c) : stB v c now (L ++ [(now, x)]) = true := by
  have g := stB_true h
  obtain ⟨m1, m2, m3, m4⟩ := mayB_true g.1
  have ht := tickB_true m1
  obtain ⟨a, b, d⟩ := val_iff.1 g.2.2.1
  refine stB_yes g.1 ?_ (val_iff.2 ⟨a, ?_, ?_⟩) (ok_iff.2 ?_)
  · rw [List.length_append]; have := g.2.1; simp only [List.length_cons, List.length_nil]; omega
  · intro y hy
    rcases List.mem_append.1 hy with hy | hy
    · exact b y hy
    · simp only [List.mem_singleton] at hy; subst hy; exact ⟨ht.1, Int.le_refl _⟩
  · rw [List.pairwise_append]
    refine ⟨d, List.pairwise_singleton _ _, ?_⟩
    intro y hy z hz
    simp only [List.mem_singleton] at hz
    subst hz
    exact (b y hy).2
  · intro y hy
    rcases List.mem_append.1 hy with hy | hy
    · exact ok_iff.1 g.2.2.2 y hy
    · simp only [List.mem_singleton] at hy; subst hy
      refine ⟨?_, hx⟩
      have hb : (tickB now && winB v) = true := by rw [m1, m2]; rfl
      rw [liveB_yes hb, firZ_yes hb]
      have := winB_true m2
      simp only [Bool.and_eq_true, decide_eq_true_eq]
      exact ⟨by omega, Int.le_refl _⟩

/-- Where a walk over RecentRuns is: the state behind its variable in block p, and the plain list. -/
def Rn (w wr : World) (p : Nat) (v c : Int) (Am : Option Addr) (nm : Nat) (M : List It) (i : Nat) (s : Value) : Prop :=
  ∃ (now : Int) (K : List It) (A B : Option Addr) (k kb : Nat), s = .slice B K.length kb ∧ K.length ≤ k ∧ Sl wr A K.length K ∧ Sl wr B K.length K ∧ Sl wr Am nm M ∧ stB v c now K = true ∧ (i < nm → now ≤ (M.getD i (0, 0)).1) ∧
    wr.cell? ⟨p, 0, none⟩ = some (.int .i64 v) ∧ wr.cell? ⟨p, 1, none⟩ = some (.int .i64 c) ∧ wr.cell? ⟨p, 2, none⟩ = some (.int .i64 now) ∧ wr.cell? ⟨p, 3, none⟩ = some (.slice A K.length k) ∧ Up w wr ∧ (∀ b o, B = some ⟨b, o, none⟩ → b ≠ p)
theorem Nw.off {w : World} {A : Option Addr} {p : Nat} (h : Nw w A) (hp : p < w.heap.size) : ∀ b o, A = some ⟨b, o, none⟩ → b ≠ p := fun b o e => by have := h b o e; omega
/-- The cells of a variable behind a store of all four. -/
theorem cells4 {w : World} {p : Nat} {v0 v1 v2 v3 x0 x1 x2 x3 : Value} (e0 : w.cell? ⟨p, 0, none⟩ = some x0) (e1 : w.cell? ⟨p, 1, none⟩ = some x1) (e2 : w.cell? ⟨p, 2, none⟩ = some x2) (e3 : w.cell? ⟨p, 3, none⟩ = some x3) :
    let W := (((w.setCell ⟨p, 0, none⟩ v0).setCell ⟨p, 1, none⟩ v1).setCell ⟨p, 2, none⟩ v2).setCell ⟨p, 3, none⟩ v3
    W.cell? ⟨p, 0, none⟩ = some v0 ∧ W.cell? ⟨p, 1, none⟩ = some v1 ∧ W.cell? ⟨p, 2, none⟩ = some v2 ∧ W.cell? ⟨p, 3, none⟩ = some v3 :=
  ⟨cell_set (cell_set (cell_set (cell_set e0))), cell_set (cell_set (cell_set (cell_set e1))), cell_set (cell_set (cell_set (cell_set e2))), cell_set (cell_set (cell_set (cell_set e3)))⟩
end Go.Proofs.Ytflahclphdlolaa

/- What Gap, Value, Items and Live of the verifier's package made return. -/
namespace Go.Proofs.Ytflahclphdlolaa
open Go.RowKit

theorem mod_in (a n : Int) (hn : 1 ≤ n) (hn' : n ≤ 10000) (w : World) :
    Calls Try.prog 18 #[.int .i64 a, .int .i64 n] w fun e w' => ∃ r, e = .returned (.int .i64 r) ∧ 0 ≤ r ∧ r ≤ n - 1 ∧ w = w' :=
  (modm_any a n hn hn' w).mono (fun _ _ ⟨h1, h2⟩ => ⟨_, h1, Int.emod_nonneg _ (by omega), by have := Int.emod_lt_of_pos a (show 0 < n by omega); omega, h2⟩)

theorem gap_any (a v : Int) (h1 : 1 ≤ v) (h2 : v ≤ 20) (w : World) :
    Calls Try.prog 42 #[.int .i64 a, .int .i64 v] w fun e w' => ∃ g, e = .returned (.int .i64 g) ∧ 0 ≤ g ∧ g ≤ 41 ∧ w = w' := by
  have KM := Lib.hid (fun W => modm_any a 8 (by omega) (by omega) W)
  have KB := Lib.hid (fun b W => mod_in b (2 * v + 2) (by omega) (by omega) W)
  have KC := Lib.hid (fun b W => mod_in b 3 (by omega) (by omega) W)
  generalize a % 8 = m at KM
  by_cases m0 : m = 0
  · subst m0
    clear KC
    go_enter Try.func42, Try.ntmps42
    go_wp2_with (first
      | (go_at_call 18; (with_reducible refine (KM.out _).mono ?_); rintro e w' ⟨rfl, rfl⟩)
      | (go_at_call 18; (with_reducible refine (KB.out _ _).mono ?_); rintro e w' ⟨r, rfl, hr1, hr2, rfl⟩))
    go_ret
    exact ⟨_, rfl, by omega, by omega, rfl⟩
  have t0 : (m == 0) = false := by simp [m0]
  by_cases m1 : m = 1 ∨ m = 2
  · clear KB
    rcases m1 with rfl | rfl
    all_goals
      go_enter Try.func42, Try.ntmps42
      go_wp2_with (first
        | (go_at_call 18; (with_reducible refine (KM.out _).mono ?_); rintro e w' ⟨rfl, rfl⟩)
        | (go_at_call 18; (with_reducible refine (KC.out _ _).mono ?_); rintro e w' ⟨r, rfl, hr1, hr2, rfl⟩))
      go_ret
      exact ⟨_, rfl, by omega, by omega, rfl⟩
  · have t1 : (m == 1) = false := by simp; omega
    have t2 : (m == 2) = false := by simp; omega
    clear KB KC m0 m1
    go_enter Try.func42, Try.ntmps42
    go_wp2_with (go_at_call 18; (with_reducible refine (KM.out _).mono ?_); rintro e w' ⟨rfl, rfl⟩)
    go_ret
    exact ⟨_, rfl, by omega, by omega, rfl⟩

theorem mvalue_any (a : Int) (w : World) :
    Calls Try.prog 43 #[.int .i64 a] w fun e w' => ∃ g, e = .returned (.int .i64 g) ∧ valueB g = true ∧ w = w' := by
  have KM := Lib.hid (fun W => modm_any a 8 (by omega) (by omega) W)
  have KB := Lib.hid (fun b W => mod_in b 8193 (by omega) (by omega) W)
  have KC := Lib.hid (fun b W => mod_in b 2 (by omega) (by omega) W)
  have KD := Lib.hid (fun b W => mod_in b 13 (by omega) (by omega) W)
  generalize a % 8 = m at KM
  by_cases m0 : m = 0
  · subst m0
    clear KC KD
    go_enter Try.func43, Try.ntmps43
    go_wp2_with (first
      | (go_at_call 18; (with_reducible refine (KM.out _).mono ?_); rintro e w' ⟨rfl, rfl⟩)
      | (go_at_call 18; (with_reducible refine (KB.out _ _).mono ?_); rintro e w' ⟨r, rfl, hr1, hr2, rfl⟩))
    go_ret
    exact ⟨_, rfl, decide_eq_true (by omega), rfl⟩
  have t0 : (m == 0) = false := by simp [m0]
  by_cases m1 : m = 1
  · subst m1
    clear KB KD
    go_enter Try.func43, Try.ntmps43
    go_wp2_with (first
      | (go_at_call 18; (with_reducible refine (KM.out _).mono ?_); rintro e w' ⟨rfl, rfl⟩)
      | (go_at_call 18; (with_reducible refine (KC.out _ _).mono ?_); rintro e w' ⟨r, rfl, hr1, hr2, rfl⟩))
    go_ret
    exact ⟨_, rfl, decide_eq_true (by omega), rfl⟩
  · have t1 : (m == 1) = false := by simp; omega
    clear KB KC m0 m1
    go_enter Try.func43, Try.ntmps43
    go_wp2_with (first
      | (go_at_call 18; (with_reducible refine (KM.out _).mono ?_); rintro e w' ⟨rfl, rfl⟩)
      | (go_at_call 18; (with_reducible refine (KD.out _ _).mono ?_); rintro e w' ⟨r, rfl, hr1, hr2, rfl⟩))
    go_ret
    exact ⟨_, rfl, decide_eq_true (by omega), rfl⟩

/-- Items whose ticks ascend from 0 on up to z, with values. -/
def mdP (M : List It) (z : Int) : Prop :=
  0 ≤ z ∧ z ≤ 41 * M.length ∧ ∀ j, j < M.length → 0 ≤ (M.getD j (0, 0)).1 ∧ (M.getD j (0, 0)).1 ≤ z ∧ (0 < j → (M.getD (j - 1) (0, 0)).1 ≤ (M.getD j (0, 0)).1) ∧ valueB (M.getD j (0, 0)).2 = true
theorem mdP_nil : mdP [] 0 := ⟨by omega, by simp, fun j hj => absurd hj (Nat.not_lt_zero _)⟩
theorem snoc_lt {M : List It} {x : It} {j : Nat} (h : j < M.length) : (M ++ [x]).getD j (0, 0) = M.getD j (0, 0) := by
  simp [List.getD, List.getElem?_append_left h]
theorem snoc_at {M : List It} {x : It} : (M ++ [x]).getD M.length (0, 0) = x := by
  simp [List.getD]
theorem mdP_next {M : List It} {z g x : Int} (h : mdP M z) (h1 : 0 ≤ g) (h2 : g ≤ 41) (hx : valueB x = true) : mdP (M ++ [(z + g, x)]) (z + g) := by
  obtain ⟨a, b, c⟩ := h
  refine ⟨by omega, by rw [List.length_append]; simp only [List.length_cons, List.length_nil]; omega, fun j hj => ?_⟩
  rw [List.length_append] at hj
  simp only [List.length_cons, List.length_nil] at hj
  rcases Nat.lt_or_ge j M.length with hl | hl
  · rw [snoc_lt hl]
    have := c j hl
    refine ⟨this.1, by omega, fun h0 => ?_, this.2.2.2⟩
    rw [snoc_lt (show j - 1 < M.length by omega)]
    exact this.2.2.1 h0
  · obtain rfl : j = M.length := by omega
    rw [snoc_at]
    refine ⟨by omega, Int.le_refl _, fun h0 => ?_, hx⟩
    rw [snoc_lt (show M.length - 1 < M.length by omega)]
    have := c (M.length - 1) (by omega)
    show _ ≤ z + g
    omega

set_option maxHeartbeats 4000000 in
set_option maxRecDepth 100000 in
theorem items_up (n k : Nat) (A : Option Addr) (L : List It) (v : Int) (h1 : 1 ≤ v) (h2 : v ≤ 20) (w : World) (hS : Sl w A n L) :
    Calls Try.prog 20 #[.slice A n k, .int .i64 v, .int .i64 60] w fun e w' => ∃ A' n' k' M z, e = .returned (.slice A' n' k') ∧ n' ≤ 60 ∧ mdP M z ∧ Own w w' (.slice A' n' k') n' M ∧ Up w w' := by
  have KG := Lib.hid (fun a W => gap_any a v h1 h2 W)
  have KV := Lib.hid mvalue_any
  have HS := Lib.hid hS
  clear hS
  go_enter Try.func20, Try.ntmps20
  go_wp2_with fail
  go_loopw [7, 8, 9] (fun s t u wr => ∃ (i : Nat) (z : Int) (A1 : Option Addr) (k1 : Nat) (M : List It), s = .slice A1 i k1 ∧ t = .int .i64 z ∧ u = .int .i64 i ∧ i ≤ 60 ∧ 0 ≤ z ∧ z ≤ 2460 ∧ Hid (M.length = i) ∧ Hid (mdP M z) ∧ Hid (Own w wr (.slice A1 i k1) i M) ∧ Hid (Up w wr)) (fun _ _ u _ => 60 - (intOf u).toNat)
  case atStart => exact ⟨0, 0, none, 0, [], rfl, rfl, rfl, Nat.zero_le _, by omega, by omega, Lib.hid rfl, Lib.hid mdP_nil, Lib.hid (Own.nil _ _), Lib.hid (Up.refl _)⟩
  case round =>
    obtain ⟨i, z, A1, k1, M, rfl, rfl, rfl, hi, z0, z1, HN, HP, HO, HU⟩ := hrel
    by_cases hlt : i < n
    case neg =>
      have t1 : decide (i < n) = false := decide_eq_false hlt
      go_wp2_with fail
      go_ret
      exact ⟨_, _, _, M, z, rfl, hi, HP.out, HO.out, HU.out⟩
    have t1 : decide (i < n) = true := decide_eq_true hlt
    by_cases hl2 : i < 60
    case neg =>
      have t2 : decide ((i : Int) < 60) = false := decide_eq_false (by omega)
      go_wp2_with fail
      go_ret
      exact ⟨_, _, _, M, z, rfl, hi, HP.out, HO.out, HU.out⟩
    have t2 : decide ((i : Int) < 60) = true := decide_eq_true (by omega)
    obtain ⟨b, o, rfl, d0, d1⟩ := (HS.out.up HU.out).at_ hlt
    generalize (L.getD i (0, 0)).1 = p0 at *
    generalize (L.getD i (0, 0)).2 = p1 at *
    have f2 : (i : Int) < n := by omega
    have f3 : (0 : Int) ≤ i := by omega
    have hz2 : z ≤ 41 * i := by have := HP.out.2.1; rw [HN.out] at this; exact this
    go_upto_region 7 with (go_at_call 42; (with_reducible refine (KG.out _ _).mono ?_); rintro e w' ⟨g, rfl, g0, g1, rfl⟩)
    have HR : Hid (∀ x : Int, ∃ A2 k2 w2, (Builtin.append_ #[22, 22] 22 #[.slice A1 i k1, .slice (some ⟨wr.heap.size, 0, none⟩) 1 1]).run Try.prog (wr.alloc (.cells #[.int .i64 (z + g), .int .i64 x] 39)) = .ok (.slice A2 (i + 1) k2) w2 ∧ Own w w2 (.slice A2 (i + 1) k2) (i + 1) (M ++ [(z + g, x)]) ∧ Up w w2) :=
      Lib.hid (fun x => append1I_run 22 w wr A1 i k1 M (z + g) x HO.out HU.out (by omega))
    have k3 : IntKind.i64.wrap (z + g) = z + g := IntWalk.i64_in _ (by omega)
    go_wp2_with (first
      | (go_at_call 43; (with_reducible refine (KV.out _ _).mono ?_); rintro e w' ⟨y, rfl, hy, rfl⟩; have HY := Lib.hid hy; clear hy; obtain ⟨A2, k2, w2, hr, hO2, hU2⟩ := HR.out y; have HO2 := Lib.hid hO2; have HU2 := Lib.hid hU2; clear hO2 hU2)
      | (refine wpList_append_run (o := ⟨some 40, _, _, _, _, _⟩) rfl (.tmp 30) (.tmp 39) _ rfl _ _ rfl rfl _ _ hr ?_))
    go_roundw
    case rel => exact ⟨i + 1, z + g, A2, k2, M ++ [(z + g, y)], rfl, rfl, by go_num, by omega, by omega, by omega, Lib.hid (by rw [List.length_append, HN.out]; rfl), Lib.hid (mdP_next HP.out g0 g1 HY.out), HO2, HU2⟩
    case measure => simp [intOf]; omega

/-- The items in the window, by the verifier's own function. -/
def mlL (L : List It) (now v : Int) : List It := L.filter (fun x => decide (now - v < x.1) && decide (x.1 ≤ now))
theorem mlL_take {L : List It} {i : Nat} (hi : i < L.length) (now v : Int) : mlL (L.take (i + 1)) now v = mlL (L.take i) now v ++ (if (decide (now - v < (L.getD i (0, 0)).1) && decide ((L.getD i (0, 0)).1 ≤ now)) = true then [L.getD i (0, 0)] else []) := by
  unfold mlL; rw [take_next hi, List.filter_append]
  by_cases h : (decide (now - v < (L.getD i (0, 0)).1) && decide ((L.getD i (0, 0)).1 ≤ now)) = true
  · rw [if_pos h, List.filter_cons, if_pos h]; rfl
  · rw [if_neg h, List.filter_cons, if_neg h]; rfl

set_option maxHeartbeats 4000000 in
set_option maxRecDepth 100000 in
theorem mlive_up (n k : Nat) (A : Option Addr) (L : List It) (now v : Int) (hn : n ≤ 100000) (h0 : 0 ≤ now) (h1 : now ≤ 100000) (h2 : 1 ≤ v) (h3 : v ≤ 20) (w : World) (hS : Sl w A n L) :
    Calls Try.prog 21 #[.slice A n k, .int .i64 now, .int .i64 v] w fun e w' => ∃ A' n' k', e = .returned (.slice A' n' k') ∧ n' ≤ n ∧ Own w w' (.slice A' n' k') n' (mlL L now v) ∧ Up w w' := by
  have HL := Lib.hid hS.1
  have HS := Lib.hid hS
  clear hS
  have k2 : IntKind.i64.wrap (now - v) = now - v := IntWalk.i64_in _ (by omega)
  go_enter Try.func21, Try.ntmps21
  go_wp2_with fail
  go_loopw [7, 12] (fun s t wr => ∃ (i c : Nat) (A1 : Option Addr) (k1 : Nat), s = .slice A1 c k1 ∧ t = .int .i64 i ∧ i ≤ n ∧ c ≤ i ∧ Own w wr (.slice A1 c k1) c (mlL (L.take i) now v) ∧ Up w wr) (fun _ t _ => n - (intOf t).toNat)
  case atStart => exact ⟨0, 0, none, 0, rfl, rfl, Nat.zero_le _, Nat.le_refl _, Own.nil _ _, Up.refl _⟩
  case round =>
    obtain ⟨i, c, A1, k1, rfl, rfl, hin, hci, hO, hU⟩ := hrel
    have HU := Lib.hid hU
    have HO := Lib.hid hO
    clear hU hO
    by_cases hi : i < n
    · obtain ⟨b, o, rfl, d0, d1⟩ := (HS.out.up HU.out).at_ hi
      have HN1 := Lib.hid (mlL_take (L := L) (i := i) (by rw [HL.out]; exact hi) now v)
      have hp : L.getD i (0, 0) = ((L.getD i (0, 0)).1, (L.getD i (0, 0)).2) := rfl
      rw [hp] at HN1
      generalize (L.getD i (0, 0)).1 = p0 at *
      generalize (L.getD i (0, 0)).2 = p1 at *
      have f2 : (i : Int) < n := by omega
      have f3 : (0 : Int) ≤ i := by omega
      clear hp
      by_cases hx : now - v < p0 ∧ p0 ≤ now
      · have HM : Hid (mlL (L.take (i + 1)) now v = mlL (L.take i) now v ++ [(p0, p1)]) := Lib.hid (by rw [HN1.out, if_pos (by simp only [Bool.and_eq_true, decide_eq_true_eq]; exact hx)])
        have t1 : decide (now - v < p0) = true := decide_eq_true hx.1
        have t2 : decide (p0 ≤ now) = true := decide_eq_true hx.2
        clear HN1 hx
        obtain ⟨A2, k2, w2, hr, ho, hu⟩ := append1I_run 22 w (wr.alloc (.cells #[.int .i64 p0, .int .i64 p1] 39)) A1 c k1 _ p0 p1 (HO.out.of_up ((Up.refl _).alloc _ _)) (HU.out.alloc _ _) (by omega)
        rw [← HM.out] at ho
        rw [size_alloc] at hr
        have HO2 := Lib.hid ho
        have HU2 := Lib.hid hu
        clear ho hu HM
        go_wp2_with (refine wpList_append_run (o := ⟨some 31, _, _, _, _, _⟩) rfl (.tmp 28) (.tmp 30) _ rfl _ _ rfl rfl _ _ hr ?_)
        go_roundw
        case rel => exact ⟨i + 1, c + 1, _, _, rfl, by go_num, by omega, by omega, HO2.out, HU2.out⟩
        case measure => simp [intOf]; omega
      · have HM : Hid (mlL (L.take (i + 1)) now v = mlL (L.take i) now v) := Lib.hid (by rw [HN1.out, if_neg (by simp only [Bool.and_eq_true, decide_eq_true_eq]; exact hx), List.append_nil])
        clear HN1
        by_cases h1 : now - v < p0
        · have t1 : decide (now - v < p0) = true := decide_eq_true h1
          have t2 : decide (p0 ≤ now) = false := decide_eq_false (fun h => hx ⟨h1, h⟩)
          clear hx h1
          go_wp2_with fail
          go_roundw
          case rel => exact ⟨i + 1, c, _, _, rfl, by go_num, by omega, by omega, by rw [HM.out]; exact HO.out.of_up ((Up.refl _).alloc _ _), HU.out.alloc _ _⟩
          case measure => simp [intOf]; omega
        · have t1 : decide (now - v < p0) = false := decide_eq_false h1
          clear hx h1
          go_wp2_with fail
          go_roundw
          case rel => exact ⟨i + 1, c, _, _, rfl, by go_num, by omega, by omega, by rw [HM.out]; exact HO.out.of_up ((Up.refl _).alloc _ _), HU.out.alloc _ _⟩
          case measure => simp [intOf]; omega
    · obtain rfl : i = n := by omega
      have ht : L.take i = L := List.take_of_length_le (by rw [HL.out]; exact Nat.le_refl _)
      rw [ht] at HO
      clear ht
      go_wp2_with fail
      go_ret
      exact ⟨_, _, _, rfl, hci, HO.out, HU.out⟩

/-- For a valid state both ways to say what is live agree. -/
theorem mlL_live {L : List It} {now tk v : Int} (ht : tickB tk = true) (hw : winB v = true) (h : valB L now = true) : mlL L tk v = livL L tk v := by
  unfold mlL livL
  refine List.filter_congr (fun x hx => ?_)
  obtain ⟨j, hj, rfl⟩ := List.mem_iff_getElem.1 hx
  unfold valB at h
  rw [Bool.and_eq_true, decide_eq_true_eq] at h
  have g := (h.2 j hj).1
  have e : L.getD j (0, 0) = L[j] := by simp [List.getD, hj]
  rw [e] at g
  have hb : (tickB tk && winB v) = true := by rw [ht, hw]; rfl
  rw [liveB_yes hb, firZ_yes hb, Bool.eq_iff_iff]
  simp only [Bool.and_eq_true, decide_eq_true_eq]
  constructor <;> intro h <;> refine ⟨by omega, by omega⟩
end Go.Proofs.Ytflahclphdlolaa

/- The state of RecentTruth is valid. -/
namespace Go.Proofs.Ytflahclphdlolaa
open Go.RowKit

theorem md_state {M : List It} {z v : Int} (h : mdP M z) (hl : M.length ≤ 60) (h1 : 1 ≤ v) (h2 : v ≤ 20) (hne : 0 < M.length) :
    0 ≤ (M.getD (M.length - 1) (0, 0)).1 ∧ (M.getD (M.length - 1) (0, 0)).1 ≤ 2460 ∧ stB v 60 (M.getD (M.length - 1) (0, 0)).1 (mlL M (M.getD (M.length - 1) (0, 0)).1 v) = true := by
  obtain ⟨_, hz, hp⟩ := h
  have hlast := hp (M.length - 1) (by omega)
  have hasc := asc_all (fun j hj h0 => (hp j hj).2.2.1 h0)
  generalize ht : (M.getD (M.length - 1) (0, 0)).1 = t at *
  have htk : tickB t = true := tickB_yes hlast.1 (by omega)
  have hw : winB v = true := winB_yes h1 (by omega)
  have hv : valB M t = true := valB_good htk (fun j hj => by
    have g := hp j hj
    refine ⟨g.1, ?_, g.2.2.1⟩
    have := hasc (M.length - 1 - j) j (by omega)
    rw [show j + (M.length - 1 - j) = M.length - 1 by omega, ht] at this
    exact this)
  refine ⟨hlast.1, by omega, ?_⟩
  rw [mlL_live htk hw hv]
  obtain ⟨a, b, d⟩ := val_iff.1 hv
  refine stB_yes ?_ ?_ ?_ ?_
  · unfold mayB; rw [htk, hw, decide_eq_true (show (1 : Int) ≤ 60 ∧ (60 : Int) ≤ 65536 by omega)]; rfl
  · have := livL_len M t v; omega
  · exact val_iff.2 ⟨htk, fun x hx => b x (List.mem_filter.1 hx).1, d.filter _⟩
  · refine ok_iff.2 (fun x hx => ⟨(List.mem_filter.1 hx).2, ?_⟩)
    obtain ⟨j, hj, rfl⟩ := List.mem_iff_getElem.1 (List.mem_filter.1 hx).1
    rw [← getD_at hj]
    exact (hp j hj).2.2.2

theorem keep17 {w w1 w2 : World} {b0 o0 b1 o1 b2 o2 b3 o3 b4 o4 b5 o5 b6 o6 b7 o7 b8 o8 b9 o9 b10 o10 b11 o11 b12 o12 b13 o13 b14 o14 b15 o15 b16 o16 : Nat} {x0 x1 x2 x3 x4 x5 x6 x7 x8 x9 x10 x11 x12 x13 x14 x15 x16 : Value} (hu : Hid (Up w1 w2)) (h : Up w w1 ∧ w1.cell? ⟨b0, o0, none⟩ = some x0 ∧ w1.cell? ⟨b1, o1, none⟩ = some x1 ∧ w1.cell? ⟨b2, o2, none⟩ = some x2 ∧ w1.cell? ⟨b3, o3, none⟩ = some x3 ∧ w1.cell? ⟨b4, o4, none⟩ = some x4 ∧ w1.cell? ⟨b5, o5, none⟩ = some x5 ∧ w1.cell? ⟨b6, o6, none⟩ = some x6 ∧ w1.cell? ⟨b7, o7, none⟩ = some x7 ∧ w1.cell? ⟨b8, o8, none⟩ = some x8 ∧ w1.cell? ⟨b9, o9, none⟩ = some x9 ∧ w1.cell? ⟨b10, o10, none⟩ = some x10 ∧ w1.cell? ⟨b11, o11, none⟩ = some x11 ∧ w1.cell? ⟨b12, o12, none⟩ = some x12 ∧ w1.cell? ⟨b13, o13, none⟩ = some x13 ∧ w1.cell? ⟨b14, o14, none⟩ = some x14 ∧ w1.cell? ⟨b15, o15, none⟩ = some x15 ∧ w1.cell? ⟨b16, o16, none⟩ = some x16) : Up w w2 ∧ w2.cell? ⟨b0, o0, none⟩ = some x0 ∧ w2.cell? ⟨b1, o1, none⟩ = some x1 ∧ w2.cell? ⟨b2, o2, none⟩ = some x2 ∧ w2.cell? ⟨b3, o3, none⟩ = some x3 ∧ w2.cell? ⟨b4, o4, none⟩ = some x4 ∧ w2.cell? ⟨b5, o5, none⟩ = some x5 ∧ w2.cell? ⟨b6, o6, none⟩ = some x6 ∧ w2.cell? ⟨b7, o7, none⟩ = some x7 ∧ w2.cell? ⟨b8, o8, none⟩ = some x8 ∧ w2.cell? ⟨b9, o9, none⟩ = some x9 ∧ w2.cell? ⟨b10, o10, none⟩ = some x10 ∧ w2.cell? ⟨b11, o11, none⟩ = some x11 ∧ w2.cell? ⟨b12, o12, none⟩ = some x12 ∧ w2.cell? ⟨b13, o13, none⟩ = some x13 ∧ w2.cell? ⟨b14, o14, none⟩ = some x14 ∧ w2.cell? ⟨b15, o15, none⟩ = some x15 ∧ w2.cell? ⟨b16, o16, none⟩ = some x16 :=
  ⟨h.1.trans hu.out, hu.out.keep _ _ _ h.2.1, hu.out.keep _ _ _ h.2.2.1, hu.out.keep _ _ _ h.2.2.2.1, hu.out.keep _ _ _ h.2.2.2.2.1, hu.out.keep _ _ _ h.2.2.2.2.2.1, hu.out.keep _ _ _ h.2.2.2.2.2.2.1, hu.out.keep _ _ _ h.2.2.2.2.2.2.2.1, hu.out.keep _ _ _ h.2.2.2.2.2.2.2.2.1, hu.out.keep _ _ _ h.2.2.2.2.2.2.2.2.2.1, hu.out.keep _ _ _ h.2.2.2.2.2.2.2.2.2.2.1, hu.out.keep _ _ _ h.2.2.2.2.2.2.2.2.2.2.2.1, hu.out.keep _ _ _ h.2.2.2.2.2.2.2.2.2.2.2.2.1, hu.out.keep _ _ _ h.2.2.2.2.2.2.2.2.2.2.2.2.2.1, hu.out.keep _ _ _ h.2.2.2.2.2.2.2.2.2.2.2.2.2.2.1, hu.out.keep _ _ _ h.2.2.2.2.2.2.2.2.2.2.2.2.2.2.2.1, hu.out.keep _ _ _ h.2.2.2.2.2.2.2.2.2.2.2.2.2.2.2.2.1, hu.out.keep _ _ _ h.2.2.2.2.2.2.2.2.2.2.2.2.2.2.2.2.2⟩
end Go.Proofs.Ytflahclphdlolaa

/- What ratio.quotient and the reference's reduced return. -/
namespace Go.Proofs.Ytflahclphdlolaa
open Go.RowKit

/-- A rational number and a bool. -/
def gotR (n d : Int) (b : Bool) : Ending := .returned (.tuple #[.agg #[.int .i64 n, .int .i64 d], .bool b])

theorem quo_out (s t : Bool) (x y : Int) (hx : 0 ≤ x) (hy : 0 < y) :
    gotR (quoN (sz s x) (sz t y)) (quoD (sz s x) (sz t y)) (quoB (sz s x) (sz t y)) =
      if (fits (sz (s != t) (x / gcdZ x y)) && fits (sz false (y / gcdZ x y))) = true then gotR (fit (sz (s != t) (x / gcdZ x y))) (fit (sz false (y / gcdZ x y))) true else gotR 0 0 false := by
  obtain ⟨e1, e2⟩ := quo_parts s t x y hx hy
  have h0 : sz t y ≠ 0 := by cases t <;> simp [sz_true, sz_false] <;> omega
  have e2' : quoQ (sz s x) (sz t y) = sz false (y / gcdZ x y) := e2
  have hB : quoB (sz s x) (sz t y) = (fits (sz (s != t) (x / gcdZ x y)) && fits (sz false (y / gcdZ x y))) := by
    unfold quoB; rw [e1, e2', decide_eq_true h0, Bool.true_and]
  by_cases h : (fits (sz (s != t) (x / gcdZ x y)) && fits (sz false (y / gcdZ x y))) = true
  · rw [if_pos h]
    have hb : quoB (sz s x) (sz t y) = true := hB.trans h
    rw [Bool.and_eq_true] at h
    unfold quoN quoD
    rw [hb, if_pos rfl, if_pos rfl, e1, e2']
    unfold fit
    rw [if_pos h.1, if_pos h.2]
  · rw [if_neg h]
    have hb : quoB (sz s x) (sz t y) = false := hB.trans (by simpa using h)
    rw [(quo_no hb).1, (quo_no hb).2, hb]

theorem gcd_v (x y : Int) (hx : In2 x) (hy : In2 y) (w : World) :
    Calls Try.prog 74 #[.agg #[.int .u64 (hiZ x), .int .u64 (loZ x)], .agg #[.int .u64 (hiZ y), .int .u64 (loZ y)]] w fun e w' =>
      e = .returned (.agg #[.int .u64 (hiZ (gcdZ x y)), .int .u64 (loZ (gcdZ x y))]) ∧ Up w w' := by
  have h := gcd_up (hiZ x) (loZ x) (hiZ y) (loZ y) (hiZ_word hx) (loZ_word x) (hiZ_word hy) (loZ_word y) w
  rw [val_hilo, val_hilo] at h
  exact h
theorem rgcd_v (x y : Int) (hx : In2 x) (hy : In2 y) (w : World) :
    Calls Try.prog 91 #[.agg #[.int .u64 (hiZ x), .int .u64 (loZ x)], .agg #[.int .u64 (hiZ y), .int .u64 (loZ y)]] w fun e w' =>
      e = .returned (.agg #[.int .u64 (hiZ (gcdZ x y)), .int .u64 (loZ (gcdZ x y))]) ∧ Up w w' := by
  have h := rgcd_up (hiZ x) (loZ x) (hiZ y) (loZ y) (hiZ_word hx) (loZ_word x) (hiZ_word hy) (loZ_word y) w
  rw [val_hilo, val_hilo] at h
  exact h
theorem gcdZ_fact {x y : Int} (hx : In2 x) (hy : In2 y) (h0 : y ≠ 0) : In2 (gcdZ x y) ∧ gcdZ x y ≠ 0 ∧ In2 (x / gcdZ x y) ∧ In2 (y / gcdZ x y) := by
  obtain ⟨x0, x1⟩ := hx; obtain ⟨y0, y1⟩ := hy
  have hp : 0 < gcdZ x y := by
    unfold gcdZ
    have := Nat.gcd_pos_of_pos_right x.toNat (show 0 < y.toNat by omega)
    omega
  have hl : gcdZ x y ≤ y := by
    unfold gcdZ
    have := Nat.gcd_le_right x.toNat (show 0 < y.toNat by omega)
    omega
  have q1 := Int.ediv_nonneg x0 (Int.le_of_lt hp)
  have q2 := Int.ediv_nonneg y0 (Int.le_of_lt hp)
  have q3 := Int.ediv_le_self (gcdZ x y) x0
  have q4 := Int.ediv_le_self (gcdZ x y) y0
  exact ⟨⟨by omega, by omega⟩, by omega, ⟨q1, by omega⟩, ⟨q2, by omega⟩⟩

theorem own2 {w w' : World} (h : Up w w') (o : Nat) : w'.frozen? ⟨w.heap.size + 1 + 1, o, none⟩ = false := h.own 2 o
theorem own1 {w w' : World} (h : Up w w') (o : Nat) : w'.frozen? ⟨w.heap.size + 1, o, none⟩ = false := h.own 1 o
theorem own0 {w w' : World} (h : Up w w') (o : Nat) : w'.frozen? ⟨w.heap.size, o, none⟩ = false := h.own 0 o

end Go.Proofs.Ytflahclphdlolaa

/- What Of, Compare, Floor, Ceil and Make of package ratio, and of its reference, return; the example of the chapter. -/
namespace Go.Proofs.Ytflahclphdlolaa
open Go.RowKit

def floR (n d : Int) : Int := if validB n d = true then flos n d else 0
def ceiR (n d : Int) : Int := if validB n d = true then ceis n d else 0
def cmpR (n d m c : Int) : Int := if (validB n d && validB m c) = true then crossZ n c m d else 0

theorem ofr_up (n : Int) (w : World) : Calls Try.prog 46 #[.int .i64 n] w fun e w' => e = .returned (.agg #[.int .i64 n, .int .i64 1]) ∧ Up w w' := by
  go_enter Try.func46, Try.ntmps46
  go_wp2
  refine bodyPost_ret (v := .agg #[.int .i64 n, .int .i64 1]) (by simp [results, Try.results46, go_sem]) rfl ⟨?_, ?_⟩
  · rfl
  · repeat (first | exact Up.refl _ | refine Up.alloc ?_ _ _ | refine Up.setCell ?_ (by first | (simp; done) | (simp; omega) | omega) _ | refine Up.drewN ?_ _ | refine Up.drew ?_)

theorem rofr_up (n : Int) (w : World) : Calls Try.prog 62 #[.int .i64 n] w fun e w' => e = .returned (.agg #[.int .i64 n, .int .i64 1]) ∧ Up w w' := by
  go_enter Try.func62, Try.ntmps62
  go_wp2
  refine bodyPost_ret (v := .agg #[.int .i64 n, .int .i64 1]) (by simp [results, Try.results62, go_sem]) rfl ⟨?_, ?_⟩
  · rfl
  · repeat (first | exact Up.refl _ | refine Up.alloc ?_ _ _ | refine Up.setCell ?_ (by first | (simp; done) | (simp; omega) | omega) _ | refine Up.drewN ?_ _ | refine Up.drew ?_)

end Go.Proofs.Ytflahclphdlolaa
