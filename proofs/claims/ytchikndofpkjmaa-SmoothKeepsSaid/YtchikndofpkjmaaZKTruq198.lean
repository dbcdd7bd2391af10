/- The items that the laws of package smooth play, and their aggregate as the laws count it. -/
import Derived.Test.YtchikndofpkjmaaRows
import Derived.Test.YtchikndofpkjmaaZJPosq197
import Derived.Test.YtchikndofpkjmaaZKBaseq118
namespace Go.Proofs.Ytchikndofpkjmaa
open Go.RowKit
set_option linter.unusedVariables false

set_option maxHeartbeats 4000000 in
set_option maxRecDepth 100000 in
theorem items13_up (n k : Nat) (A : Option Addr) (L : List It) (v : Int) (h1 : 1 ≤ v) (h2 : v ≤ 25) (mx : Nat) (mi : Int) (e : (mx : Int) = mi) (hmx : mx ≤ 200) (g : Int) (hg : 1 ≤ g ∧ g ≤ 4) (w : World) (hS : Sl w A n L) :
    Calls Try.prog 29 #[.slice A n k, .int .i64 v, .int .i64 mi, .int .i64 g] w fun e w' => ∃ A' n' k' M z, e = .returned (.slice A' n' k') ∧ n' ≤ mx ∧ mdT M z ∧ (∀ j, j < n' → valG g (M.getD j (0, 0)).2) ∧ Nw w A' ∧ Sl w' A' n' M ∧ Up w w' := by
  have HS := Lib.hid hS
  by_cases g2 : g = 2
  · subst g2
    have KP := Lib.hid (fun W (h : Sl W A n L) => positive_up n k A L v h1 h2 mx mi e hmx 4096 (by omega) (by omega) W h)
    clear hS hg
    go_enter Try.func29, Try.ntmps29
    go_wp2_with (go_at_call 66; (with_reducible refine (KP.out _ HS.out).mono ?_); rintro e1 w1 ⟨A1, n1, k1_, M0, z, rfl, hn1, hT, hV, hN, hO, hu⟩; have HH := Lib.hid (And.intro hn1 (And.intro hT (And.intro hV (And.intro hN (And.intro hO hu))))); clear hn1 hT hV hN hO hu)
    go_ret
    obtain ⟨q1, q2, q3, q4, q5, q6⟩ := HH.out
    exact ⟨_, _, _, M0, z, rfl, q1, q2, fun j hj => ⟨by have := q3 j hj; omega, (q3 j hj).2, Or.inl (q3 j hj).1⟩, q4, q5, q6⟩
  by_cases g3 : g = 3
  · subst g3
    clear g2
    have KP := Lib.hid (fun W (h : Sl W A n L) => positive_up n k A L v h1 h2 mx mi e hmx 4096 (by omega) (by omega) W h)
    clear hS hg
    go_enter Try.func29, Try.ntmps29
    go_wp2_with (go_at_call 66; (with_reducible refine (KP.out _ HS.out).mono ?_); rintro e1 w1 ⟨A1, n1, k1_, M0, z, rfl, hn1, hT, hV, hN, hO, hu⟩; have HH := Lib.hid (And.intro hn1 (And.intro hT (And.intro hV (And.intro hN (And.intro hO hu))))); clear hn1 hT hV hN hO hu)
    go_ret
    obtain ⟨q1, q2, q3, q4, q5, q6⟩ := HH.out
    exact ⟨_, _, _, M0, z, rfl, q1, q2, fun j hj => ⟨by have := q3 j hj; omega, (q3 j hj).2, Or.inl (q3 j hj).1⟩, q4, q5, q6⟩
  have hv : ∀ x : Int, valueB x = true → valG g x := fun x hx => by
    have := of_decide_eq_true (show decide (-4096 ≤ x ∧ x ≤ 4096) = true from hx)
    exact ⟨this.1, this.2, by omega⟩
  have t2 : (g == 2) = false := beq_eq_false_iff_ne.2 g2
  have t3 : (g == 3) = false := beq_eq_false_iff_ne.2 g3
  subst e
  have KI := Lib.hid (fun W (h : Sl W A n L) => itemsI_up n k A L v h1 h2 mx hmx W h)
  have HV := Lib.hid hv
  clear hS hg g2 g3 hv
  go_enter Try.func29, Try.ntmps29
  go_wp2_with (go_at_call 67; (with_reducible refine (KI.out _ HS.out).mono ?_); rintro e1 w1 ⟨A1, n1, k1_, M0, z, rfl, hn1, hP, hO, hu⟩; have HN := Lib.hid hO.nw; have HS1 : Hid (Sl w1 A1 n1 M0) := Lib.hid (by obtain ⟨A9, k9, e9, _, h9⟩ := hO.sl; cases e9; exact h9); have HH := Lib.hid (And.intro hn1 (And.intro hP hu)); clear hn1 hu hP hO)
  go_ret
  obtain ⟨q1, q2, q3⟩ := HH.out
  exact ⟨_, _, _, M0, z, rfl, q1, q2.t, fun j hj => HV.out _ (q2.2.2 j (by rw [HS1.out.1]; exact hj)).2.2.2, HN.out, HS1.out, q3⟩

end Go.Proofs.Ytchikndofpkjmaa
