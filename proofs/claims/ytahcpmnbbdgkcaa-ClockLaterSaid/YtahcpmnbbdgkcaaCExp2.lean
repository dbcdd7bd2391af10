/- Expired of package clock. -/
import Derived.Test.YtahcpmnbbdgkcaaCExp
import Derived.Shelf.Abstract
namespace Go.Proofs.Ytahcpmnbbdgkcaa
open Go.RowKit

theorem expired_search (n k : Nat) (A : Option Addr) (L : List Int) (f : Int) (hz : n * 8 ≤ 140737488351232) (hA : ascP L) (w : World) (hS : Sn w A n L) (W : World) (hu : Up w W)
    (ha : W.cell? ⟨w.heap.size, 0, none⟩ = some (.slice A n k)) (hf : W.cell? ⟨w.heap.size + 1, 0, none⟩ = some (.int .i64 f)) :
    Calls Try.prog 21 #[.int .i64 n, .func (.func 22) #[] #[.pointer (some ⟨w.heap.size, 0, none⟩), .pointer (some ⟨w.heap.size + 1, 0, none⟩)]] W fun e w' => e = .returned (.int .i64 (cntN f L)) ∧ Up W w' := by
  have hl := hS.1
  refine search_up 22 _ n (cntN f L) W (Go.Proofs.enters_of Try.func22 (by kernel_rfl) rfl) (by omega) (by rw [← hl]; exact cntN_le f L) (fun V hv i hi => ?_)
  obtain ⟨b, o, rfl, hc⟩ := hS.2 (by omega)
  have hp := cntN_place (f := f) hA i (by omega)
  have c1 := (hu.trans hv).keep _ _ _ (hc i hi)
  have hd : decide (f ≤ L.getD i 0) = decide (cntN f L ≤ i) := decide_eq_decide.2 hp.symm
  refine (expired1_q w.heap.size (w.heap.size + 1) b o n k f (L.getD i 0) i (decide (cntN f L ≤ i)) hd V hi (hv.keep _ _ _ ha) (hv.keep _ _ _ hf) c1).mono ?_
  rintro e w' ⟨he, hq⟩
  exact ⟨he, up_drew hq⟩

set_option maxHeartbeats 4000000 in
theorem expired_up (n k : Nat) (A : Option Addr) (L : List Int) (now v : Int) (hz : n * 8 ≤ 140737488351232) (w : World) (hS : Sn w A n L) :
    Calls Try.prog 17 #[.slice A n k, .int .i64 now, .int .i64 v] w fun e w' => e = .returned (.int .i64 (expZ L now v)) ∧ Up w w' := by
  have KF := Lib.hid (first_any now v)
  have KP := Lib.hid (fun W (hu : Up w W) => isPast_q n k A L now hz W (hS.up hu))
  have hmf : ∀ (fn : Fn) (first cap : Array Value) (w : World), (Instr.makeFunc fn first cap).run Try.prog w = .ok (.func fn first cap) w := fun _ _ _ _ => rfl
  have U1 : Hid (∀ (a b : Array Value) s t, Up w ((w.alloc (.cells a s)).alloc (.cells b t))) := Lib.hid (fun a b s t => ((Up.refl _).alloc _ _).alloc _ _)
  cases hb : (tickB now && winB v) with
  | false =>
    have e1 : expZ L now v = -1 := by unfold expZ; rw [hb]; rfl
    rw [e1]
    rw [firZ_no hb] at KF
    clear hb hS e1
    go_enter Try.func17, Try.ntmps17
    go_wp2_with fail
    refine (KF.out _).mono ?_
    rintro e w' ⟨rfl, rfl⟩
    go_wp2_with fail
    go_ret
    exact ⟨rfl, U1.out _ _ _ _⟩
  | true =>
    have h0 := firZ_low hb
    have t0 : decide (firZ now v < 0) = false := decide_eq_false (by omega)
    cases hp : pastB L now with
    | false =>
      have e1 : expZ L now v = -1 := by unfold expZ; rw [hp, Bool.and_false]; rfl
      rw [e1]
      rw [hp] at KP
      clear hb hS hp e1
      generalize firZ now v = f at *
      go_enter Try.func17, Try.ntmps17
      go_wp2_with fail
      refine (KF.out _).mono ?_
      rintro e w' ⟨rfl, rfl⟩
      go_wp2_with fail
      refine (KP.out _ (U1.out _ _ _ _)).mono ?_
      rintro e w' ⟨rfl, q, rfl⟩
      go_wp2_with fail
      go_ret
      exact ⟨rfl, (U1.out _ _ _ _).trans (Up.drewN (Up.refl _) _)⟩
    | true =>
      have e1 : expZ L now v = cntN (firZ now v) L := by unfold expZ; rw [hb, hp]; rfl
      rw [e1]
      rw [hp] at KP
      have KS := Lib.hid (fun W hu ha hf => expired_search n k A L (firZ now v) hz (of_decide_eq_true hp).1 w hS W hu ha hf)
      clear hb hS hp e1
      generalize firZ now v = f at *
      generalize cntN f L = c at *
      go_enter Try.func17, Try.ntmps17
      go_wp2_with fail
      refine (KF.out _).mono ?_
      rintro e w' ⟨rfl, rfl⟩
      go_wp2_with fail
      refine (KP.out _ (U1.out _ _ _ _)).mono ?_
      rintro e w' ⟨rfl, q, rfl⟩
      go_wp2_with fail
      refine (KS.out _ ((U1.out _ _ _ _).trans (Up.drewN (Up.refl _) _)) (by simp [go_sem]) (by simp [go_sem])).mono ?_
      rintro e w' ⟨rfl, hu⟩
      have HU := Lib.hid hu
      clear hu
      go_wp2_with fail
      go_ret
      exact ⟨rfl, ((U1.out _ _ _ _).trans (Up.drewN (Up.refl _) _)).trans HU.out⟩
end Go.Proofs.Ytahcpmnbbdgkcaa
