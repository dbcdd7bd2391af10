/- Package spread: states, Validate, New, Most; New, Most, Same of the reference. -/
import Derived.Test.YtafkoddgefcpnaaRows
import Derived.Test.YtafkoddgefcpnaaZLMvq323
import Derived.Test.YtafkoddgefcpnaaZLOneq322
import Derived.Test.YtafkoddgefcpnaaZLValq325
namespace Go.Proofs.Ytafkoddgefcpnaa
open Go.RowKit
set_option linter.unusedVariables false

theorem keepL6 {w w1 w2 : World} {b0 o0 b1 o1 b2 o2 b3 o3 b4 o4 b5 o5 : Nat} {x0 x1 x2 x3 x4 x5 : Value} (hu : Hid (Up w1 w2)) (h : Up w w1 ∧ w1.cell? ⟨b0, o0, none⟩ = some x0 ∧ w1.cell? ⟨b1, o1, none⟩ = some x1 ∧ w1.cell? ⟨b2, o2, none⟩ = some x2 ∧ w1.cell? ⟨b3, o3, none⟩ = some x3 ∧ w1.cell? ⟨b4, o4, none⟩ = some x4 ∧ w1.cell? ⟨b5, o5, none⟩ = some x5) : Up w w2 ∧ w2.cell? ⟨b0, o0, none⟩ = some x0 ∧ w2.cell? ⟨b1, o1, none⟩ = some x1 ∧ w2.cell? ⟨b2, o2, none⟩ = some x2 ∧ w2.cell? ⟨b3, o3, none⟩ = some x3 ∧ w2.cell? ⟨b4, o4, none⟩ = some x4 ∧ w2.cell? ⟨b5, o5, none⟩ = some x5 :=
  ⟨h.1.trans hu.out, hu.out.keep _ _ _ h.2.1, hu.out.keep _ _ _ h.2.2.1, hu.out.keep _ _ _ h.2.2.2.1, hu.out.keep _ _ _ h.2.2.2.2.1, hu.out.keep _ _ _ h.2.2.2.2.2.1, hu.out.keep _ _ _ h.2.2.2.2.2.2⟩
theorem farP6 {w : World} {p g o : Nat} {v0 v1 v2 v3 v4 v5 u : Value} (h : w.cell? ⟨g, o, none⟩ = some u) (hp : p ≠ g) : ((((((w.setCell ⟨p, 0, none⟩ (v0)).setCell ⟨p, 1, none⟩ (v1)).setCell ⟨p, 2, none⟩ (v2)).setCell ⟨p, 3, none⟩ (v3)).setCell ⟨p, 4, none⟩ (v4)).setCell ⟨p, 5, none⟩ (v5)).cell? ⟨g, o, none⟩ = some u :=
  (cell_far hp).trans ((cell_far hp).trans ((cell_far hp).trans ((cell_far hp).trans ((cell_far hp).trans ((cell_far hp).trans h)))))
theorem SG.offP6 {α : Type} {f : α → List Value} {w : World} {A : Option Addr} {n p : Nat} {M : List α} (h : SG f w A n M) (hn : ∀ b o, A = some ⟨b, o, none⟩ → b ≠ p) (v0 v1 v2 v3 v4 v5 : Value) : SG f ((((((w.setCell ⟨p, 0, none⟩ (v0)).setCell ⟨p, 1, none⟩ (v1)).setCell ⟨p, 2, none⟩ (v2)).setCell ⟨p, 3, none⟩ (v3)).setCell ⟨p, 4, none⟩ (v4)).setCell ⟨p, 5, none⟩ (v5)) A n M :=
  (((((h.off hn _).off hn _).off hn _).off hn _).off hn _).off hn _
set_option maxHeartbeats 4000000 in
set_option maxRecDepth 100000 in
theorem toSmooth_up (v q c now seq : Int) (n k : Nat) (A : Option Addr) (w : World) :
    Calls Try.prog 101 #[.agg #[.int .i64 v, .int .i64 q, .int .i64 c, .int .i64 now, .int .i64 seq, .slice A n k]] w fun e w' => e = .returned (.agg #[.int .i64 4, .int .i64 v, .int .i64 q, .int .i64 c, .int .i64 now, .int .i64 seq, .slice A n k]) ∧ Up w w' := by
  go_enter Try.func101, Try.ntmps101
  go_wp2
  refine bodyPost_ret (v := .agg #[.int .i64 4, .int .i64 v, .int .i64 q, .int .i64 c, .int .i64 now, .int .i64 seq, .slice A n k]) (by simp [results, Try.results101, go_sem]) rfl ⟨?_, ?_⟩
  · rfl
  · repeat (first | exact Up.refl _ | refine Up.alloc ?_ _ _ | refine Up.setCell ?_ (by first | (simp; done) | (simp; omega) | omega) _ | refine Up.drewN ?_ _ | refine Up.drew ?_)
theorem stP_form (v q c now seq : Int) (X : List Mrk) : stP v q c now seq X = (mayM 4 v q c now && (mrkB 4 v c now seq X && dfB (clQ q) X)) := by
  unfold mayM
  rw [show agB 4 = true from rfl, Bool.true_and]
  rfl

set_option maxHeartbeats 4000000 in
set_option maxRecDepth 100000 in
theorem validate14_up (v q c now seq : Int) (n k : Nat) (A : Option Addr) (X : List Mrk) (hn : n ≤ 50000) (w : World) (hS : SG cM w A n X) :
    Calls Try.prog 51 #[.agg #[.int .i64 v, .int .i64 q, .int .i64 c, .int .i64 now, .int .i64 seq, .slice A n k]] w fun e w' => e = .returned (.int .i64 (stPE v q c now seq X)) ∧ Up w w' := by
  have KT := Lib.hid (toSmooth_up v q c now seq n k A)
  have KN := Lib.hid (closeness_up q)
  have KV := Lib.hid (fun (b1 : Nat) W (hu : Up w W) (hb : W.cell? ⟨b1, 0, none⟩ = some (.int .i64 q)) => mvalidS_up (clQ q) (fun _ => True) b1 4 v q c now seq n k A X hn (fun _ _ _ _ => trivial) W (close_rule b1 q W hb) (hS.up hu))
  rw [← stP_form] at KV
  have HSS : Hid (Up w (w.alloc (.cells #[.int .i64 v, .int .i64 q, .int .i64 c, .int .i64 now, .int .i64 seq, .slice A n k] 61)) ∧ (w.alloc (.cells #[.int .i64 v, .int .i64 q, .int .i64 c, .int .i64 now, .int .i64 seq, .slice A n k] 61)).cell? ⟨w.heap.size, 0, none⟩ = some (.int .i64 v) ∧ (w.alloc (.cells #[.int .i64 v, .int .i64 q, .int .i64 c, .int .i64 now, .int .i64 seq, .slice A n k] 61)).cell? ⟨w.heap.size, 1, none⟩ = some (.int .i64 q) ∧ (w.alloc (.cells #[.int .i64 v, .int .i64 q, .int .i64 c, .int .i64 now, .int .i64 seq, .slice A n k] 61)).cell? ⟨w.heap.size, 2, none⟩ = some (.int .i64 c) ∧ (w.alloc (.cells #[.int .i64 v, .int .i64 q, .int .i64 c, .int .i64 now, .int .i64 seq, .slice A n k] 61)).cell? ⟨w.heap.size, 3, none⟩ = some (.int .i64 now) ∧ (w.alloc (.cells #[.int .i64 v, .int .i64 q, .int .i64 c, .int .i64 now, .int .i64 seq, .slice A n k] 61)).cell? ⟨w.heap.size, 4, none⟩ = some (.int .i64 seq) ∧ (w.alloc (.cells #[.int .i64 v, .int .i64 q, .int .i64 c, .int .i64 now, .int .i64 seq, .slice A n k] 61)).cell? ⟨w.heap.size, 5, none⟩ = some (.slice A n k)) := Lib.hid ⟨(Up.refl w).alloc _ _, by simp [go_sem], by simp [go_sem], by simp [go_sem], by simp [go_sem], by simp [go_sem], by simp [go_sem]⟩
  unfold stPE
  clear hS
  cases hv : stP v q c now seq X with
  | false =>
    rw [hv] at KV
    rw [if_neg Bool.false_ne_true]
    clear hv
    go_enter Try.func51, Try.ntmps51
    go_wp2_with fail
    refine wp_region_held_drew (S := fun w' => Up w w' ∧ w'.cell? ⟨w.heap.size, 0, none⟩ = some (.int .i64 v) ∧ w'.cell? ⟨w.heap.size, 1, none⟩ = some (.int .i64 q) ∧ w'.cell? ⟨w.heap.size, 2, none⟩ = some (.int .i64 c) ∧ w'.cell? ⟨w.heap.size, 3, none⟩ = some (.int .i64 now) ∧ w'.cell? ⟨w.heap.size, 4, none⟩ = some (.int .i64 seq) ∧ w'.cell? ⟨w.heap.size, 5, none⟩ = some (.slice A n k)) (by kernel_rfl) ?hB1 (fun hHeld => ?_)
    case hB1 => (first | (with_reducible assumption) | (with_reducible exact keepL6 (Lib.hid (Up.refl _).drew) HSS.out) | (with_reducible exact HX2.out) | (with_reducible exact HX3.out) | (with_reducible exact HX4.out))
    refine wpAnyH_take (i := 0) (oi := ⟨_, _, _, _, _, _⟩) (v := ?v2) rfl (by kernel_rfl) (by kernel_rfl) (by kernel_rfl) (fun _ _ _ h => h) (Or.inl ⟨by rfl, ?hy2⟩) (by assumption) ?_
    case hy2 => (intro w hSw; (try dsimp only at hSw); go_simp; (try (with_reducible rfl)))
    (try simp only [Act.put, List.setIfInBounds_toArray, List.set_cons_zero, List.set_cons_succ])
    refine wpAnyH_take (i := 2) (oi := ⟨_, _, _, _, _, _⟩) (v := ?v3) rfl (by kernel_rfl) (by kernel_rfl) (by kernel_rfl) (fun _ _ _ h => h) (Or.inl ⟨by rfl, ?hy3⟩) (by assumption) ?_
    case hy3 => (intro w hSw; (try dsimp only at hSw); go_simp; (try (with_reducible rfl)))
    (try simp only [Act.put, List.setIfInBounds_toArray, List.set_cons_zero, List.set_cons_succ])
    refine wpAnyH_take (i := 3) (oi := ⟨_, _, _, _, _, _⟩) (v := ?v4) rfl (by kernel_rfl) (by kernel_rfl) (by kernel_rfl) (fun _ _ _ h => h) (Or.inl ⟨by rfl, ?hy4⟩) (by assumption) ?_
    case hy4 => (intro w hSw; (try dsimp only at hSw); go_simp; (try (with_reducible rfl)))
    (try simp only [Act.put, List.setIfInBounds_toArray, List.set_cons_zero, List.set_cons_succ])
    refine wpAnyH_ready (rs := [1]) (by kernel_rfl) (by simp) ?_
    refine AllReadyH.cons (o := ⟨_, _, _, _, _, _⟩) rfl (fun K hK => ?_) AllReadyH.nil
    go_simp
    (go_at_call 101; (with_reducible refine (KT.out _).mono ?_); rintro e w2 ⟨rfl, hu⟩; have HU2 := Lib.hid hu; have HX2 := Lib.hid (keepL6 HU2 hHeld); clear hu)
    (try go_wp2_with fail)
    refine hK.out _ _ ?hB5 (fun hHeld => ?_)
    case hB5 => (first | (with_reducible assumption) | (with_reducible exact keepL6 (Lib.hid (Up.refl _).drew) HSS.out) | (with_reducible exact HX2.out) | (with_reducible exact HX3.out) | (with_reducible exact HX4.out))
    clear hK K
    (try simp only [Act.put, List.setIfInBounds_toArray, List.set_cons_zero, List.set_cons_succ])
    refine wpAnyH_ready (rs := [4]) (by kernel_rfl) (by simp) ?_
    refine AllReadyH.cons (o := ⟨_, _, _, _, _, _⟩) rfl (fun K hK => ?_) AllReadyH.nil
    go_simp
    (go_at_call 102; (with_reducible refine (KN.out _).mono ?_); rintro e w3 ⟨xb, rfl, hu, cb⟩; have HU3 := Lib.hid hu; have HX3 := Lib.hid (keepL6 HU3 hHeld); have CB := Lib.hid cb; clear hu cb)
    (try go_wp2_with fail)
    refine hK.out _ _ ?hB6 (fun hHeld => ?_)
    case hB6 => (first | (with_reducible assumption) | (with_reducible exact keepL6 (Lib.hid (Up.refl _).drew) HSS.out) | (with_reducible exact HX2.out) | (with_reducible exact HX3.out) | (with_reducible exact HX4.out))
    clear hK K
    (try simp only [Act.put, List.setIfInBounds_toArray, List.set_cons_zero, List.set_cons_succ])
    refine wpAnyH_ready (rs := [5]) (by kernel_rfl) (by simp) ?_
    refine AllReadyH.cons (o := ⟨_, _, _, _, _, _⟩) rfl (fun K hK => ?_) AllReadyH.nil
    go_simp
    (go_at_call 66; (with_reducible refine (KV.out xb _ hHeld.1 CB.out).mono ?_); rintro e w4 ⟨rfl, hu⟩; have HU4 := Lib.hid hu; have HX4 := Lib.hid (keepL6 HU4 hHeld); clear hu)
    (try go_wp2_with fail)
    refine hK.out _ _ ?hB7 (fun hHeld => ?_)
    case hB7 => (first | (with_reducible assumption) | (with_reducible exact keepL6 (Lib.hid (Up.refl _).drew) HSS.out) | (with_reducible exact HX2.out) | (with_reducible exact HX3.out) | (with_reducible exact HX4.out))
    clear hK K
    (try simp only [Act.put, List.setIfInBounds_toArray, List.set_cons_zero, List.set_cons_succ])
    refine wpAnyH_take (i := 6) (oi := ⟨_, _, _, _, _, _⟩) (v := ?v8) rfl (by kernel_rfl) (by kernel_rfl) (by kernel_rfl) (fun _ _ _ h => h) (Or.inl ⟨by rfl, ?hy8⟩) (by assumption) ?_
    case hy8 => (intro w hSw; (try dsimp only at hSw); go_simp; (try (with_reducible rfl)))
    (try simp only [Act.put, List.setIfInBounds_toArray, List.set_cons_zero, List.set_cons_succ])
    refine wpAnyH_done (by kernel_rfl) ?_ _
    clear hHeld
    go_wp2_with fail
    go_ret
    exact ⟨rfl, HX4.out.1⟩
  | true =>
    rw [hv] at KV
    rw [if_pos rfl]
    clear hv
    go_enter Try.func51, Try.ntmps51
    go_wp2_with fail
    refine wp_region_held_drew (S := fun w' => Up w w' ∧ w'.cell? ⟨w.heap.size, 0, none⟩ = some (.int .i64 v) ∧ w'.cell? ⟨w.heap.size, 1, none⟩ = some (.int .i64 q) ∧ w'.cell? ⟨w.heap.size, 2, none⟩ = some (.int .i64 c) ∧ w'.cell? ⟨w.heap.size, 3, none⟩ = some (.int .i64 now) ∧ w'.cell? ⟨w.heap.size, 4, none⟩ = some (.int .i64 seq) ∧ w'.cell? ⟨w.heap.size, 5, none⟩ = some (.slice A n k)) (by kernel_rfl) ?hB9 (fun hHeld => ?_)
    case hB9 => (first | (with_reducible assumption) | (with_reducible exact keepL6 (Lib.hid (Up.refl _).drew) HSS.out) | (with_reducible exact HX2.out) | (with_reducible exact HX3.out) | (with_reducible exact HX4.out))
    refine wpAnyH_take (i := 0) (oi := ⟨_, _, _, _, _, _⟩) (v := ?v10) rfl (by kernel_rfl) (by kernel_rfl) (by kernel_rfl) (fun _ _ _ h => h) (Or.inl ⟨by rfl, ?hy10⟩) (by assumption) ?_
    case hy10 => (intro w hSw; (try dsimp only at hSw); go_simp; (try (with_reducible rfl)))
    (try simp only [Act.put, List.setIfInBounds_toArray, List.set_cons_zero, List.set_cons_succ])
    refine wpAnyH_take (i := 2) (oi := ⟨_, _, _, _, _, _⟩) (v := ?v11) rfl (by kernel_rfl) (by kernel_rfl) (by kernel_rfl) (fun _ _ _ h => h) (Or.inl ⟨by rfl, ?hy11⟩) (by assumption) ?_
    case hy11 => (intro w hSw; (try dsimp only at hSw); go_simp; (try (with_reducible rfl)))
    (try simp only [Act.put, List.setIfInBounds_toArray, List.set_cons_zero, List.set_cons_succ])
    refine wpAnyH_take (i := 3) (oi := ⟨_, _, _, _, _, _⟩) (v := ?v12) rfl (by kernel_rfl) (by kernel_rfl) (by kernel_rfl) (fun _ _ _ h => h) (Or.inl ⟨by rfl, ?hy12⟩) (by assumption) ?_
    case hy12 => (intro w hSw; (try dsimp only at hSw); go_simp; (try (with_reducible rfl)))
    (try simp only [Act.put, List.setIfInBounds_toArray, List.set_cons_zero, List.set_cons_succ])
    refine wpAnyH_ready (rs := [1]) (by kernel_rfl) (by simp) ?_
    refine AllReadyH.cons (o := ⟨_, _, _, _, _, _⟩) rfl (fun K hK => ?_) AllReadyH.nil
    go_simp
    (go_at_call 101; (with_reducible refine (KT.out _).mono ?_); rintro e w2 ⟨rfl, hu⟩; have HU2 := Lib.hid hu; have HX2 := Lib.hid (keepL6 HU2 hHeld); clear hu)
    (try go_wp2_with fail)
    refine hK.out _ _ ?hB13 (fun hHeld => ?_)
    case hB13 => (first | (with_reducible assumption) | (with_reducible exact keepL6 (Lib.hid (Up.refl _).drew) HSS.out) | (with_reducible exact HX2.out) | (with_reducible exact HX3.out) | (with_reducible exact HX4.out))
    clear hK K
    (try simp only [Act.put, List.setIfInBounds_toArray, List.set_cons_zero, List.set_cons_succ])
    refine wpAnyH_ready (rs := [4]) (by kernel_rfl) (by simp) ?_
    refine AllReadyH.cons (o := ⟨_, _, _, _, _, _⟩) rfl (fun K hK => ?_) AllReadyH.nil
    go_simp
    (go_at_call 102; (with_reducible refine (KN.out _).mono ?_); rintro e w3 ⟨xb, rfl, hu, cb⟩; have HU3 := Lib.hid hu; have HX3 := Lib.hid (keepL6 HU3 hHeld); have CB := Lib.hid cb; clear hu cb)
    (try go_wp2_with fail)
    refine hK.out _ _ ?hB14 (fun hHeld => ?_)
    case hB14 => (first | (with_reducible assumption) | (with_reducible exact keepL6 (Lib.hid (Up.refl _).drew) HSS.out) | (with_reducible exact HX2.out) | (with_reducible exact HX3.out) | (with_reducible exact HX4.out))
    clear hK K
    (try simp only [Act.put, List.setIfInBounds_toArray, List.set_cons_zero, List.set_cons_succ])
    refine wpAnyH_ready (rs := [5]) (by kernel_rfl) (by simp) ?_
    refine AllReadyH.cons (o := ⟨_, _, _, _, _, _⟩) rfl (fun K hK => ?_) AllReadyH.nil
    go_simp
    (go_at_call 66; (with_reducible refine (KV.out xb _ hHeld.1 CB.out).mono ?_); rintro e w4 ⟨rfl, hu⟩; have HU4 := Lib.hid hu; have HX4 := Lib.hid (keepL6 HU4 hHeld); clear hu)
    (try go_wp2_with fail)
    refine hK.out _ _ ?hB15 (fun hHeld => ?_)
    case hB15 => (first | (with_reducible assumption) | (with_reducible exact keepL6 (Lib.hid (Up.refl _).drew) HSS.out) | (with_reducible exact HX2.out) | (with_reducible exact HX3.out) | (with_reducible exact HX4.out))
    clear hK K
    (try simp only [Act.put, List.setIfInBounds_toArray, List.set_cons_zero, List.set_cons_succ])
    refine wpAnyH_take (i := 6) (oi := ⟨_, _, _, _, _, _⟩) (v := ?v16) rfl (by kernel_rfl) (by kernel_rfl) (by kernel_rfl) (fun _ _ _ h => h) (Or.inl ⟨by rfl, ?hy16⟩) (by assumption) ?_
    case hy16 => (intro w hSw; (try dsimp only at hSw); go_simp; (try (with_reducible rfl)))
    (try simp only [Act.put, List.setIfInBounds_toArray, List.set_cons_zero, List.set_cons_succ])
    refine wpAnyH_done (by kernel_rfl) ?_ _
    clear hHeld
    go_wp2_with fail
    go_ret
    exact ⟨rfl, HX4.out.1⟩

end Go.Proofs.Ytafkoddgefcpnaa
