/- Sequence of the reference. -/
import Derived.Test.YtfandjmfkmdofaaDDigits
namespace Go.Proofs.Ytfandjmfkmdofaa
open Go.RowKit

set_option maxHeartbeats 4000000 in
theorem rsequence_no (n k : Nat) (A : Option Addr) (L : List Int) (z : Int) (hz : n * 8 ≤ 140737488351232) (hin : ∀ x ∈ L, In x) (w : World) (hS : Sn w A n L) (h : ∀ W, wtO L = some W → ¬ (0 ≤ z ∧ z < W)) :
    Calls Try.prog 15 #[.slice A n k, .int .i64 z] w fun e w' => e = .returned (.tuple #[.slice none 0 0, .bool false]) ∧ Up w w' := by
  have KW := Lib.hid (rweight_any n k A L hz hin w hS)
  cases hw : wtO L with
  | none =>
    rw [hw] at KW
    clear hS hin hw h
    go_enter Try.func15, Try.ntmps15
    go_wp2_with fail
    refine KW.out.mono ?_
    rintro e w' ⟨rfl, rfl⟩
    go_wp2_with fail
    go_ret2
    exact ⟨rfl, Up.refl _⟩
  | some W =>
    rw [hw] at KW
    by_cases z0 : 0 ≤ z
    · have z1 : ¬ z < W := fun k => h W hw ⟨z0, k⟩
      clear hS hin hw h
      go_enter Try.func15, Try.ntmps15
      go_wp2_with fail
      refine KW.out.mono ?_
      rintro e w' ⟨rfl, rfl⟩
      go_wp2_with fail
      go_ret2
      exact ⟨rfl, Up.refl _⟩
    · clear hS hin hw h
      go_enter Try.func15, Try.ntmps15
      go_wp2_with fail
      refine KW.out.mono ?_
      rintro e w' ⟨rfl, rfl⟩
      go_wp2_with fail
      go_ret2
      exact ⟨rfl, Up.refl _⟩
set_option maxHeartbeats 8000000 in
theorem rsequence_yes (n k : Nat) (A : Option Addr) (L : List Int) (z W : Int) (hz : n * 8 ≤ 140737488351232) (hin : ∀ x ∈ L, In x) (w : World) (hS : Sn w A n L) (hw : wtO L = some W) (z0 : 0 ≤ z) (z1 : z < W) :
    Calls Try.prog 15 #[.slice A n k, .int .i64 z] w fun e w' => ∃ g, e = .returned (.tuple #[.slice (some ⟨g, 0, none⟩) n n, .bool true]) ∧ w.heap.size ≤ g ∧ Bn w' g (dg L z) ∧ Up w w' := by
  have KW := Lib.hid (rweight_any n k A L hz hin w hS)
  obtain ⟨hp, h2, h3, h4⟩ := wtO_some hw
  rw [hw] at KW
  have mk := fun W => makeN_run n hz W
  obtain ⟨hl, hcell⟩ := hS
  have HL := Lib.hid hl
  have HC := Lib.hid hcell
  have HP := Lib.hid hp
  have HZ : Hid (0 ≤ z ∧ z ≤ 4611686018427387904) := Lib.hid ⟨z0, by omega⟩
  clear hl hcell hp hin hw h2
  go_enter Try.func15, Try.ntmps15
  go_wp2_with fail
  refine KW.out.mono ?_
  rintro e w' ⟨rfl, rfl⟩
  go_wp2_with fail
  clear z0 z1 h3 h4 KW
  go_loopw [1, 9] (fun s d wr => ∃ t : Nat, d = .int .i64 ((t : Int) - 1) ∧ s = .int .i64 (dq (L.drop t) z) ∧ t ≤ n ∧ Hid (DgW w wr w.heap.size (part L z t))) (fun _ d _ => (intOf d + 1).toNat)
  case atStart =>
    refine ⟨n, by first | rfl | simp, by rw [List.drop_of_length_le (by rw [HL.out]; exact Nat.le_refl _)]; rfl, Nat.le_refl _, Lib.hid ⟨(Up.refl w).alloc _ _, ?_⟩⟩
    rw [part_all HL.out]
    exact Bn.new _ _ _ rfl
  case round =>
    obtain ⟨t, rfl, rfl, tn, HW⟩ := hrel
    cases t with
    | zero =>
      rw [part_none] at HW
      have e0 : ((0 : Nat) : Int) - 1 = -1 := by omega
      rw [e0]
      generalize dq (L.drop 0) z = y
      go_wp2
      go_ret2
      exact ⟨w.heap.size, rfl, Nat.le_refl _, HW.out.bn, HW.out.up⟩
    | succ t =>
      have e0 : ((t + 1 : Nat) : Int) - 1 = (t : Int) := by omega
      rw [e0]
      have ht : t < L.length := by rw [HL.out]; omega
      obtain ⟨b, o, rfl, hc⟩ := HC.out (by omega)
      have c1 : wr.cell? ⟨b, o + t, none⟩ = some (.int .i64 (L.getD t 0)) := HW.out.up.keep _ _ _ (hc t (by omega))
      have hb : b < w.heap.size := World.block_lt_of_cell? _ _ (hc t (by omega))
      have hb' : ¬ w.heap.size = b := by omega
      have c2 := HW.out.bn.at_ (k := t) (by rw [part_length (by omega)]; exact ht)
      have f2 := HW.out.up.ownGe (Nat.le_refl _) t
      have c3 : ∀ v, (wr.setCell ⟨w.heap.size, t, none⟩ v).cell? ⟨b, o + t, none⟩ = some (.int .i64 (L.getD t 0)) := fun v => by
        rw [cell_far (by show w.heap.size ≠ b; omega)]; exact c1
      have hx : 1 ≤ L.getD t 0 := HP.out _ (by simp [List.getD, ht])
      obtain ⟨q0, q1⟩ := dq_nonneg (L := L.drop (t + 1)) (n := z) (fun m hm => HP.out m (List.mem_of_mem_drop hm)) HZ.out.1
      obtain ⟨r1, r2, r3, r4, r5, r6, r7⟩ := rem_facts q0 (by have := HZ.out.2; omega) hx
      have HD := Lib.hid (dq_drop ht z)
      have HS := Lib.hid (part_set (z := z) ht)
      generalize (part L z (t + 1)).getD t 0 = old at c2
      have HW1 := HW
      generalize dq (L.drop (t + 1)) z = y at *
      generalize L.getD t 0 = x at *
      have g1 : (t : Int) < n := by omega
      have g2 : (0 : Int) ≤ t := by omega
      clear hc HC HP HL HZ ht HW
      go_wp2_with fail
      go_region
      go_wp2_with fail
      go_round
      case rel =>
        refine ⟨t, by first | rfl | simp, by rw [HD.out], by omega, Lib.hid ?_⟩
        rw [← HS.out]
        exact HW1.out.drew.set_ (Nat.le_refl _) t _
      case measure => simp only [intOf]; omega
end Go.Proofs.Ytfandjmfkmdofaa
