/- The digits of a number: digits and Sequence of package draw, Sequence of its reference. -/
import Derived.Test.YtfandjmfkmdofaaDNumber
namespace Go.Proofs.Ytfandjmfkmdofaa
open Go.RowKit

/-- The list in the making: its places from t on are the digits, the others are 0. -/
def part (L : List Int) (z : Int) (t : Nat) : List Int := List.replicate t 0 ++ (dg L z).drop t
theorem part_all {L : List Int} {n : Nat} (hl : L.length = n) (z : Int) : part L z n = List.replicate n 0 := by
  unfold part
  rw [List.drop_of_length_le (by rw [dg_length]; omega), List.append_nil]
theorem part_none (L : List Int) (z : Int) : part L z 0 = dg L z := by simp [part]
theorem part_length {L : List Int} {z : Int} {t : Nat} (h : t ≤ L.length) : (part L z t).length = L.length := by
  simp [part, dg_length]; omega
theorem part_set {L : List Int} {z : Int} {t : Nat} (h : t < L.length) : (part L z (t + 1)).set t (dq (L.drop (t + 1)) z % L.getD t 0) = part L z t := by
  have hd : t < (dg L z).length := by rw [dg_length]; exact h
  unfold part
  rw [← dg_getD h, List.set_append_left _ _ (by simp), drop_cons hd, List.replicate_succ', List.set_append_right _ _ (by simp)]
  simp
theorem rem_facts {z x : Int} (h0 : 0 ≤ z) (h1 : z ≤ 4611686018427387904) (hx : 1 ≤ x) :
    z.tmod x = z % x ∧ z.tdiv x = z / x ∧ IntKind.i64.wrap (z % x) = z % x ∧ IntKind.i64.wrap (z / x) = z / x ∧ 0 ≤ z / x ∧ z / x ≤ 4611686018427387904 ∧ ¬ x = 0 := by
  have a1 := Int.emod_nonneg z (show x ≠ 0 by omega)
  have a3 := Int.ediv_nonneg h0 (show 0 ≤ x by omega)
  have a2 : z % x ≤ z := by have h2 := Int.mul_ediv_add_emod z x; have h3 := Int.mul_nonneg (show 0 ≤ x by omega) a3; omega
  have a4 : z / x ≤ z := Int.ediv_le_self _ h0
  exact ⟨Int.tmod_eq_emod_of_nonneg h0, Int.tdiv_eq_ediv_of_nonneg h0, IntWalk.i64_in _ (by omega), IntWalk.i64_in _ (by omega), a3, by omega, by omega⟩

/-- Where digits is: the list in block g. -/
structure DgW (w wr : World) (g : Nat) (M : List Int) : Prop where
  up : Up w wr
  bn : Bn wr g M
theorem DgW.set_ {w wr : World} {g : Nat} {M : List Int} (h : DgW w wr g M) (hg : w.heap.size ≤ g) (t : Nat) (x : Int) : DgW w (wr.setCell ⟨g, t, none⟩ (.int .i64 x)) g (M.set t x) :=
  ⟨h.up.setCell hg _, h.bn.set_ t x⟩
theorem DgW.drew {w wr : World} {g : Nat} {M : List Int} (h : DgW w wr g M) : DgW w wr.drew g M := ⟨h.up.drew, h.bn⟩
theorem DgW.drewN {w wr : World} {g : Nat} {M : List Int} (h : DgW w wr g M) (n : Nat) : DgW w (wr.drewN n) g M := ⟨h.up.drewN n, h.bn⟩

set_option maxHeartbeats 4000000 in
theorem digits_up (n k : Nat) (A : Option Addr) (L : List Int) (z : Int) (hz : n * 8 ≤ 140737488351232) (hp : ∀ m ∈ L, 1 ≤ m) (z0 : 0 ≤ z) (z1 : z ≤ 4611686018427387904) (w : World) (hS : Sn w A n L) :
    Calls Try.prog 23 #[.slice A n k, .int .i64 z] w fun e w' => ∃ g, e = .returned (.slice (some ⟨g, 0, none⟩) n n) ∧ w.heap.size ≤ g ∧ Bn w' g (dg L z) ∧ Up w w' := by
  have mk := fun W => makeN_run n hz W
  obtain ⟨hl, hcell⟩ := hS
  have HL := Lib.hid hl
  have HC := Lib.hid hcell
  have HP := Lib.hid hp
  have HZ := Lib.hid (And.intro z0 z1)
  clear hl hcell hp z0 z1
  go_enter Try.func23, Try.ntmps23
  go_wp2
  go_loopw [1, 6] (fun s d wr => ∃ t : Nat, d = .int .i64 ((t : Int) - 1) ∧ s = .int .i64 (dq (L.drop t) z) ∧ t ≤ n ∧ Hid (DgW w wr w.heap.size (part L z t))) (fun _ d _ => (intOf d + 1).toNat)
  case atStart =>
    refine ⟨n, by first | rfl | simp, by rw [List.drop_of_length_le (by rw [HL.out]; exact Nat.le_refl _)]; rfl, Nat.le_refl _, Lib.hid ⟨(Up.refl w).alloc _ _, ?_⟩⟩
    rw [part_all HL.out]
    exact Bn.new _ _ _ rfl
  case round =>
    obtain ⟨t, rfl, rfl, tn, HW⟩ := hrel
    cases t with
    | zero =>
      rw [part_none] at HW
      have e0 : ((0 : Nat) : Int) - 1 = -1 := by omega
      rw [e0]
      generalize dq (L.drop 0) z = y
      go_wp2
      go_ret
      exact ⟨w.heap.size, rfl, Nat.le_refl _, HW.out.bn, HW.out.up⟩
    | succ t =>
      have e0 : ((t + 1 : Nat) : Int) - 1 = (t : Int) := by omega
      rw [e0]
      have ht : t < L.length := by rw [HL.out]; omega
      obtain ⟨b, o, rfl, hc⟩ := HC.out (by omega)
      have c1 : wr.cell? ⟨b, o + t, none⟩ = some (.int .i64 (L.getD t 0)) := HW.out.up.keep _ _ _ (hc t (by omega))
      have hb : b < w.heap.size := World.block_lt_of_cell? _ _ (hc t (by omega))
      have c2 := HW.out.bn.at_ (k := t) (by rw [part_length (by omega)]; exact ht)
      have f2 := HW.out.up.ownGe (Nat.le_refl _) t
      have c3 : ∀ v, (wr.setCell ⟨w.heap.size, t, none⟩ v).cell? ⟨b, o + t, none⟩ = some (.int .i64 (L.getD t 0)) := fun v => by
        rw [cell_far (by show w.heap.size ≠ b; omega)]; exact c1
      have hx : 1 ≤ L.getD t 0 := HP.out _ (by simp [List.getD, ht])
      obtain ⟨q0, q1⟩ := dq_nonneg (L := L.drop (t + 1)) (n := z) (fun m hm => HP.out m (List.mem_of_mem_drop hm)) HZ.out.1
      obtain ⟨r1, r2, r3, r4, r5, r6, r7⟩ := rem_facts q0 (by have := HZ.out.2; omega) hx
      have HD := Lib.hid (dq_drop ht z)
      have HS := Lib.hid (part_set (z := z) ht)
      generalize (part L z (t + 1)).getD t 0 = old at c2
      have HW1 := HW
      generalize dq (L.drop (t + 1)) z = y at *
      generalize L.getD t 0 = x at *
      have g1 : (t : Int) < n := by omega
      have g2 : (0 : Int) ≤ t := by omega
      clear hc HC HP HL HZ ht HW
      go_wp2
      go_round
      case rel =>
        refine ⟨t, by first | rfl | simp, by rw [HD.out], by omega, Lib.hid ?_⟩
        rw [← HS.out]
        exact HW1.out.set_ (Nat.le_refl _) t _
      case measure => simp only [intOf]; omega

set_option maxHeartbeats 4000000 in
theorem sequence_no (n k : Nat) (A : Option Addr) (L : List Int) (z : Int) (hz : n * 8 ≤ 140737488351232) (hin : ∀ x ∈ L, In x) (w : World) (hS : Sn w A n L) (h : ∀ W, wtO L = some W → ¬ (0 ≤ z ∧ z < W)) :
    Calls Try.prog 14 #[.slice A n k, .int .i64 z] w fun e w' => e = .returned (.tuple #[.slice none 0 0, .bool false]) ∧ Up w w' := by
  have KW := Lib.hid (weight_any n k A L hz hin w hS)
  cases hw : wtO L with
  | none =>
    rw [hw] at KW
    clear hS hin hw h
    go_enter Try.func14, Try.ntmps14
    go_wp2_with fail
    refine KW.out.mono ?_
    rintro e w' ⟨rfl, rfl⟩
    go_wp2_with fail
    go_ret2
    exact ⟨rfl, Up.refl _⟩
  | some W =>
    rw [hw] at KW
    have KD := Lib.hid (isDraw_any z W false (decide_eq_false (h W hw)))
    clear hS hin hw h
    go_enter Try.func14, Try.ntmps14
    go_wp2_with fail
    refine KW.out.mono ?_
    rintro e w' ⟨rfl, rfl⟩
    go_wp2_with fail
    refine (KD.out _).mono ?_
    rintro e w' ⟨rfl, rfl⟩
    go_wp2_with fail
    go_ret2
    exact ⟨rfl, Up.refl _⟩
set_option maxHeartbeats 4000000 in
theorem sequence_yes (n k : Nat) (A : Option Addr) (L : List Int) (z W : Int) (hz : n * 8 ≤ 140737488351232) (hin : ∀ x ∈ L, In x) (w : World) (hS : Sn w A n L) (hw : wtO L = some W) (z0 : 0 ≤ z) (z1 : z < W) :
    Calls Try.prog 14 #[.slice A n k, .int .i64 z] w fun e w' => ∃ g, e = .returned (.tuple #[.slice (some ⟨g, 0, none⟩) n n, .bool true]) ∧ w.heap.size ≤ g ∧ Bn w' g (dg L z) ∧ Up w w' := by
  have KW := Lib.hid (weight_any n k A L hz hin w hS)
  obtain ⟨h1, h2, h3, h4⟩ := wtO_some hw
  rw [hw] at KW
  have KD := Lib.hid (isDraw_any z W true (decide_eq_true ⟨z0, z1⟩))
  have KG := Lib.hid (digits_up n k A L z hz h1 z0 (by omega) w hS)
  clear hS hin hw h1 h2
  go_enter Try.func14, Try.ntmps14
  go_wp2_with fail
  refine KW.out.mono ?_
  rintro e w' ⟨rfl, rfl⟩
  go_wp2_with fail
  refine (KD.out _).mono ?_
  rintro e w' ⟨rfl, rfl⟩
  go_wp2_with fail
  refine KG.out.mono ?_
  rintro e w' ⟨g, rfl, hg, hb, hu⟩
  have HB := Lib.hid hb
  have HU := Lib.hid hu
  clear hb hu
  go_wp2_with fail
  go_ret2
  exact ⟨g, rfl, hg, HB.out, HU.out⟩
end Go.Proofs.Ytfandjmfkmdofaa
