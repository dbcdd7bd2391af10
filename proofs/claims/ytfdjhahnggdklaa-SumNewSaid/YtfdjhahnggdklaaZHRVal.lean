/- Valid of the reference of layer 10: which lists are in order. -/
import Derived.Test.YtfdjhahnggdklaaZCClock
import Derived.Test.YtfdjhahnggdklaaZGBasem8
import Derived.Test.YtfdjhahnggdklaaZGLawm3
import Derived.Test.YtfdjhahnggdklaaZHOrdm2
import Derived.Test.YtfdjhahnggdklaaZHSmallm7
import Derived.Test.YtfdjhahnggdklaaZHVal
import Derived.Test.YtfdjhahnggdklaaZWCmpm5
import Derived.Test.YtfdjhahnggdklaaZWMathm9
namespace Go.Proofs.Ytfdjhahnggdklaa
open Go.RowKit

/-- A block of 31 numbers, made by the reference. -/
def Mk (w : World) (g : Nat) (f : Nat → Int) : Prop := Blk w g 3 (tyL f).toArray
theorem Mk.at_ {w : World} {g : Nat} {f : Nat → Int} (h : Mk w g f) {j : Nat} (hj : j < 31) : w.cell? ⟨g, j, none⟩ = some (.int .i64 (f j)) := by
  rw [Blk.cell h]; simp [tyL_at f hj]
theorem Mk.set_ {w : World} {g : Nat} {f : Nat → Int} (h : Mk w g f) (m : Nat) (x : Int) : Mk (w.setCell ⟨g, m, none⟩ (.int .i64 x)) g (fun j => if j = m then x else f j) := by
  have h1 := Blk.set_ h m (.int .i64 x)
  unfold Mk
  rw [← tyL_set]
  simpa using h1
theorem Mk.congr {w : World} {g : Nat} {f f' : Nat → Int} (h : Mk w g f) (e : ∀ j, j < 31 → f j = f' j) : Mk w g f' := by unfold Mk; rw [← tyL_congr e]; exact h
theorem Mk.up {w w' : World} {g : Nat} {f : Nat → Int} (h : Mk w g f) (hu : Up w w') : Mk w' g f := Blk.up h hu
theorem int_info : (Try.prog.info? 3).map (fun i => (i.zero, i.size, i.bytes)) = some (some (.int .i64 0), 1, 8) := by kernel_rfl
theorem made_zero : (madeCells #[Value.int .i64 0] 31) = (tyL (fun _ => 0)).toArray := by
  apply Array.ext'
  apply List.ext_getElem?
  intro j
  simp only [madeCells, tyL, Array.toList_map, Array.toList_range, List.getElem?_map]
  by_cases hj : j < 31
  · rw [List.getElem?_range hj]; simp [Nat.mod_one]
  · rw [List.getElem?_eq_none (by simp; omega)]; rfl
theorem make31_run (w : World) : (Instr.makeSlice 112 (.int .i64 31) (.int .i64 31)).run Try.prog w =
    .ok (.slice (some ⟨w.heap.size, 0, none⟩) 31 31) (w.alloc (.cells (tyL (fun _ => 0)).toArray 3)) := by
  obtain ⟨i, hi, hz, hs, hb⟩ := info_parts int_info
  have := run_make (P := Try.prog) w 112 3 i _ Try.underlying112 hi hz .i64 .i64 31 31 (by omega) (by omega) (by rw [hb]; decide) (by decide)
  rw [this, hs, ← made_zero]
  rfl

set_option maxHeartbeats 16000000 in
set_option maxRecDepth 100000 in
theorem rvalid10_up (n k : Nat) (A : Option Addr) (L : List It) (q : Int) (hn : n ≤ 100000) (w : World) (hS : Sl w A n L) :
    Calls Try.prog 78 #[.slice A n k, .int .i64 q] w fun e w' => e = .returned (.bool (vaB L q)) ∧ Up w w' := by
  have KK := Lib.hid (mayK_any q)
  cases hk : kB q with
  | false =>
    rw [hk] at KK
    rw [vaB_k hk]
    clear hk hS
    go_enter Try.func78, Try.ntmps78
    go_wp2_with (go_at_call 62; (with_reducible refine (KK.out _).mono ?_); rintro e w' ⟨rfl, rfl⟩)
    go_ret
    exact ⟨rfl, Up.refl _⟩
  | true =>
  rw [hk] at KK
  have hq := kB_true hk
  have HL := Lib.hid hS.1
  have HB := Lib.hid (fun j (hj : j < n) (h : ¬ okO L j) => vaB_or (k := q) (orB_bad (L := L) (j := j) (by rw [HL.out]; exact hj) h))
  have HG := Lib.hid (show (∀ j, j < n → okO L j) → orB L = true from fun h => decide_eq_true (fun j hj => h j (by rw [← HL.out]; exact hj)))
  have HC1 := Lib.hid (fun j (hj : j < 31) => vaB_ct (L := L) (k := q) hj)
  have HC2 := Lib.hid (fun (h1 : orB L = true) h2 => vaB_yes hk h1 h2)
  have HE : Hid (n = 0 → vaB L q = true) := Lib.hid (fun e => by
    have e1 : L = [] := List.eq_nil_of_length_eq_zero (by rw [HL.out, e])
    rw [e1]; exact vaB_iff.2 (Va.nil hq.1 hq.2))
  have HT0 : Hid (0 < n → (L.getD 0 (0, 0)).2 = (L.getD 0 (0, 0)).2) := Lib.hid (fun _ => rfl)
  generalize vaB L q = r at *
  have HS := Lib.hid hS
  have KT := Lib.hid (fun t w => (rtick_any t w).mono (fun _ _ h => And.intro h.1 h.2.symm))
  have hmk := make31_run
  clear hk hS
  go_enter Try.func78, Try.ntmps78
  go_wp2_with (go_at_call 62; (with_reducible refine (KK.out _).mono ?_); rintro e w' ⟨rfl, rfl⟩)
  go_loopw [16] (fun t wr => ∃ i : Nat, t = .int .i64 i ∧ i ≤ n ∧ Hid (∀ j, j < i → okO L j) ∧ Hid (Mk wr w.heap.size (fun j => (cn (j : Int) (L.take i) : Int))) ∧ Up w wr) (fun t _ => n - (intOf t).toNat)
  case atStart => exact ⟨0, rfl, Nat.zero_le _, Lib.hid (fun j hj => absurd hj (by omega)), Lib.hid (Blk.new w _ _), (Up.refl _).alloc _ _⟩
  case round =>
    obtain ⟨i, rfl, hin, HA, HM, hU⟩ := hrel
    have HU := Lib.hid hU
    by_cases hi : i < n
    · obtain ⟨b, o, rfl, d0, d1⟩ := (HS.out.up HU.out).at_ hi
      have HO := Lib.hid (okO_prv (L := L) (i := i))
      have HR := Lib.hid (HB.out i hi)
      have HC := Lib.hid (fun l => cn_take (L := L) (i := i) (by rw [HL.out]; exact hi) l)
      have HA1 : Hid (okO L i → ∀ j, j < i + 1 → okO L j) := Lib.hid (fun h j hj => by
        rcases Nat.lt_or_ge j i with g | g
        · exact HA.out j g
        · obtain rfl : j = i := by omega
          exact h)
      have HK := Lib.hid (fun j => Int.ofNat_le.2 (cn_le j (L.take i)))
      have HK2 : Hid ((L.take i).length ≤ i) := Lib.hid (by rw [List.length_take]; omega)
      have lt : w.heap.size < wr.heap.size := HM.out.lt
      have ne : ¬ wr.heap.size = w.heap.size := by omega
      have f2 : (i : Int) < n := by omega
      have f3 : (0 : Int) ≤ i := by omega
      have HUA := Lib.hid (HU.out.alloc #[.int .i64 (L.getD i (0, 0)).1, .int .i64 (L.getD i (0, 0)).2] 95)
      have fz := fun x => hU.own 0 x
      simp only [Nat.add_zero] at fz
      clear HA HB hU
      have HP : Hid (∀ m : Nat, i = m + 1 → prv L i = L.getD m (0, 0)) := Lib.hid (fun m hm => by unfold prv; rw [if_neg (by omega), hm, Nat.add_sub_cancel])
      have HP0 : Hid (i = 0 → prv L i = (0, 30)) := Lib.hid (fun hm => by unfold prv; rw [if_pos hm])
      generalize (L.getD i (0, 0)).1 = p0 at *
      generalize (L.getD i (0, 0)).2 = p1 at *
      have K1 := Lib.hid (KT.out p0)
      cases hx : tickB p0 with
      | false =>
        obtain rfl : r = false := HR.out (fun h => by have := HO.out.1 h; rw [hx] at this; cases this.1)
        rw [hx] at K1
        clear hx HO HR HG HC HC1 HC2 HE HA1 HP HP0 KT
        go_wp2_with fail
        go_quiet (first | (go_at_call 70; refine Calls.quiet_of_same (K1.out _)))
        go_wp2_with fail
        go_ret
        exact ⟨rfl, (HUA.out).drewN _⟩
      | true =>
      rw [hx] at K1
      by_cases h1 : p1 < 0
      · obtain rfl : r = false := HR.out (fun h => by have := levB_true (HO.out.1 h).2.1; omega)
        have t1 : decide (p1 < 0) = true := decide_eq_true h1
        clear hx HO HR HG HC HC1 HC2 HE HA1 HP HP0 KT
        go_wp2_with fail
        go_quiet (first | (go_at_call 70; refine Calls.quiet_of_same (K1.out _)))
        go_wp2_with fail
        go_ret
        exact ⟨rfl, (HUA.out).drewN _⟩
      by_cases h2 : 30 < p1
      · obtain rfl : r = false := HR.out (fun h => by have := levB_true (HO.out.1 h).2.1; omega)
        have t1 : decide (p1 < 0) = false := decide_eq_false h1
        have t2 : decide (30 < p1) = true := decide_eq_true h2
        clear hx HO HR HG HC HC1 HC2 HE HA1 HP HP0 KT
        go_wp2_with fail
        go_quiet (first | (go_at_call 70; refine Calls.quiet_of_same (K1.out _)))
        go_wp2_with fail
        go_ret
        exact ⟨rfl, (HUA.out).drewN _⟩
      have c0 := HM.out.at_ (j := p1.toNat) (by omega)
      have h3 : p1 < 31 := by omega
      have hb := HK.out ((p1.toNat : Nat) : Int)
      have hb2 := HK2.out
      have fz1 := fz p1.toNat
      generalize hz : ((cn ((p1.toNat : Nat) : Int) (L.take i) : Nat) : Int) = z at c0 hb
      have hlev : levB p1 = true := decide_eq_true (by omega)
      have t1 : decide (p1 < 0) = false := decide_eq_false h1
      have t2 : decide (30 < p1) = false := decide_eq_false h2
      by_cases hi0 : i = 0
      · have HA2 := Lib.hid (HA1.out (HO.out.2 ⟨hx, hlev, by rw [HP0.out hi0]; exact (tickB_true hx).1, by rw [HP0.out hi0]; show p1 ≤ 30; omega⟩))
        have t3 : decide (0 < i) = false := decide_eq_false (by omega)
        clear hx HO HR HC1 HC2 HE HG HA1 HP HP0 KT hlev hi0
        go_wp2_with fail
        go_quiet (first | (go_at_call 70; refine Calls.quiet_of_same (K1.out _)))
        go_wp2_with fail
        go_roundw
        case rel =>
          refine ⟨i + 1, by go_num, by omega, HA2, Lib.hid ?_, (HUA.out.drewN nq).setCell (Nat.le_refl _) _⟩
          refine ((HM.out.up (((Up.refl _).alloc _ _).drewN nq)).set_ p1.toNat (z + 1)).congr (fun j _ => ?_)
          rw [HC.out]
          by_cases e : j = p1.toNat
          · rw [if_pos e, if_pos (by omega), ← hz, e]; rfl
          · rw [if_neg e, if_neg (by omega)]; rfl
        case measure => simp [intOf]; omega
      obtain ⟨m, hm⟩ : ∃ m, i = m + 1 := ⟨i - 1, by omega⟩
      obtain ⟨b', o', hbo, e0, e1⟩ := (HS.out.up HU.out).at_ (show m < n by omega)
      cases hbo
      have HP1 := Lib.hid (HP.out m hm)
      have HO1 : Hid (okO L i ↔ (L.getD m (0, 0)).1 ≤ p0 ∧ p1 ≤ (L.getD m (0, 0)).2) := Lib.hid (by rw [HO.out, HP1.out, hx, hlev]; simp)
      have g2 : (i : Int) - 1 = m := by omega
      have g3 : (m : Int) < n := by omega
      have g4 : (0 : Int) ≤ m := by omega
      have g5 : IntKind.i64.wrap (m : Int) = m := by rw [IntKind.wrap_i64]; omega
      have t3 : decide (0 < i) = true := decide_eq_true (by omega)
      clear HO HP HP0 HP1 hm hi0
      have e0 := ((Up.refl wr).alloc #[.int .i64 p0, .int .i64 p1] 95).keep _ _ _ e0
      have e1 := ((Up.refl wr).alloc #[.int .i64 p0, .int .i64 p1] 95).keep _ _ _ e1
      generalize (L.getD m (0, 0)).1 = q0 at *
      generalize (L.getD m (0, 0)).2 = q1 at *
      by_cases h4 : p0 < q0
      · obtain rfl : r = false := HR.out (fun h => by have := HO1.out.1 h; omega)
        have t4 : decide (p0 < q0) = true := decide_eq_true h4
        clear hx HO1 HR HG HC HC1 HC2 HE HA1 KT
        go_wp2_with fail
        go_quiet (first | (go_at_call 70; refine Calls.quiet_of_same (K1.out _)))
        go_wp2_with fail
        go_ret
        exact ⟨rfl, (HUA.out).drewN _⟩
      have t4 : decide (p0 < q0) = false := decide_eq_false h4
      by_cases h5 : q1 < p1
      · obtain rfl : r = false := HR.out (fun h => by have := HO1.out.1 h; omega)
        have t5 : decide (q1 < p1) = true := decide_eq_true h5
        clear hx HO1 HR HG HC HC1 HC2 HE HA1 KT
        go_wp2_with fail
        go_quiet (first | (go_at_call 70; refine Calls.quiet_of_same (K1.out _)))
        go_wp2_with fail
        go_ret
        exact ⟨rfl, (HUA.out).drewN _⟩
      have t5 : decide (q1 < p1) = false := decide_eq_false h5
      have HA2 := Lib.hid (HA1.out (HO1.out.2 ⟨by omega, by omega⟩))
      clear hx HO1 HR HC1 HC2 HE HG HA1 KT hlev
      go_wp2_with fail
      go_quiet (first | (go_at_call 70; refine Calls.quiet_of_same (K1.out _)))
      go_wp2_with fail
      go_roundw
      case rel =>
        refine ⟨i + 1, by go_num, by omega, HA2, Lib.hid ?_, (HUA.out.drewN nq).setCell (Nat.le_refl _) _⟩
        refine ((HM.out.up (((Up.refl _).alloc _ _).drewN nq)).set_ p1.toNat (z + 1)).congr (fun j _ => ?_)
        rw [HC.out]
        by_cases e : j = p1.toNat
        · rw [if_pos e, if_pos (by omega), ← hz, e]; rfl
        · rw [if_neg e, if_neg (by omega)]; rfl
      case measure => simp [intOf]; omega
    · obtain rfl : i = n := by omega
      rw [take_all HL.out] at HM
      have HO := Lib.hid (HG.out HA.out)
      clear HG HB HA hU KT
      by_cases h0 : i = 0
      · obtain rfl : r = true := HE.out h0
        subst h0
        clear HE HC1 HC2 HO
        go_wp2_with fail
        go_loopw [71] (fun t W => ∃ j : Nat, t = .int .i64 j ∧ j ≤ 31 ∧ Hid (Mk W w.heap.size (fun j => (cn (j : Int) L : Int))) ∧ Hid (Up w W)) (fun t _ => 31 - (intOf t).toNat)
        case atStart => exact ⟨0, rfl, Nat.zero_le _, HM, HU⟩
        case round =>
          obtain ⟨j, rfl, hj, HM1, HU1⟩ := hrel
          by_cases hj1 : j < 31
          · have c0 := HM1.out.at_ hj1
            have f2 : (j : Int) < 31 := by omega
            have f3 : (0 : Int) ≤ j := by omega
            generalize ((cn (j : Int) L : Nat) : Int) = z at c0
            go_wp2_with fail
            go_roundw
            case rel => exact ⟨j + 1, by go_num, by omega, HM1, HU1⟩
            case measure => simp [intOf]; omega
          · obtain rfl : j = 31 := by omega
            go_wp2_with fail
            go_ret
            exact ⟨rfl, HU1.out⟩
      · obtain ⟨b, o, rfl, _, d1⟩ := (HS.out.up HU.out).at_ (show 0 < i by omega)
        simp only [Nat.zero_mul, Nat.add_zero] at d1
        have HIa : Hid (∀ j : Nat, j < 31 → (j : Int) < (L.getD 0 (0, 0)).2 → ¬ q ≤ (cn (j : Int) L : Int) → r = false) := Lib.hid (fun j hj h1 h2 => HC1.out j hj (fun h => h2 (h.1 h1)))
        have HIb : Hid (∀ j : Nat, j < 31 → ¬ (cn (j : Int) L : Int) ≤ q + 1 → r = false) := Lib.hid (fun j hj h2 => HC1.out j hj (fun h => h2 h.2))
        have HIc : Hid (∀ j : Nat, ((j : Int) < (L.getD 0 (0, 0)).2 → q ≤ (cn (j : Int) L : Int)) → (cn (j : Int) L : Int) ≤ q + 1 → ctO L q j) := Lib.hid (fun j h1 h2 => ⟨h1, h2⟩)
        have HD1 : Hid (wr.cell? ⟨b, o + 1, none⟩ = some (.int .i64 (L.getD 0 (0, 0)).2)) := Lib.hid d1
        have HC3 := Lib.hid (HC2.out HO.out)
        have HK := Lib.hid (fun j => Int.ofNat_le.2 (cn_le j L))
        have hl : ((L.length : Nat) : Int) = i := by rw [HL.out]
        rw [hl] at HK
        have h1 : (0 : Int) < i := by omega
        clear HE HC1 HC2 HO d1 hl
        generalize (L.getD 0 (0, 0)).2 = T at *
        go_wp2_with fail
        go_loopw [71] (fun t W => ∃ j : Nat, t = .int .i64 j ∧ j ≤ 31 ∧ Hid (∀ l, l < j → ctO L q l) ∧ Hid (Mk W w.heap.size (fun j => (cn (j : Int) L : Int))) ∧ Hid (Up wr W) ∧ Hid (Up w W)) (fun t _ => 31 - (intOf t).toNat)
        case atStart => exact ⟨0, rfl, Nat.zero_le _, Lib.hid (fun l hl => absurd hl (by omega)), HM, Lib.hid (Up.refl _), HU⟩
        case round =>
          obtain ⟨j, rfl, hj, HA, HM1, HU2, HU1⟩ := hrel
          by_cases hj1 : j < 31
          · have c0 := HM1.out.at_ hj1
            have d1 := HU2.out.keep _ _ _ HD1.out
            have f2 : (j : Int) < 31 := by omega
            have f3 : (0 : Int) ≤ j := by omega
            have HI1 := Lib.hid (HIa.out j hj1)
            have HI2 := Lib.hid (HIb.out j hj1)
            have HI3 := Lib.hid (HIc.out j)
            have hb := HK.out (j : Int)
            have HA1 : Hid (ctO L q j → ∀ l, l < j + 1 → ctO L q l) := Lib.hid (fun h l hl => by
              rcases Nat.lt_or_ge l j with g | g
              · exact HA.out l g
              · obtain rfl : l = j := by omega
                exact h)
            have hb0 : (0 : Int) ≤ (cn (j : Int) L : Int) := by omega
            generalize ((cn (j : Int) L : Nat) : Int) = z at *
            by_cases g1 : (j : Int) < T
            · by_cases g2 : z < q
              · obtain rfl : r = false := HI1.out g1 (by omega)
                clear HIa HIb HIc HI1 HI2 HI3 HA HA1 HC3
                go_wp2_with fail
                go_ret
                exact ⟨rfl, HU1.out⟩
              by_cases g3 : q + 1 < z
              · obtain rfl : r = false := HI2.out (by omega)
                clear HIa HIb HIc HI1 HI2 HI3 HA HA1 HC3
                go_wp2_with fail
                go_ret
                exact ⟨rfl, HU1.out⟩
              have HA2 := Lib.hid (HA1.out (HI3.out (fun _ => by omega) (by omega)))
              clear HI1 HI2 HI3 HA HA1
              go_wp2_with fail
              go_roundw
              case rel => exact ⟨j + 1, by go_num, by omega, HA2, HM1, HU2, HU1⟩
              case measure => simp [intOf]; omega
            · by_cases g3 : q + 1 < z
              · obtain rfl : r = false := HI2.out (by omega)
                clear HIa HIb HIc HI1 HI2 HI3 HA HA1 HC3
                go_wp2_with fail
                go_ret
                exact ⟨rfl, HU1.out⟩
              have HA2 := Lib.hid (HA1.out (HI3.out (fun h => absurd h g1) (by omega)))
              clear HI1 HI2 HI3 HA HA1
              go_wp2_with fail
              go_roundw
              case rel => exact ⟨j + 1, by go_num, by omega, HA2, HM1, HU2, HU1⟩
              case measure => simp [intOf]; omega
          · obtain rfl : j = 31 := by omega
            obtain rfl : r = true := HC3.out HA.out
            clear HC3 HIa HIb HIc HA
            go_wp2_with fail
            go_ret
            exact ⟨rfl, HU1.out⟩
end Go.Proofs.Ytfdjhahnggdklaa
