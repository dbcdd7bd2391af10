/- Proved: for every capacity and every list of operations the law RingQueue returns true: any sequence of operations on a buffer is the same on a plain list. Conditions: none. -/
import Derived.Test.YtjedcpfipebncaaRows
import Derived.WalkKit
import Derived.ProofKit
import Derived.OpenShut
import Derived.Lib.SmallJoins
import Derived.Test.YtjedcpfipebncaaGFrame
import Derived.Test.YtjedcpfipebncaaGAwake
import Derived.Test.YtjedcpfipebncaaGSame
import Derived.Test.YtjedcpfipebncaaGPop
import Derived.Test.YtjedcpfipebncaaGPopB
import Derived.Test.YtjedcpfipebncaaGMod
import Derived.Test.YtjedcpfipebncaaGAppend
namespace Go.Proofs.Ytjedcpfipebncaa
open Go.ChangeShapes Go.WideShapes Go.ChangeAt Go.RowKit Go.Joins
set_option linter.unusedVariables false

theorem ringQueue_own : ownKnob Try.prog.godebug = none := by kernel_rfl

set_option maxHeartbeats 16000000 in
set_option maxRecDepth 100000 in
theorem ringQueue_walk (a : Int) (wa : (Lit.int .i64 a).wf = true) (n k : Nat) (A : Option Addr) (L : List It) (hk : n ≤ k) (w : World) (hS : Sl w A n L) :
    Calls Try.prog 9 #[.int .i64 a, .slice A n k] w fun e w' => e = .returned (.bool true) ∧ Up w w' := by
  have KA := Lib.hid awake_up
  have HS := Lib.hid hS
  obtain ⟨r6, hr6⟩ : ∃ r : Nat, a % 6 = (r : Int) := Int.eq_ofNat_of_zero_le (Int.emod_nonneg _ (by omega))
  have K1 := Lib.hid (fun W => int_any a 6 (by omega) (by omega) W)
  have h6 : a % 6 < 6 := Int.emod_lt_of_pos _ (by omega)
  rw [hr6] at K1 h6
  have K2 := Lib.hid (fun W => new_yes (1 + r6) (by omega) (by omega) W)
  obtain ⟨c, hc⟩ : ∃ c, c = 1 + r6 := ⟨_, rfl⟩
  have ec : (1 : Int) + r6 = (c : Int) := by omega
  rw [← hc] at K2
  have c1 : 1 ≤ c := by omega
  have c6 : c ≤ 6 := by omega
  clear hr6 h6 hS wa hc
  go_enter Try.func9, Try.ntmps9
  go_wp2_with (first
    | (go_at_call 27; (with_reducible refine (K1.out _).mono ?_); rintro e w' ⟨rfl, rfl⟩)
    | (go_at_call 10; (with_reducible refine (K2.out _).mono ?_); rintro e w1 ⟨g, rfl, hg, hb, hu⟩; have HU1 := Lib.hid hu; have HB1 := Lib.hid hb; clear hu hb))
  have HR0 : Hid (Qr w (w1.alloc (.cells #[.int .i64 c, .int .i64 0, .int .i64 0, .slice (some ⟨g, 0, none⟩) c c] 24)) w1.heap.size c (.slice none 0 0)) := Lib.hid (by
    have hgl : g < w1.heap.size := Blk.lt HB1.out
    refine ⟨0, g, 0, [], none, rfl, Nat.le_refl _, Sl.none_, ⟨by simp [go_sem], by simp [go_sem], by simp [go_sem], by simp [go_sem], HB1.out.up ((Up.refl _).alloc _ _), fun o => ?_, by omega, ofL_length _ _ _⟩, by omega, by simp, HU1.out.alloc _ _, HU1.out.size, hg, fun _ _ e => by cases e⟩
    exact (HU1.out.alloc _ _).ownGe HU1.out.size o)
  have hpw := HU1.out.size
  generalize w1.heap.size = p at *
  go_loopw [7, 8] (fun v t wr => ∃ i : Nat, t = .int .i64 i ∧ i ≤ n ∧ i ≤ 60 ∧ Hid (Qr w wr p c v)) (fun _ t _ => 60 - (intOf t).toNat)
  case atStart => exact ⟨0, rfl, Nat.zero_le _, Nat.zero_le _, HR0⟩
  case round =>
    obtain ⟨i, rfl, i2, i3, HQ⟩ := hrel
    by_cases hlt : i < n
    case neg =>
      have t1 : decide (i < n) = false := decide_eq_false hlt
      have HU : Hid (Up w wr) := Lib.hid (by obtain ⟨_, _, _, _, _, _, _, _, _, _, _, hu, _⟩ := HQ.out; exact hu)
      go_wp2_with (go_at_call 12; (with_reducible refine (KA.out _).mono ?_); rintro e w3 ⟨rfl, hu⟩; have HU3 := Lib.hid (HU.out.trans hu); clear hu)
      go_ret
      exact ⟨rfl, HU3.out⟩
    by_cases hlt2 : i < 60
    case neg =>
      have t1 : decide (i < n) = true := decide_eq_true hlt
      have t2 : decide ((i : Int) < 60) = false := decide_eq_false (by omega)
      have HU : Hid (Up w wr) := Lib.hid (by obtain ⟨_, _, _, _, _, _, _, _, _, _, _, hu, _⟩ := HQ.out; exact hu)
      go_wp2_with (go_at_call 12; (with_reducible refine (KA.out _).mono ?_); rintro e w3 ⟨rfl, hu⟩; have HU3 := Lib.hid (HU.out.trans hu); clear hu)
      go_ret
      exact ⟨rfl, HU3.out⟩
    have t1 : decide (i < n) = true := decide_eq_true hlt
    have t2 : decide ((i : Int) < 60) = true := decide_eq_true (by omega)
    obtain ⟨h, g, kk, M, B, rfl, hkk, hSl, hRt, hh, hM, hUp, hpp, hgg, hoff⟩ := HQ.out
    have HSl := Lib.hid hSl
    have HRt := Lib.hid hRt
    have HU := Lib.hid hUp
    clear hSl hRt hUp HQ HR0 HB1 HU1
    obtain ⟨b, o, rfl, d0, d1⟩ := (HS.out.up HU.out).at_ hlt
    generalize (L.getD i (0, 0)).1 = x0 at *
    generalize (L.getD i (0, 0)).2 = x1 at *
    have f1 : (0 : Int) ≤ i := by omega
    have f2 : (i : Int) < n := by omega
    have hpl : p < wr.heap.size := World.block_lt_of_cell? _ _ HRt.out.c0
    have hgl : g < wr.heap.size := Blk.lt HRt.out.bi
    have hpg := HRt.out.ne
    have cc0 := HRt.out.c0
    have cc1 := HRt.out.c1
    have cc2 := HRt.out.c2
    have cc3 := HRt.out.c3
    have KM := Lib.hid (fun W => mod_any x0 5 (by omega) (by omega) W)
    have m0 : 0 ≤ x0 % 5 := Int.emod_nonneg _ (by omega)
    have m5 : x0 % 5 < 5 := Int.emod_lt_of_pos _ (by omega)
    have KI := Lib.hid (fun W h g (M : List It) (hh : h < c) (hM : M.length ≤ c) (hB : Bi W g (ofL c h M)) => items_good c h c (some ⟨g, 0, none⟩) M c1 (by omega) hh (Nat.le_refl _) hM W (hB.sl (ofL_length _ _ _)))
    have KSI := Lib.hid (fun W (M : List It) A B k q (hM : M.length ≤ c) (hA : Sl W A M.length M) (hB : Sl W B M.length M) => sameItems_t M.length k q A B M (by omega) W hA hB)
    generalize x0 % 5 = m at *
    clear HS ec
    have hm : m = 0 ∨ m = 1 ∨ m = 2 ∨ m = 3 ∨ m = 4 := by omega
    clear m0 m5
    have HOF := Lib.hid hoff
    clear hoff
    generalize hl : M.length = l at *
    have HL := Lib.hid hl
    clear hl
    rcases hm with rfl | rfl | rfl | rfl | rfl
    · by_cases hf : l < c
      · have K4 := Lib.hid (fun W (hB : Bi W g (ofL c h M)) => pushBack_good c h c (some ⟨g, 0, none⟩) M x0 x1 c1 (by omega) hh (by rw [HL.out]; exact hM) (by rw [HL.out]; exact hf) W (hB.sl (ofL_length _ _ _)))
        rw [HL.out, show ((l + 1 : Nat) : Int) = (l : Int) + 1 from rfl] at K4
        go_wp2_with (first
          | (go_at_call 28; (with_reducible refine (KM.out _).mono ?_); rintro e w' ⟨rfl, rfl⟩)
          | (go_at_call 20; (with_reducible refine (K4.out _ (HRt.out.bi.up (((Up.refl _).alloc _ _).alloc _ _))).mono ?_); rintro e w4 ⟨g4, rfl, hg4, hb4, hu⟩; have HU4 := Lib.hid ((((Up.refl _).alloc _ _).alloc _ _).trans hu); have x0' := hu.keep (wr.heap.size) 0 (.int .i64 x0) (by simp [go_sem]); have x1' := hu.keep (wr.heap.size) 1 (.int .i64 x1) (by simp [go_sem]); have y0' := hu.keep (wr.heap.size + 1) 0 (.int .i64 0) (by simp [go_sem]); have y1' := hu.keep (wr.heap.size + 1) 1 (.int .i64 0) (by simp [go_sem]); have y2' := hu.keep (wr.heap.size + 1) 2 (.int .i64 0) (by simp [go_sem]); have y3' := hu.keep (wr.heap.size + 1) 3 (.slice none 0 0) (by simp [go_sem]); have HR4 := Lib.hid (HRt.out.up HU4.out); have hs4 := hu.size; (try simp at hs4); have fy0 := HU4.out.ownGe (g := wr.heap.size + 1) (by omega) 0; have fy1 := HU4.out.ownGe (g := wr.heap.size + 1) (by omega) 1; have fy2 := HU4.out.ownGe (g := wr.heap.size + 1) (by omega) 2; have fy3 := HU4.out.ownGe (g := wr.heap.size + 1) (by omega) 3; have HB4 := Lib.hid hb4; have hg5 := Blk.lt hb4; clear hb4; (try simp at hg4); clear hu))
        obtain ⟨w5, hw5⟩ : ∃ z, z = (((w4.setCell ⟨wr.heap.size + 1, 0, none⟩ (.int .i64 c)).setCell ⟨wr.heap.size + 1, 1, none⟩ (.int .i64 h)).setCell ⟨wr.heap.size + 1, 2, none⟩ (.int .i64 ((l : Int) + 1))).setCell ⟨wr.heap.size + 1, 3, none⟩ (.slice (some ⟨g4, 0, none⟩) c c) := ⟨_, rfl⟩
        rw [← hw5]
        have HU5 : Hid (Up wr w5) := Lib.hid (by rw [hw5]; exact HU4.out.set4 (by omega))
        have HR5 : Hid (Rt w5 p g c h l (ofL c h M)) := Lib.hid (by rw [hw5]; exact HR4.out.far4 (by omega) (by omega) _ _ _ _)
        have x0'' : w5.cell? ⟨wr.heap.size, 0, none⟩ = some (.int .i64 x0) := by rw [hw5]; exact far4 x0' (by omega)
        have x1'' : w5.cell? ⟨wr.heap.size, 1, none⟩ = some (.int .i64 x1) := by rw [hw5]; exact far4 x1' (by omega)
        have HY5 : Hid (Rt w5 (wr.heap.size + 1) g4 c h (l + 1) (ofL c h (M ++ [(x0, x1)]))) := Lib.hid (by rw [hw5]; exact Rt.of_store y0' y1' y2' y3' HB4.out (fun o => HU4.out.ownGe (by omega) o) (by omega) (ofL_length _ _ _))
        have hs5 : w4.heap.size = w5.heap.size := by rw [hw5]; simp [World.setCell]
        have hp5 : p < w5.heap.size := by omega
        have HS5 := Lib.hid (HSl.out.up HU5.out)
        clear hw5 x0' x1' y0' y1' y2' y3' fy0 fy1 fy2 fy3
        have hlen : (M ++ [(x0, x1)]).length = l + 1 := by rw [List.length_append, HL.out]; rfl
        have KI1 := Lib.hid (fun W hB => KI.out W (h) g4 (M ++ [(x0, x1)]) hh (by rw [hlen]; omega) hB)
        rw [hlen] at KI1
        rw [show ((l + 1 : Nat) : Int) = (l : Int) + 1 from rfl] at KI1
        have KS1 := Lib.hid (fun W A B k q hA hB => KSI.out W (M ++ [(x0, x1)]) A B k q (by rw [hlen]; omega) hA hB)
        rw [hlen] at KS1
        have u1 : decide (l + 1 ≤ c) = true := decide_eq_true (by omega)
        have u1' : decide ((l : Int) + 1 ≤ c) = true := decide_eq_true (by omega)
        have u2 : ((l : Int) + 1 != l) = true := by rw [bne_iff_ne]; omega
        have u2' : (l + 1 != l) = true := by rw [bne_iff_ne]; omega
        have HLEN := Lib.hid hlen
        clear hlen
        obtain ⟨v1a, w6a, ra1, oa1, ua1⟩ := append0_run 22 w5 (w5.alloc (.cells #[] 35)).drew w5.heap.size ((own_empty' rfl (Nat.le_refl _)).of_up (Up.refl _).drew) ((Up.refl _).alloc _ _).drew B l kk M (HS5.out.up ((Up.refl _).alloc _ _).drew) (by omega)
        have va1 := ((Up.refl w5).alloc #[] 35).drew.trans ua1
        obtain ⟨v2a, w7a, ra2, oa2, ua2⟩ := append_run 22 w5 (w6a.alloc (.cells #[.int .i64 x0, .int .i64 x1] 35)) v1a l M (oa1.of_up ((Up.refl _).alloc _ _)) (va1.alloc _ _) (some ⟨w6a.heap.size, 0, none⟩) 1 1 [(x0, x1)] (one_new w6a x0 x1) (by omega)
        obtain ⟨v1b, w6b, rb1, ob1, ub1⟩ := append0_run 22 w5 ((w5.alloc (.cells #[] 35)).alloc (.cells #[.int .i64 x0, .int .i64 x1] 35)).drew (w5.heap.size) ((own_empty' (w := w5) rfl (Nat.le_refl _)).of_up ((Up.refl _).alloc _ _).drew) (((Up.refl _).alloc _ _).alloc _ _).drew B l kk M (HS5.out.up (((Up.refl _).alloc _ _).alloc _ _).drew) (by omega)
        have vb1 := (((Up.refl w5).alloc _ _).alloc _ _).drew.trans ub1
        obtain ⟨v2b, w7b, rb2, ob2, ub2⟩ := append_run 22 w5 w6b v1b l M ob1 vb1 (some ⟨w5.heap.size + 1, 0, none⟩) 1 1 [(x0, x1)] (((one_new' _ x0 x1 (by simp)).up (Up.refl _).drew).up ub1) (by omega)
        obtain ⟨v1c, w6c, rc1, oc1, uc1⟩ := append0_run 22 w5 ((w5.alloc (.cells #[.int .i64 x0, .int .i64 x1] 35)).alloc (.cells #[] 35)).drew (w5.heap.size + 1) ((own_empty' (by simp) (by simp)).of_up (Up.refl _).drew) (((Up.refl _).alloc _ _).alloc _ _).drew B l kk M (HS5.out.up (((Up.refl _).alloc _ _).alloc _ _).drew) (by omega)
        have vc1 := (((Up.refl w5).alloc _ _).alloc _ _).drew.trans uc1
        obtain ⟨v2c, w7c, rc2, oc2, uc2⟩ := append_run 22 w5 w6c v1c l M oc1 vc1 (some ⟨w5.heap.size, 0, none⟩) 1 1 [(x0, x1)] (((one_new' _ x0 x1 rfl).up ((Up.refl _).alloc _ _).drew).up uc1) (by omega)
        have SS : Hid (Up w5 w5 ∧ w5.cell? ⟨wr.heap.size, 0, none⟩ = some (.int .i64 x0) ∧ w5.cell? ⟨wr.heap.size, 1, none⟩ = some (.int .i64 x1)) := Lib.hid ⟨Up.refl _, x0'', x1''⟩
        obtain ⟨A1a, k1a, rfl, _, _⟩ := oa1.sl
        obtain ⟨A2a, k2a, rfl, hk2a, s2a⟩ := oa2.sl
        have HOa := Lib.hid (oa2.off hp5)
        have HS2a := Lib.hid s2a
        have H1a := Lib.hid ra1
        have H2a := Lib.hid ra2
        have T1a := Lib.hid (keep2 (Lib.hid va1) SS.out)
        have T2a := Lib.hid (keep2 (Lib.hid ua2) SS.out)
        have V2a := Lib.hid ua2
        clear ra1 ra2 oa1 oa2 ua1 ua2 va1 s2a
        obtain ⟨A1b, k1b, rfl, _, _⟩ := ob1.sl
        obtain ⟨A2b, k2b, rfl, hk2b, s2b⟩ := ob2.sl
        have HOb := Lib.hid (ob2.off hp5)
        have HS2b := Lib.hid s2b
        have H1b := Lib.hid rb1
        have H2b := Lib.hid rb2
        have T1b := Lib.hid (keep2 (Lib.hid vb1) SS.out)
        have T2b := Lib.hid (keep2 (Lib.hid ub2) SS.out)
        have V2b := Lib.hid ub2
        clear rb1 rb2 ob1 ob2 ub1 ub2 vb1 s2b
        obtain ⟨A1c, k1c, rfl, _, _⟩ := oc1.sl
        obtain ⟨A2c, k2c, rfl, hk2c, s2c⟩ := oc2.sl
        have HOc := Lib.hid (oc2.off hp5)
        have HS2c := Lib.hid s2c
        have H1c := Lib.hid rc1
        have H2c := Lib.hid rc2
        have T1c := Lib.hid (keep2 (Lib.hid vc1) SS.out)
        have T2c := Lib.hid (keep2 (Lib.hid uc2) SS.out)
        have V2c := Lib.hid uc2
        clear rc1 rc2 oc1 oc2 uc1 uc2 vc1 s2c
        clear x0'' x1''
        go_region_held3 (fun w' => Up w5 w' ∧ w'.cell? ⟨wr.heap.size, 0, none⟩ = some (.int .i64 x0) ∧ w'.cell? ⟨wr.heap.size, 1, none⟩ = some (.int .i64 x1))
          (repeat (first | (with_reducible exact SS.out) | (with_reducible exact T1a.out) | (with_reducible exact T2a.out) | (with_reducible exact T1b.out) | (with_reducible exact T2b.out) | (with_reducible exact T1c.out) | (with_reducible exact T2c.out) | (with_reducible refine keep2 (Lib.hid ((Up.refl _).alloc _ _)) ?_) | (with_reducible refine keep2 (Lib.hid (Up.refl _).drew) ?_)))
          (first
            | ((with_reducible refine step_append_run rfl (.tmp 50) (.tmp 51) _ rfl _ _ ?_ ?_ _ _ H1a.out ?_); rfl; rfl)
            | ((with_reducible refine step_append_run rfl (.tmp 52) (.tmp 54) _ rfl _ _ ?_ ?_ _ _ H2a.out ?_); rfl; rfl)
            | ((with_reducible refine step_append_run rfl (.tmp 50) (.tmp 51) _ rfl _ _ ?_ ?_ _ _ H1b.out ?_); rfl; rfl)
            | ((with_reducible refine step_append_run rfl (.tmp 52) (.tmp 54) _ rfl _ _ ?_ ?_ _ _ H2b.out ?_); rfl; rfl)
            | ((with_reducible refine step_append_run rfl (.tmp 50) (.tmp 51) _ rfl _ _ ?_ ?_ _ _ H1c.out ?_); rfl; rfl)
            | ((with_reducible refine step_append_run rfl (.tmp 52) (.tmp 54) _ rfl _ _ ?_ ?_ _ _ H2c.out ?_); rfl; rfl))
        · have HR7 := Lib.hid (HR5.out.up V2a.out)
          have HY7 := Lib.hid (HY5.out.up V2a.out)
          have a0 := HR7.out.c0
          have b0 := HY7.out.c0
          have fp0 := HR7.out.fz 0
          have a1 := HR7.out.c1
          have b1 := HY7.out.c1
          have fp1 := HR7.out.fz 1
          have a2 := HR7.out.c2
          have b2 := HY7.out.c2
          have fp2 := HR7.out.fz 2
          have a3 := HR7.out.c3
          have b3 := HY7.out.c3
          have fp3 := HR7.out.fz 3
          rw [show ((l + 1 : Nat) : Int) = (l : Int) + 1 from rfl] at b2
          have gp : g4 ≠ p := by omega
          have pg : p ≠ g4 := by omega
          go_wp2_with (first
            | (go_at_call 19; (with_reducible refine (KI1.out _ (HY7.out.bi.far4 gp)).mono ?_); rintro e w8 ⟨Ai, ki, rfl, hki, hSi, hu⟩; have HU8 := Lib.hid hu; have HSi := Lib.hid hSi; clear hu hSi)
            | (go_at_call 18; (with_reducible refine (KS1.out _ _ _ _ _ HSi.out ((HS2a.out.off4 HOa.out _ _ _ _).up HU8.out)).mono ?_); rintro e w9 ⟨rfl, hu⟩; have HU9 := Lib.hid (HU8.out.trans hu); clear hu))
          go_roundw
          case rel =>
            refine ⟨i + 1, by go_num, by omega, by omega, Lib.hid ⟨h, g4, k2a, M ++ [(x0, x1)], A2a, by rw [HLEN.out], by rw [HLEN.out]; exact hk2a, ?_, ?_, hh, ?_, ?_, hpp, ?_, HOa.out⟩⟩
            · rw [HLEN.out]; exact (HS2a.out.off4 HOa.out _ _ _ _).up HU9.out
            · rw [HLEN.out]; exact (Rt.of_store (c := c) (h := h) (l := l + 1) a0 a1 a2 a3 HY7.out.bi HR7.out.fz pg (ofL_length _ _ _)).up HU9.out
            · rw [HLEN.out]; omega
            · exact ((HU.out.trans (HU5.out.trans V2a.out)).set4 hpp).trans HU9.out
            · have := HU.out.size; omega
          case measure => simp [intOf]; omega
        · have HR7 := Lib.hid (HR5.out.up V2b.out)
          have HY7 := Lib.hid (HY5.out.up V2b.out)
          have a0 := HR7.out.c0
          have b0 := HY7.out.c0
          have fp0 := HR7.out.fz 0
          have a1 := HR7.out.c1
          have b1 := HY7.out.c1
          have fp1 := HR7.out.fz 1
          have a2 := HR7.out.c2
          have b2 := HY7.out.c2
          have fp2 := HR7.out.fz 2
          have a3 := HR7.out.c3
          have b3 := HY7.out.c3
          have fp3 := HR7.out.fz 3
          rw [show ((l + 1 : Nat) : Int) = (l : Int) + 1 from rfl] at b2
          have gp : g4 ≠ p := by omega
          have pg : p ≠ g4 := by omega
          go_wp2_with (first
            | (go_at_call 19; (with_reducible refine (KI1.out _ (HY7.out.bi.far4 gp)).mono ?_); rintro e w8 ⟨Ai, ki, rfl, hki, hSi, hu⟩; have HU8 := Lib.hid hu; have HSi := Lib.hid hSi; clear hu hSi)
            | (go_at_call 18; (with_reducible refine (KS1.out _ _ _ _ _ HSi.out ((HS2b.out.off4 HOb.out _ _ _ _).up HU8.out)).mono ?_); rintro e w9 ⟨rfl, hu⟩; have HU9 := Lib.hid (HU8.out.trans hu); clear hu))
          go_roundw
          case rel =>
            refine ⟨i + 1, by go_num, by omega, by omega, Lib.hid ⟨h, g4, k2b, M ++ [(x0, x1)], A2b, by rw [HLEN.out], by rw [HLEN.out]; exact hk2b, ?_, ?_, hh, ?_, ?_, hpp, ?_, HOb.out⟩⟩
            · rw [HLEN.out]; exact (HS2b.out.off4 HOb.out _ _ _ _).up HU9.out
            · rw [HLEN.out]; exact (Rt.of_store (c := c) (h := h) (l := l + 1) a0 a1 a2 a3 HY7.out.bi HR7.out.fz pg (ofL_length _ _ _)).up HU9.out
            · rw [HLEN.out]; omega
            · exact ((HU.out.trans (HU5.out.trans V2b.out)).set4 hpp).trans HU9.out
            · have := HU.out.size; omega
          case measure => simp [intOf]; omega
        · have HR7 := Lib.hid (HR5.out.up V2c.out)
          have HY7 := Lib.hid (HY5.out.up V2c.out)
          have a0 := HR7.out.c0
          have b0 := HY7.out.c0
          have fp0 := HR7.out.fz 0
          have a1 := HR7.out.c1
          have b1 := HY7.out.c1
          have fp1 := HR7.out.fz 1
          have a2 := HR7.out.c2
          have b2 := HY7.out.c2
          have fp2 := HR7.out.fz 2
          have a3 := HR7.out.c3
          have b3 := HY7.out.c3
          have fp3 := HR7.out.fz 3
          rw [show ((l + 1 : Nat) : Int) = (l : Int) + 1 from rfl] at b2
          have gp : g4 ≠ p := by omega
          have pg : p ≠ g4 := by omega
          go_wp2_with (first
            | (go_at_call 19; (with_reducible refine (KI1.out _ (HY7.out.bi.far4 gp)).mono ?_); rintro e w8 ⟨Ai, ki, rfl, hki, hSi, hu⟩; have HU8 := Lib.hid hu; have HSi := Lib.hid hSi; clear hu hSi)
            | (go_at_call 18; (with_reducible refine (KS1.out _ _ _ _ _ HSi.out ((HS2c.out.off4 HOc.out _ _ _ _).up HU8.out)).mono ?_); rintro e w9 ⟨rfl, hu⟩; have HU9 := Lib.hid (HU8.out.trans hu); clear hu))
          go_roundw
          case rel =>
            refine ⟨i + 1, by go_num, by omega, by omega, Lib.hid ⟨h, g4, k2c, M ++ [(x0, x1)], A2c, by rw [HLEN.out], by rw [HLEN.out]; exact hk2c, ?_, ?_, hh, ?_, ?_, hpp, ?_, HOc.out⟩⟩
            · rw [HLEN.out]; exact (HS2c.out.off4 HOc.out _ _ _ _).up HU9.out
            · rw [HLEN.out]; exact (Rt.of_store (c := c) (h := h) (l := l + 1) a0 a1 a2 a3 HY7.out.bi HR7.out.fz pg (ofL_length _ _ _)).up HU9.out
            · rw [HLEN.out]; omega
            · exact ((HU.out.trans (HU5.out.trans V2c.out)).set4 hpp).trans HU9.out
            · have := HU.out.size; omega
          case measure => simp [intOf]; omega
      · have K4 := Lib.hid (fun W (hB : Bi W g (ofL c h M)) => pushBack_full c h c (some ⟨g, 0, none⟩) M x0 x1 c1 (by omega) hh (by rw [HL.out]; exact hM) (by rw [HL.out]; omega) W (hB.sl (ofL_length _ _ _)))
        rw [HL.out] at K4
        go_wp2_with (first
          | (go_at_call 28; (with_reducible refine (KM.out _).mono ?_); rintro e w' ⟨rfl, rfl⟩)
          | (go_at_call 20; (with_reducible refine (K4.out _ (HRt.out.bi.up (((Up.refl _).alloc _ _).alloc _ _))).mono ?_); rintro e w4 ⟨rfl, hu⟩; have HU4 := Lib.hid ((((Up.refl _).alloc _ _).alloc _ _).trans hu); have x0' := hu.keep (wr.heap.size) 0 (.int .i64 x0) (by simp [go_sem]); have x1' := hu.keep (wr.heap.size) 1 (.int .i64 x1) (by simp [go_sem]); have y0' := hu.keep (wr.heap.size + 1) 0 (.int .i64 0) (by simp [go_sem]); have y1' := hu.keep (wr.heap.size + 1) 1 (.int .i64 0) (by simp [go_sem]); have y2' := hu.keep (wr.heap.size + 1) 2 (.int .i64 0) (by simp [go_sem]); have y3' := hu.keep (wr.heap.size + 1) 3 (.slice none 0 0) (by simp [go_sem]); have HR4 := Lib.hid (HRt.out.up HU4.out); have hs4 := hu.size; (try simp at hs4); have fy0 := HU4.out.ownGe (g := wr.heap.size + 1) (by omega) 0; have fy1 := HU4.out.ownGe (g := wr.heap.size + 1) (by omega) 1; have fy2 := HU4.out.ownGe (g := wr.heap.size + 1) (by omega) 2; have fy3 := HU4.out.ownGe (g := wr.heap.size + 1) (by omega) 3; clear hu))
        obtain ⟨w5, hw5⟩ : ∃ z, z = (((w4.setCell ⟨wr.heap.size + 1, 0, none⟩ (.int .i64 0)).setCell ⟨wr.heap.size + 1, 1, none⟩ (.int .i64 0)).setCell ⟨wr.heap.size + 1, 2, none⟩ (.int .i64 0)).setCell ⟨wr.heap.size + 1, 3, none⟩ (.slice none 0 0) := ⟨_, rfl⟩
        rw [← hw5]
        have HU5 : Hid (Up wr w5) := Lib.hid (by rw [hw5]; exact HU4.out.set4 (by omega))
        have HR5 : Hid (Rt w5 p g c h l (ofL c h M)) := Lib.hid (by rw [hw5]; exact HR4.out.far4 (by omega) (by omega) _ _ _ _)
        have x0'' : w5.cell? ⟨wr.heap.size, 0, none⟩ = some (.int .i64 x0) := by rw [hw5]; exact far4 x0' (by omega)
        have x1'' : w5.cell? ⟨wr.heap.size, 1, none⟩ = some (.int .i64 x1) := by rw [hw5]; exact far4 x1' (by omega)
        have hs5 : w4.heap.size = w5.heap.size := by rw [hw5]; simp [World.setCell]
        have hp5 : p < w5.heap.size := by omega
        have HS5 := Lib.hid (HSl.out.up HU5.out)
        clear hw5 x0' x1' y0' y1' y2' y3' fy0 fy1 fy2 fy3
        have KI0 := Lib.hid (fun W hB => KI.out W h g M hh (by rw [HL.out]; exact hM) hB)
        rw [HL.out] at KI0
        have KS0 := Lib.hid (fun W A B k q hA hB => KSI.out W M A B k q (by rw [HL.out]; exact hM) hA hB)
        rw [HL.out] at KS0
        have u1 : decide (l + 1 ≤ c) = false := decide_eq_false (by omega)
        have u1' : decide ((l : Int) + 1 ≤ c) = false := decide_eq_false (by omega)
        clear hf
        obtain ⟨v1a, w6a, ra1, oa1, ua1⟩ := append0_run 22 w5 (w5.alloc (.cells #[] 35)).drew w5.heap.size ((own_empty' rfl (Nat.le_refl _)).of_up (Up.refl _).drew) ((Up.refl _).alloc _ _).drew B l kk M (HS5.out.up ((Up.refl _).alloc _ _).drew) (by omega)
        have va1 := ((Up.refl w5).alloc #[] 35).drew.trans ua1
        obtain ⟨v2a, w7a, ra2, oa2, ua2⟩ := append_run 22 w5 (w6a.alloc (.cells #[.int .i64 x0, .int .i64 x1] 35)) v1a l M (oa1.of_up ((Up.refl _).alloc _ _)) (va1.alloc _ _) (some ⟨w6a.heap.size, 0, none⟩) 1 1 [(x0, x1)] (one_new w6a x0 x1) (by omega)
        obtain ⟨v1b, w6b, rb1, ob1, ub1⟩ := append0_run 22 w5 ((w5.alloc (.cells #[] 35)).alloc (.cells #[.int .i64 x0, .int .i64 x1] 35)).drew (w5.heap.size) ((own_empty' (w := w5) rfl (Nat.le_refl _)).of_up ((Up.refl _).alloc _ _).drew) (((Up.refl _).alloc _ _).alloc _ _).drew B l kk M (HS5.out.up (((Up.refl _).alloc _ _).alloc _ _).drew) (by omega)
        have vb1 := (((Up.refl w5).alloc _ _).alloc _ _).drew.trans ub1
        obtain ⟨v2b, w7b, rb2, ob2, ub2⟩ := append_run 22 w5 w6b v1b l M ob1 vb1 (some ⟨w5.heap.size + 1, 0, none⟩) 1 1 [(x0, x1)] (((one_new' _ x0 x1 (by simp)).up (Up.refl _).drew).up ub1) (by omega)
        obtain ⟨v1c, w6c, rc1, oc1, uc1⟩ := append0_run 22 w5 ((w5.alloc (.cells #[.int .i64 x0, .int .i64 x1] 35)).alloc (.cells #[] 35)).drew (w5.heap.size + 1) ((own_empty' (by simp) (by simp)).of_up (Up.refl _).drew) (((Up.refl _).alloc _ _).alloc _ _).drew B l kk M (HS5.out.up (((Up.refl _).alloc _ _).alloc _ _).drew) (by omega)
        have vc1 := (((Up.refl w5).alloc _ _).alloc _ _).drew.trans uc1
        obtain ⟨v2c, w7c, rc2, oc2, uc2⟩ := append_run 22 w5 w6c v1c l M oc1 vc1 (some ⟨w5.heap.size, 0, none⟩) 1 1 [(x0, x1)] (((one_new' _ x0 x1 rfl).up ((Up.refl _).alloc _ _).drew).up uc1) (by omega)
        have SS : Hid (Up w5 w5 ∧ w5.cell? ⟨wr.heap.size, 0, none⟩ = some (.int .i64 x0) ∧ w5.cell? ⟨wr.heap.size, 1, none⟩ = some (.int .i64 x1)) := Lib.hid ⟨Up.refl _, x0'', x1''⟩
        obtain ⟨A1a, k1a, rfl, _, _⟩ := oa1.sl
        obtain ⟨A2a, k2a, rfl, hk2a, s2a⟩ := oa2.sl
        have HOa := Lib.hid (oa2.off hp5)
        have HS2a := Lib.hid s2a
        have H1a := Lib.hid ra1
        have H2a := Lib.hid ra2
        have T1a := Lib.hid (keep2 (Lib.hid va1) SS.out)
        have T2a := Lib.hid (keep2 (Lib.hid ua2) SS.out)
        have V2a := Lib.hid ua2
        clear ra1 ra2 oa1 oa2 ua1 ua2 va1 s2a
        obtain ⟨A1b, k1b, rfl, _, _⟩ := ob1.sl
        obtain ⟨A2b, k2b, rfl, hk2b, s2b⟩ := ob2.sl
        have HOb := Lib.hid (ob2.off hp5)
        have HS2b := Lib.hid s2b
        have H1b := Lib.hid rb1
        have H2b := Lib.hid rb2
        have T1b := Lib.hid (keep2 (Lib.hid vb1) SS.out)
        have T2b := Lib.hid (keep2 (Lib.hid ub2) SS.out)
        have V2b := Lib.hid ub2
        clear rb1 rb2 ob1 ob2 ub1 ub2 vb1 s2b
        obtain ⟨A1c, k1c, rfl, _, _⟩ := oc1.sl
        obtain ⟨A2c, k2c, rfl, hk2c, s2c⟩ := oc2.sl
        have HOc := Lib.hid (oc2.off hp5)
        have HS2c := Lib.hid s2c
        have H1c := Lib.hid rc1
        have H2c := Lib.hid rc2
        have T1c := Lib.hid (keep2 (Lib.hid vc1) SS.out)
        have T2c := Lib.hid (keep2 (Lib.hid uc2) SS.out)
        have V2c := Lib.hid uc2
        clear rc1 rc2 oc1 oc2 uc1 uc2 vc1 s2c
        clear x0'' x1''
        go_region_held3 (fun w' => Up w5 w' ∧ w'.cell? ⟨wr.heap.size, 0, none⟩ = some (.int .i64 x0) ∧ w'.cell? ⟨wr.heap.size, 1, none⟩ = some (.int .i64 x1))
          (repeat (first | (with_reducible exact SS.out) | (with_reducible exact T1a.out) | (with_reducible exact T2a.out) | (with_reducible exact T1b.out) | (with_reducible exact T2b.out) | (with_reducible exact T1c.out) | (with_reducible exact T2c.out) | (with_reducible refine keep2 (Lib.hid ((Up.refl _).alloc _ _)) ?_) | (with_reducible refine keep2 (Lib.hid (Up.refl _).drew) ?_)))
          (first
            | ((with_reducible refine step_append_run rfl (.tmp 50) (.tmp 51) _ rfl _ _ ?_ ?_ _ _ H1a.out ?_); rfl; rfl)
            | ((with_reducible refine step_append_run rfl (.tmp 52) (.tmp 54) _ rfl _ _ ?_ ?_ _ _ H2a.out ?_); rfl; rfl)
            | ((with_reducible refine step_append_run rfl (.tmp 50) (.tmp 51) _ rfl _ _ ?_ ?_ _ _ H1b.out ?_); rfl; rfl)
            | ((with_reducible refine step_append_run rfl (.tmp 52) (.tmp 54) _ rfl _ _ ?_ ?_ _ _ H2b.out ?_); rfl; rfl)
            | ((with_reducible refine step_append_run rfl (.tmp 50) (.tmp 51) _ rfl _ _ ?_ ?_ _ _ H1c.out ?_); rfl; rfl)
            | ((with_reducible refine step_append_run rfl (.tmp 52) (.tmp 54) _ rfl _ _ ?_ ?_ _ _ H2c.out ?_); rfl; rfl))
        · have HR7 := Lib.hid (HR5.out.up V2a.out)
          have HS7 := Lib.hid (HS5.out.up V2a.out)
          have a0 := HR7.out.c0
          have a1 := HR7.out.c1
          have a2 := HR7.out.c2
          have a3 := HR7.out.c3
          go_wp2_with (first
            | (go_at_call 19; (with_reducible refine (KI0.out _ HR7.out.bi).mono ?_); rintro e w8 ⟨Ai, ki, rfl, hki, hSi, hu⟩; have HU8 := Lib.hid hu; have HSi := Lib.hid hSi; clear hu hSi)
            | (go_at_call 18; (with_reducible refine (KS0.out _ _ _ _ _ HSi.out (HS7.out.up HU8.out)).mono ?_); rintro e w9 ⟨rfl, hu⟩; have HU9 := Lib.hid (HU8.out.trans hu); clear hu))
          go_roundw
          case rel =>
            refine ⟨i + 1, by go_num, by omega, by omega, Lib.hid ⟨h, g, kk, M, B, by rw [HL.out], by rw [HL.out]; exact hkk, ?_, ?_, hh, by rw [HL.out]; exact hM, ?_, hpp, hgg, HOF.out⟩⟩
            · rw [HL.out]; exact HS7.out.up HU9.out
            · rw [HL.out]; exact HR7.out.up HU9.out
            · exact (HU.out.trans (HU5.out.trans V2a.out)).trans HU9.out
          case measure => simp [intOf]; omega
        · have HR7 := Lib.hid (HR5.out.up V2b.out)
          have HS7 := Lib.hid (HS5.out.up V2b.out)
          have a0 := HR7.out.c0
          have a1 := HR7.out.c1
          have a2 := HR7.out.c2
          have a3 := HR7.out.c3
          go_wp2_with (first
            | (go_at_call 19; (with_reducible refine (KI0.out _ HR7.out.bi).mono ?_); rintro e w8 ⟨Ai, ki, rfl, hki, hSi, hu⟩; have HU8 := Lib.hid hu; have HSi := Lib.hid hSi; clear hu hSi)
            | (go_at_call 18; (with_reducible refine (KS0.out _ _ _ _ _ HSi.out (HS7.out.up HU8.out)).mono ?_); rintro e w9 ⟨rfl, hu⟩; have HU9 := Lib.hid (HU8.out.trans hu); clear hu))
          go_roundw
          case rel =>
            refine ⟨i + 1, by go_num, by omega, by omega, Lib.hid ⟨h, g, kk, M, B, by rw [HL.out], by rw [HL.out]; exact hkk, ?_, ?_, hh, by rw [HL.out]; exact hM, ?_, hpp, hgg, HOF.out⟩⟩
            · rw [HL.out]; exact HS7.out.up HU9.out
            · rw [HL.out]; exact HR7.out.up HU9.out
            · exact (HU.out.trans (HU5.out.trans V2b.out)).trans HU9.out
          case measure => simp [intOf]; omega
        · have HR7 := Lib.hid (HR5.out.up V2c.out)
          have HS7 := Lib.hid (HS5.out.up V2c.out)
          have a0 := HR7.out.c0
          have a1 := HR7.out.c1
          have a2 := HR7.out.c2
          have a3 := HR7.out.c3
          go_wp2_with (first
            | (go_at_call 19; (with_reducible refine (KI0.out _ HR7.out.bi).mono ?_); rintro e w8 ⟨Ai, ki, rfl, hki, hSi, hu⟩; have HU8 := Lib.hid hu; have HSi := Lib.hid hSi; clear hu hSi)
            | (go_at_call 18; (with_reducible refine (KS0.out _ _ _ _ _ HSi.out (HS7.out.up HU8.out)).mono ?_); rintro e w9 ⟨rfl, hu⟩; have HU9 := Lib.hid (HU8.out.trans hu); clear hu))
          go_roundw
          case rel =>
            refine ⟨i + 1, by go_num, by omega, by omega, Lib.hid ⟨h, g, kk, M, B, by rw [HL.out], by rw [HL.out]; exact hkk, ?_, ?_, hh, by rw [HL.out]; exact hM, ?_, hpp, hgg, HOF.out⟩⟩
            · rw [HL.out]; exact HS7.out.up HU9.out
            · rw [HL.out]; exact HR7.out.up HU9.out
            · exact (HU.out.trans (HU5.out.trans V2c.out)).trans HU9.out
          case measure => simp [intOf]; omega
    · by_cases hf : l < c
      · have K4 := Lib.hid (fun W (hB : Bi W g (ofL c h M)) => pushBack_good c h c (some ⟨g, 0, none⟩) M x0 x1 c1 (by omega) hh (by rw [HL.out]; exact hM) (by rw [HL.out]; exact hf) W (hB.sl (ofL_length _ _ _)))
        rw [HL.out, show ((l + 1 : Nat) : Int) = (l : Int) + 1 from rfl] at K4
        go_wp2_with (first
          | (go_at_call 28; (with_reducible refine (KM.out _).mono ?_); rintro e w' ⟨rfl, rfl⟩)
          | (go_at_call 20; (with_reducible refine (K4.out _ (HRt.out.bi.up (((Up.refl _).alloc _ _).alloc _ _))).mono ?_); rintro e w4 ⟨g4, rfl, hg4, hb4, hu⟩; have HU4 := Lib.hid ((((Up.refl _).alloc _ _).alloc _ _).trans hu); have x0' := hu.keep (wr.heap.size) 0 (.int .i64 x0) (by simp [go_sem]); have x1' := hu.keep (wr.heap.size) 1 (.int .i64 x1) (by simp [go_sem]); have y0' := hu.keep (wr.heap.size + 1) 0 (.int .i64 0) (by simp [go_sem]); have y1' := hu.keep (wr.heap.size + 1) 1 (.int .i64 0) (by simp [go_sem]); have y2' := hu.keep (wr.heap.size + 1) 2 (.int .i64 0) (by simp [go_sem]); have y3' := hu.keep (wr.heap.size + 1) 3 (.slice none 0 0) (by simp [go_sem]); have HR4 := Lib.hid (HRt.out.up HU4.out); have hs4 := hu.size; (try simp at hs4); have fy0 := HU4.out.ownGe (g := wr.heap.size + 1) (by omega) 0; have fy1 := HU4.out.ownGe (g := wr.heap.size + 1) (by omega) 1; have fy2 := HU4.out.ownGe (g := wr.heap.size + 1) (by omega) 2; have fy3 := HU4.out.ownGe (g := wr.heap.size + 1) (by omega) 3; have HB4 := Lib.hid hb4; have hg5 := Blk.lt hb4; clear hb4; (try simp at hg4); clear hu))
        obtain ⟨w5, hw5⟩ : ∃ z, z = (((w4.setCell ⟨wr.heap.size + 1, 0, none⟩ (.int .i64 c)).setCell ⟨wr.heap.size + 1, 1, none⟩ (.int .i64 h)).setCell ⟨wr.heap.size + 1, 2, none⟩ (.int .i64 ((l : Int) + 1))).setCell ⟨wr.heap.size + 1, 3, none⟩ (.slice (some ⟨g4, 0, none⟩) c c) := ⟨_, rfl⟩
        rw [← hw5]
        have HU5 : Hid (Up wr w5) := Lib.hid (by rw [hw5]; exact HU4.out.set4 (by omega))
        have HR5 : Hid (Rt w5 p g c h l (ofL c h M)) := Lib.hid (by rw [hw5]; exact HR4.out.far4 (by omega) (by omega) _ _ _ _)
        have x0'' : w5.cell? ⟨wr.heap.size, 0, none⟩ = some (.int .i64 x0) := by rw [hw5]; exact far4 x0' (by omega)
        have x1'' : w5.cell? ⟨wr.heap.size, 1, none⟩ = some (.int .i64 x1) := by rw [hw5]; exact far4 x1' (by omega)
        have HY5 : Hid (Rt w5 (wr.heap.size + 1) g4 c h (l + 1) (ofL c h (M ++ [(x0, x1)]))) := Lib.hid (by rw [hw5]; exact Rt.of_store y0' y1' y2' y3' HB4.out (fun o => HU4.out.ownGe (by omega) o) (by omega) (ofL_length _ _ _))
        have hs5 : w4.heap.size = w5.heap.size := by rw [hw5]; simp [World.setCell]
        have hp5 : p < w5.heap.size := by omega
        have HS5 := Lib.hid (HSl.out.up HU5.out)
        clear hw5 x0' x1' y0' y1' y2' y3' fy0 fy1 fy2 fy3
        have hlen : (M ++ [(x0, x1)]).length = l + 1 := by rw [List.length_append, HL.out]; rfl
        have KI1 := Lib.hid (fun W hB => KI.out W (h) g4 (M ++ [(x0, x1)]) hh (by rw [hlen]; omega) hB)
        rw [hlen] at KI1
        rw [show ((l + 1 : Nat) : Int) = (l : Int) + 1 from rfl] at KI1
        have KS1 := Lib.hid (fun W A B k q hA hB => KSI.out W (M ++ [(x0, x1)]) A B k q (by rw [hlen]; omega) hA hB)
        rw [hlen] at KS1
        have u1 : decide (l + 1 ≤ c) = true := decide_eq_true (by omega)
        have u1' : decide ((l : Int) + 1 ≤ c) = true := decide_eq_true (by omega)
        have u2 : ((l : Int) + 1 != l) = true := by rw [bne_iff_ne]; omega
        have u2' : (l + 1 != l) = true := by rw [bne_iff_ne]; omega
        have HLEN := Lib.hid hlen
        clear hlen
        obtain ⟨v1a, w6a, ra1, oa1, ua1⟩ := append0_run 22 w5 (w5.alloc (.cells #[] 35)).drew w5.heap.size ((own_empty' rfl (Nat.le_refl _)).of_up (Up.refl _).drew) ((Up.refl _).alloc _ _).drew B l kk M (HS5.out.up ((Up.refl _).alloc _ _).drew) (by omega)
        have va1 := ((Up.refl w5).alloc #[] 35).drew.trans ua1
        obtain ⟨v2a, w7a, ra2, oa2, ua2⟩ := append_run 22 w5 (w6a.alloc (.cells #[.int .i64 x0, .int .i64 x1] 35)) v1a l M (oa1.of_up ((Up.refl _).alloc _ _)) (va1.alloc _ _) (some ⟨w6a.heap.size, 0, none⟩) 1 1 [(x0, x1)] (one_new w6a x0 x1) (by omega)
        obtain ⟨v1b, w6b, rb1, ob1, ub1⟩ := append0_run 22 w5 ((w5.alloc (.cells #[] 35)).alloc (.cells #[.int .i64 x0, .int .i64 x1] 35)).drew (w5.heap.size) ((own_empty' (w := w5) rfl (Nat.le_refl _)).of_up ((Up.refl _).alloc _ _).drew) (((Up.refl _).alloc _ _).alloc _ _).drew B l kk M (HS5.out.up (((Up.refl _).alloc _ _).alloc _ _).drew) (by omega)
        have vb1 := (((Up.refl w5).alloc _ _).alloc _ _).drew.trans ub1
        obtain ⟨v2b, w7b, rb2, ob2, ub2⟩ := append_run 22 w5 w6b v1b l M ob1 vb1 (some ⟨w5.heap.size + 1, 0, none⟩) 1 1 [(x0, x1)] (((one_new' _ x0 x1 (by simp)).up (Up.refl _).drew).up ub1) (by omega)
        obtain ⟨v1c, w6c, rc1, oc1, uc1⟩ := append0_run 22 w5 ((w5.alloc (.cells #[.int .i64 x0, .int .i64 x1] 35)).alloc (.cells #[] 35)).drew (w5.heap.size + 1) ((own_empty' (by simp) (by simp)).of_up (Up.refl _).drew) (((Up.refl _).alloc _ _).alloc _ _).drew B l kk M (HS5.out.up (((Up.refl _).alloc _ _).alloc _ _).drew) (by omega)
        have vc1 := (((Up.refl w5).alloc _ _).alloc _ _).drew.trans uc1
        obtain ⟨v2c, w7c, rc2, oc2, uc2⟩ := append_run 22 w5 w6c v1c l M oc1 vc1 (some ⟨w5.heap.size, 0, none⟩) 1 1 [(x0, x1)] (((one_new' _ x0 x1 rfl).up ((Up.refl _).alloc _ _).drew).up uc1) (by omega)
        have SS : Hid (Up w5 w5 ∧ w5.cell? ⟨wr.heap.size, 0, none⟩ = some (.int .i64 x0) ∧ w5.cell? ⟨wr.heap.size, 1, none⟩ = some (.int .i64 x1)) := Lib.hid ⟨Up.refl _, x0'', x1''⟩
        obtain ⟨A1a, k1a, rfl, _, _⟩ := oa1.sl
        obtain ⟨A2a, k2a, rfl, hk2a, s2a⟩ := oa2.sl
        have HOa := Lib.hid (oa2.off hp5)
        have HS2a := Lib.hid s2a
        have H1a := Lib.hid ra1
        have H2a := Lib.hid ra2
        have T1a := Lib.hid (keep2 (Lib.hid va1) SS.out)
        have T2a := Lib.hid (keep2 (Lib.hid ua2) SS.out)
        have V2a := Lib.hid ua2
        clear ra1 ra2 oa1 oa2 ua1 ua2 va1 s2a
        obtain ⟨A1b, k1b, rfl, _, _⟩ := ob1.sl
        obtain ⟨A2b, k2b, rfl, hk2b, s2b⟩ := ob2.sl
        have HOb := Lib.hid (ob2.off hp5)
        have HS2b := Lib.hid s2b
        have H1b := Lib.hid rb1
        have H2b := Lib.hid rb2
        have T1b := Lib.hid (keep2 (Lib.hid vb1) SS.out)
        have T2b := Lib.hid (keep2 (Lib.hid ub2) SS.out)
        have V2b := Lib.hid ub2
        clear rb1 rb2 ob1 ob2 ub1 ub2 vb1 s2b
        obtain ⟨A1c, k1c, rfl, _, _⟩ := oc1.sl
        obtain ⟨A2c, k2c, rfl, hk2c, s2c⟩ := oc2.sl
        have HOc := Lib.hid (oc2.off hp5)
        have HS2c := Lib.hid s2c
        have H1c := Lib.hid rc1
        have H2c := Lib.hid rc2
        have T1c := Lib.hid (keep2 (Lib.hid vc1) SS.out)
        have T2c := Lib.hid (keep2 (Lib.hid uc2) SS.out)
        have V2c := Lib.hid uc2
        clear rc1 rc2 oc1 oc2 uc1 uc2 vc1 s2c
        clear x0'' x1''
        go_region_held3 (fun w' => Up w5 w' ∧ w'.cell? ⟨wr.heap.size, 0, none⟩ = some (.int .i64 x0) ∧ w'.cell? ⟨wr.heap.size, 1, none⟩ = some (.int .i64 x1))
          (repeat (first | (with_reducible exact SS.out) | (with_reducible exact T1a.out) | (with_reducible exact T2a.out) | (with_reducible exact T1b.out) | (with_reducible exact T2b.out) | (with_reducible exact T1c.out) | (with_reducible exact T2c.out) | (with_reducible refine keep2 (Lib.hid ((Up.refl _).alloc _ _)) ?_) | (with_reducible refine keep2 (Lib.hid (Up.refl _).drew) ?_)))
          (first
            | ((with_reducible refine step_append_run rfl (.tmp 50) (.tmp 51) _ rfl _ _ ?_ ?_ _ _ H1a.out ?_); rfl; rfl)
            | ((with_reducible refine step_append_run rfl (.tmp 52) (.tmp 54) _ rfl _ _ ?_ ?_ _ _ H2a.out ?_); rfl; rfl)
            | ((with_reducible refine step_append_run rfl (.tmp 50) (.tmp 51) _ rfl _ _ ?_ ?_ _ _ H1b.out ?_); rfl; rfl)
            | ((with_reducible refine step_append_run rfl (.tmp 52) (.tmp 54) _ rfl _ _ ?_ ?_ _ _ H2b.out ?_); rfl; rfl)
            | ((with_reducible refine step_append_run rfl (.tmp 50) (.tmp 51) _ rfl _ _ ?_ ?_ _ _ H1c.out ?_); rfl; rfl)
            | ((with_reducible refine step_append_run rfl (.tmp 52) (.tmp 54) _ rfl _ _ ?_ ?_ _ _ H2c.out ?_); rfl; rfl))
        · have HR7 := Lib.hid (HR5.out.up V2a.out)
          have HY7 := Lib.hid (HY5.out.up V2a.out)
          have a0 := HR7.out.c0
          have b0 := HY7.out.c0
          have fp0 := HR7.out.fz 0
          have a1 := HR7.out.c1
          have b1 := HY7.out.c1
          have fp1 := HR7.out.fz 1
          have a2 := HR7.out.c2
          have b2 := HY7.out.c2
          have fp2 := HR7.out.fz 2
          have a3 := HR7.out.c3
          have b3 := HY7.out.c3
          have fp3 := HR7.out.fz 3
          rw [show ((l + 1 : Nat) : Int) = (l : Int) + 1 from rfl] at b2
          have gp : g4 ≠ p := by omega
          have pg : p ≠ g4 := by omega
          go_wp2_with (first
            | (go_at_call 19; (with_reducible refine (KI1.out _ (HY7.out.bi.far4 gp)).mono ?_); rintro e w8 ⟨Ai, ki, rfl, hki, hSi, hu⟩; have HU8 := Lib.hid hu; have HSi := Lib.hid hSi; clear hu hSi)
            | (go_at_call 18; (with_reducible refine (KS1.out _ _ _ _ _ HSi.out ((HS2a.out.off4 HOa.out _ _ _ _).up HU8.out)).mono ?_); rintro e w9 ⟨rfl, hu⟩; have HU9 := Lib.hid (HU8.out.trans hu); clear hu))
          go_roundw
          case rel =>
            refine ⟨i + 1, by go_num, by omega, by omega, Lib.hid ⟨h, g4, k2a, M ++ [(x0, x1)], A2a, by rw [HLEN.out], by rw [HLEN.out]; exact hk2a, ?_, ?_, hh, ?_, ?_, hpp, ?_, HOa.out⟩⟩
            · rw [HLEN.out]; exact (HS2a.out.off4 HOa.out _ _ _ _).up HU9.out
            · rw [HLEN.out]; exact (Rt.of_store (c := c) (h := h) (l := l + 1) a0 a1 a2 a3 HY7.out.bi HR7.out.fz pg (ofL_length _ _ _)).up HU9.out
            · rw [HLEN.out]; omega
            · exact ((HU.out.trans (HU5.out.trans V2a.out)).set4 hpp).trans HU9.out
            · have := HU.out.size; omega
          case measure => simp [intOf]; omega
        · have HR7 := Lib.hid (HR5.out.up V2b.out)
          have HY7 := Lib.hid (HY5.out.up V2b.out)
          have a0 := HR7.out.c0
          have b0 := HY7.out.c0
          have fp0 := HR7.out.fz 0
          have a1 := HR7.out.c1
          have b1 := HY7.out.c1
          have fp1 := HR7.out.fz 1
          have a2 := HR7.out.c2
          have b2 := HY7.out.c2
          have fp2 := HR7.out.fz 2
          have a3 := HR7.out.c3
          have b3 := HY7.out.c3
          have fp3 := HR7.out.fz 3
          rw [show ((l + 1 : Nat) : Int) = (l : Int) + 1 from rfl] at b2
          have gp : g4 ≠ p := by omega
          have pg : p ≠ g4 := by omega
          go_wp2_with (first
            | (go_at_call 19; (with_reducible refine (KI1.out _ (HY7.out.bi.far4 gp)).mono ?_); rintro e w8 ⟨Ai, ki, rfl, hki, hSi, hu⟩; have HU8 := Lib.hid hu; have HSi := Lib.hid hSi; clear hu hSi)
            | (go_at_call 18; (with_reducible refine (KS1.out _ _ _ _ _ HSi.out ((HS2b.out.off4 HOb.out _ _ _ _).up HU8.out)).mono ?_); rintro e w9 ⟨rfl, hu⟩; have HU9 := Lib.hid (HU8.out.trans hu); clear hu))
          go_roundw
          case rel =>
            refine ⟨i + 1, by go_num, by omega, by omega, Lib.hid ⟨h, g4, k2b, M ++ [(x0, x1)], A2b, by rw [HLEN.out], by rw [HLEN.out]; exact hk2b, ?_, ?_, hh, ?_, ?_, hpp, ?_, HOb.out⟩⟩
            · rw [HLEN.out]; exact (HS2b.out.off4 HOb.out _ _ _ _).up HU9.out
            · rw [HLEN.out]; exact (Rt.of_store (c := c) (h := h) (l := l + 1) a0 a1 a2 a3 HY7.out.bi HR7.out.fz pg (ofL_length _ _ _)).up HU9.out
            · rw [HLEN.out]; omega
            · exact ((HU.out.trans (HU5.out.trans V2b.out)).set4 hpp).trans HU9.out
            · have := HU.out.size; omega
          case measure => simp [intOf]; omega
        · have HR7 := Lib.hid (HR5.out.up V2c.out)
          have HY7 := Lib.hid (HY5.out.up V2c.out)
          have a0 := HR7.out.c0
          have b0 := HY7.out.c0
          have fp0 := HR7.out.fz 0
          have a1 := HR7.out.c1
          have b1 := HY7.out.c1
          have fp1 := HR7.out.fz 1
          have a2 := HR7.out.c2
          have b2 := HY7.out.c2
          have fp2 := HR7.out.fz 2
          have a3 := HR7.out.c3
          have b3 := HY7.out.c3
          have fp3 := HR7.out.fz 3
          rw [show ((l + 1 : Nat) : Int) = (l : Int) + 1 from rfl] at b2
          have gp : g4 ≠ p := by omega
          have pg : p ≠ g4 := by omega
          go_wp2_with (first
            | (go_at_call 19; (with_reducible refine (KI1.out _ (HY7.out.bi.far4 gp)).mono ?_); rintro e w8 ⟨Ai, ki, rfl, hki, hSi, hu⟩; have HU8 := Lib.hid hu; have HSi := Lib.hid hSi; clear hu hSi)
            | (go_at_call 18; (with_reducible refine (KS1.out _ _ _ _ _ HSi.out ((HS2c.out.off4 HOc.out _ _ _ _).up HU8.out)).mono ?_); rintro e w9 ⟨rfl, hu⟩; have HU9 := Lib.hid (HU8.out.trans hu); clear hu))
          go_roundw
          case rel =>
            refine ⟨i + 1, by go_num, by omega, by omega, Lib.hid ⟨h, g4, k2c, M ++ [(x0, x1)], A2c, by rw [HLEN.out], by rw [HLEN.out]; exact hk2c, ?_, ?_, hh, ?_, ?_, hpp, ?_, HOc.out⟩⟩
            · rw [HLEN.out]; exact (HS2c.out.off4 HOc.out _ _ _ _).up HU9.out
            · rw [HLEN.out]; exact (Rt.of_store (c := c) (h := h) (l := l + 1) a0 a1 a2 a3 HY7.out.bi HR7.out.fz pg (ofL_length _ _ _)).up HU9.out
            · rw [HLEN.out]; omega
            · exact ((HU.out.trans (HU5.out.trans V2c.out)).set4 hpp).trans HU9.out
            · have := HU.out.size; omega
          case measure => simp [intOf]; omega
      · have K4 := Lib.hid (fun W (hB : Bi W g (ofL c h M)) => pushBack_full c h c (some ⟨g, 0, none⟩) M x0 x1 c1 (by omega) hh (by rw [HL.out]; exact hM) (by rw [HL.out]; omega) W (hB.sl (ofL_length _ _ _)))
        rw [HL.out] at K4
        go_wp2_with (first
          | (go_at_call 28; (with_reducible refine (KM.out _).mono ?_); rintro e w' ⟨rfl, rfl⟩)
          | (go_at_call 20; (with_reducible refine (K4.out _ (HRt.out.bi.up (((Up.refl _).alloc _ _).alloc _ _))).mono ?_); rintro e w4 ⟨rfl, hu⟩; have HU4 := Lib.hid ((((Up.refl _).alloc _ _).alloc _ _).trans hu); have x0' := hu.keep (wr.heap.size) 0 (.int .i64 x0) (by simp [go_sem]); have x1' := hu.keep (wr.heap.size) 1 (.int .i64 x1) (by simp [go_sem]); have y0' := hu.keep (wr.heap.size + 1) 0 (.int .i64 0) (by simp [go_sem]); have y1' := hu.keep (wr.heap.size + 1) 1 (.int .i64 0) (by simp [go_sem]); have y2' := hu.keep (wr.heap.size + 1) 2 (.int .i64 0) (by simp [go_sem]); have y3' := hu.keep (wr.heap.size + 1) 3 (.slice none 0 0) (by simp [go_sem]); have HR4 := Lib.hid (HRt.out.up HU4.out); have hs4 := hu.size; (try simp at hs4); have fy0 := HU4.out.ownGe (g := wr.heap.size + 1) (by omega) 0; have fy1 := HU4.out.ownGe (g := wr.heap.size + 1) (by omega) 1; have fy2 := HU4.out.ownGe (g := wr.heap.size + 1) (by omega) 2; have fy3 := HU4.out.ownGe (g := wr.heap.size + 1) (by omega) 3; clear hu))
        obtain ⟨w5, hw5⟩ : ∃ z, z = (((w4.setCell ⟨wr.heap.size + 1, 0, none⟩ (.int .i64 0)).setCell ⟨wr.heap.size + 1, 1, none⟩ (.int .i64 0)).setCell ⟨wr.heap.size + 1, 2, none⟩ (.int .i64 0)).setCell ⟨wr.heap.size + 1, 3, none⟩ (.slice none 0 0) := ⟨_, rfl⟩
        rw [← hw5]
        have HU5 : Hid (Up wr w5) := Lib.hid (by rw [hw5]; exact HU4.out.set4 (by omega))
        have HR5 : Hid (Rt w5 p g c h l (ofL c h M)) := Lib.hid (by rw [hw5]; exact HR4.out.far4 (by omega) (by omega) _ _ _ _)
        have x0'' : w5.cell? ⟨wr.heap.size, 0, none⟩ = some (.int .i64 x0) := by rw [hw5]; exact far4 x0' (by omega)
        have x1'' : w5.cell? ⟨wr.heap.size, 1, none⟩ = some (.int .i64 x1) := by rw [hw5]; exact far4 x1' (by omega)
        have hs5 : w4.heap.size = w5.heap.size := by rw [hw5]; simp [World.setCell]
        have hp5 : p < w5.heap.size := by omega
        have HS5 := Lib.hid (HSl.out.up HU5.out)
        clear hw5 x0' x1' y0' y1' y2' y3' fy0 fy1 fy2 fy3
        have KI0 := Lib.hid (fun W hB => KI.out W h g M hh (by rw [HL.out]; exact hM) hB)
        rw [HL.out] at KI0
        have KS0 := Lib.hid (fun W A B k q hA hB => KSI.out W M A B k q (by rw [HL.out]; exact hM) hA hB)
        rw [HL.out] at KS0
        have u1 : decide (l + 1 ≤ c) = false := decide_eq_false (by omega)
        have u1' : decide ((l : Int) + 1 ≤ c) = false := decide_eq_false (by omega)
        clear hf
        obtain ⟨v1a, w6a, ra1, oa1, ua1⟩ := append0_run 22 w5 (w5.alloc (.cells #[] 35)).drew w5.heap.size ((own_empty' rfl (Nat.le_refl _)).of_up (Up.refl _).drew) ((Up.refl _).alloc _ _).drew B l kk M (HS5.out.up ((Up.refl _).alloc _ _).drew) (by omega)
        have va1 := ((Up.refl w5).alloc #[] 35).drew.trans ua1
        obtain ⟨v2a, w7a, ra2, oa2, ua2⟩ := append_run 22 w5 (w6a.alloc (.cells #[.int .i64 x0, .int .i64 x1] 35)) v1a l M (oa1.of_up ((Up.refl _).alloc _ _)) (va1.alloc _ _) (some ⟨w6a.heap.size, 0, none⟩) 1 1 [(x0, x1)] (one_new w6a x0 x1) (by omega)
        obtain ⟨v1b, w6b, rb1, ob1, ub1⟩ := append0_run 22 w5 ((w5.alloc (.cells #[] 35)).alloc (.cells #[.int .i64 x0, .int .i64 x1] 35)).drew (w5.heap.size) ((own_empty' (w := w5) rfl (Nat.le_refl _)).of_up ((Up.refl _).alloc _ _).drew) (((Up.refl _).alloc _ _).alloc _ _).drew B l kk M (HS5.out.up (((Up.refl _).alloc _ _).alloc _ _).drew) (by omega)
        have vb1 := (((Up.refl w5).alloc _ _).alloc _ _).drew.trans ub1
        obtain ⟨v2b, w7b, rb2, ob2, ub2⟩ := append_run 22 w5 w6b v1b l M ob1 vb1 (some ⟨w5.heap.size + 1, 0, none⟩) 1 1 [(x0, x1)] (((one_new' _ x0 x1 (by simp)).up (Up.refl _).drew).up ub1) (by omega)
        obtain ⟨v1c, w6c, rc1, oc1, uc1⟩ := append0_run 22 w5 ((w5.alloc (.cells #[.int .i64 x0, .int .i64 x1] 35)).alloc (.cells #[] 35)).drew (w5.heap.size + 1) ((own_empty' (by simp) (by simp)).of_up (Up.refl _).drew) (((Up.refl _).alloc _ _).alloc _ _).drew B l kk M (HS5.out.up (((Up.refl _).alloc _ _).alloc _ _).drew) (by omega)
        have vc1 := (((Up.refl w5).alloc _ _).alloc _ _).drew.trans uc1
        obtain ⟨v2c, w7c, rc2, oc2, uc2⟩ := append_run 22 w5 w6c v1c l M oc1 vc1 (some ⟨w5.heap.size, 0, none⟩) 1 1 [(x0, x1)] (((one_new' _ x0 x1 rfl).up ((Up.refl _).alloc _ _).drew).up uc1) (by omega)
        have SS : Hid (Up w5 w5 ∧ w5.cell? ⟨wr.heap.size, 0, none⟩ = some (.int .i64 x0) ∧ w5.cell? ⟨wr.heap.size, 1, none⟩ = some (.int .i64 x1)) := Lib.hid ⟨Up.refl _, x0'', x1''⟩
        obtain ⟨A1a, k1a, rfl, _, _⟩ := oa1.sl
        obtain ⟨A2a, k2a, rfl, hk2a, s2a⟩ := oa2.sl
        have HOa := Lib.hid (oa2.off hp5)
        have HS2a := Lib.hid s2a
        have H1a := Lib.hid ra1
        have H2a := Lib.hid ra2
        have T1a := Lib.hid (keep2 (Lib.hid va1) SS.out)
        have T2a := Lib.hid (keep2 (Lib.hid ua2) SS.out)
        have V2a := Lib.hid ua2
        clear ra1 ra2 oa1 oa2 ua1 ua2 va1 s2a
        obtain ⟨A1b, k1b, rfl, _, _⟩ := ob1.sl
        obtain ⟨A2b, k2b, rfl, hk2b, s2b⟩ := ob2.sl
        have HOb := Lib.hid (ob2.off hp5)
        have HS2b := Lib.hid s2b
        have H1b := Lib.hid rb1
        have H2b := Lib.hid rb2
        have T1b := Lib.hid (keep2 (Lib.hid vb1) SS.out)
        have T2b := Lib.hid (keep2 (Lib.hid ub2) SS.out)
        have V2b := Lib.hid ub2
        clear rb1 rb2 ob1 ob2 ub1 ub2 vb1 s2b
        obtain ⟨A1c, k1c, rfl, _, _⟩ := oc1.sl
        obtain ⟨A2c, k2c, rfl, hk2c, s2c⟩ := oc2.sl
        have HOc := Lib.hid (oc2.off hp5)
        have HS2c := Lib.hid s2c
        have H1c := Lib.hid rc1
        have H2c := Lib.hid rc2
        have T1c := Lib.hid (keep2 (Lib.hid vc1) SS.out)
        have T2c := Lib.hid (keep2 (Lib.hid uc2) SS.out)
        have V2c := Lib.hid uc2
        clear rc1 rc2 oc1 oc2 uc1 uc2 vc1 s2c
        clear x0'' x1''
        go_region_held3 (fun w' => Up w5 w' ∧ w'.cell? ⟨wr.heap.size, 0, none⟩ = some (.int .i64 x0) ∧ w'.cell? ⟨wr.heap.size, 1, none⟩ = some (.int .i64 x1))
          (repeat (first | (with_reducible exact SS.out) | (with_reducible exact T1a.out) | (with_reducible exact T2a.out) | (with_reducible exact T1b.out) | (with_reducible exact T2b.out) | (with_reducible exact T1c.out) | (with_reducible exact T2c.out) | (with_reducible refine keep2 (Lib.hid ((Up.refl _).alloc _ _)) ?_) | (with_reducible refine keep2 (Lib.hid (Up.refl _).drew) ?_)))
          (first
            | ((with_reducible refine step_append_run rfl (.tmp 50) (.tmp 51) _ rfl _ _ ?_ ?_ _ _ H1a.out ?_); rfl; rfl)
            | ((with_reducible refine step_append_run rfl (.tmp 52) (.tmp 54) _ rfl _ _ ?_ ?_ _ _ H2a.out ?_); rfl; rfl)
            | ((with_reducible refine step_append_run rfl (.tmp 50) (.tmp 51) _ rfl _ _ ?_ ?_ _ _ H1b.out ?_); rfl; rfl)
            | ((with_reducible refine step_append_run rfl (.tmp 52) (.tmp 54) _ rfl _ _ ?_ ?_ _ _ H2b.out ?_); rfl; rfl)
            | ((with_reducible refine step_append_run rfl (.tmp 50) (.tmp 51) _ rfl _ _ ?_ ?_ _ _ H1c.out ?_); rfl; rfl)
            | ((with_reducible refine step_append_run rfl (.tmp 52) (.tmp 54) _ rfl _ _ ?_ ?_ _ _ H2c.out ?_); rfl; rfl))
        · have HR7 := Lib.hid (HR5.out.up V2a.out)
          have HS7 := Lib.hid (HS5.out.up V2a.out)
          have a0 := HR7.out.c0
          have a1 := HR7.out.c1
          have a2 := HR7.out.c2
          have a3 := HR7.out.c3
          go_wp2_with (first
            | (go_at_call 19; (with_reducible refine (KI0.out _ HR7.out.bi).mono ?_); rintro e w8 ⟨Ai, ki, rfl, hki, hSi, hu⟩; have HU8 := Lib.hid hu; have HSi := Lib.hid hSi; clear hu hSi)
            | (go_at_call 18; (with_reducible refine (KS0.out _ _ _ _ _ HSi.out (HS7.out.up HU8.out)).mono ?_); rintro e w9 ⟨rfl, hu⟩; have HU9 := Lib.hid (HU8.out.trans hu); clear hu))
          go_roundw
          case rel =>
            refine ⟨i + 1, by go_num, by omega, by omega, Lib.hid ⟨h, g, kk, M, B, by rw [HL.out], by rw [HL.out]; exact hkk, ?_, ?_, hh, by rw [HL.out]; exact hM, ?_, hpp, hgg, HOF.out⟩⟩
            · rw [HL.out]; exact HS7.out.up HU9.out
            · rw [HL.out]; exact HR7.out.up HU9.out
            · exact (HU.out.trans (HU5.out.trans V2a.out)).trans HU9.out
          case measure => simp [intOf]; omega
        · have HR7 := Lib.hid (HR5.out.up V2b.out)
          have HS7 := Lib.hid (HS5.out.up V2b.out)
          have a0 := HR7.out.c0
          have a1 := HR7.out.c1
          have a2 := HR7.out.c2
          have a3 := HR7.out.c3
          go_wp2_with (first
            | (go_at_call 19; (with_reducible refine (KI0.out _ HR7.out.bi).mono ?_); rintro e w8 ⟨Ai, ki, rfl, hki, hSi, hu⟩; have HU8 := Lib.hid hu; have HSi := Lib.hid hSi; clear hu hSi)
            | (go_at_call 18; (with_reducible refine (KS0.out _ _ _ _ _ HSi.out (HS7.out.up HU8.out)).mono ?_); rintro e w9 ⟨rfl, hu⟩; have HU9 := Lib.hid (HU8.out.trans hu); clear hu))
          go_roundw
          case rel =>
            refine ⟨i + 1, by go_num, by omega, by omega, Lib.hid ⟨h, g, kk, M, B, by rw [HL.out], by rw [HL.out]; exact hkk, ?_, ?_, hh, by rw [HL.out]; exact hM, ?_, hpp, hgg, HOF.out⟩⟩
            · rw [HL.out]; exact HS7.out.up HU9.out
            · rw [HL.out]; exact HR7.out.up HU9.out
            · exact (HU.out.trans (HU5.out.trans V2b.out)).trans HU9.out
          case measure => simp [intOf]; omega
        · have HR7 := Lib.hid (HR5.out.up V2c.out)
          have HS7 := Lib.hid (HS5.out.up V2c.out)
          have a0 := HR7.out.c0
          have a1 := HR7.out.c1
          have a2 := HR7.out.c2
          have a3 := HR7.out.c3
          go_wp2_with (first
            | (go_at_call 19; (with_reducible refine (KI0.out _ HR7.out.bi).mono ?_); rintro e w8 ⟨Ai, ki, rfl, hki, hSi, hu⟩; have HU8 := Lib.hid hu; have HSi := Lib.hid hSi; clear hu hSi)
            | (go_at_call 18; (with_reducible refine (KS0.out _ _ _ _ _ HSi.out (HS7.out.up HU8.out)).mono ?_); rintro e w9 ⟨rfl, hu⟩; have HU9 := Lib.hid (HU8.out.trans hu); clear hu))
          go_roundw
          case rel =>
            refine ⟨i + 1, by go_num, by omega, by omega, Lib.hid ⟨h, g, kk, M, B, by rw [HL.out], by rw [HL.out]; exact hkk, ?_, ?_, hh, by rw [HL.out]; exact hM, ?_, hpp, hgg, HOF.out⟩⟩
            · rw [HL.out]; exact HS7.out.up HU9.out
            · rw [HL.out]; exact HR7.out.up HU9.out
            · exact (HU.out.trans (HU5.out.trans V2c.out)).trans HU9.out
          case measure => simp [intOf]; omega
    · by_cases hf : l < c
      · have K4 := Lib.hid (fun W (hB : Bi W g (ofL c h M)) => pushFront_good c h c (some ⟨g, 0, none⟩) M x0 x1 c1 (by omega) hh (by rw [HL.out]; exact hM) (by rw [HL.out]; exact hf) W (hB.sl (ofL_length _ _ _)))
        have hh2 : (h + (c - 1)) % c < c := Nat.mod_lt _ (by omega)
        rw [HL.out, show ((l + 1 : Nat) : Int) = (l : Int) + 1 from rfl] at K4
        generalize (h + (c - 1)) % c = h2 at *
        go_upto_region 20 with (first
          | (go_at_call 28; (with_reducible refine (KM.out _).mono ?_); rintro e w' ⟨rfl, rfl⟩)
          | (go_at_call 21; (with_reducible refine (K4.out _ (HRt.out.bi.up (((Up.refl _).alloc _ _).alloc _ _))).mono ?_); rintro e w4 ⟨g4, rfl, hg4, hb4, hu⟩; have HU4 := Lib.hid ((((Up.refl _).alloc _ _).alloc _ _).trans hu); have x0' := hu.keep (wr.heap.size) 0 (.int .i64 x0) (by simp [go_sem]); have x1' := hu.keep (wr.heap.size) 1 (.int .i64 x1) (by simp [go_sem]); have y0' := hu.keep (wr.heap.size + 1) 0 (.int .i64 0) (by simp [go_sem]); have y1' := hu.keep (wr.heap.size + 1) 1 (.int .i64 0) (by simp [go_sem]); have y2' := hu.keep (wr.heap.size + 1) 2 (.int .i64 0) (by simp [go_sem]); have y3' := hu.keep (wr.heap.size + 1) 3 (.slice none 0 0) (by simp [go_sem]); have HR4 := Lib.hid (HRt.out.up HU4.out); have hs4 := hu.size; (try simp at hs4); have fy0 := HU4.out.ownGe (g := wr.heap.size + 1) (by omega) 0; have fy1 := HU4.out.ownGe (g := wr.heap.size + 1) (by omega) 1; have fy2 := HU4.out.ownGe (g := wr.heap.size + 1) (by omega) 2; have fy3 := HU4.out.ownGe (g := wr.heap.size + 1) (by omega) 3; have HB4 := Lib.hid hb4; have hg5 := Blk.lt hb4; clear hb4; (try simp at hg4); clear hu))
        obtain ⟨w5, hw5⟩ : ∃ z, z = (((w4.setCell ⟨wr.heap.size + 1, 0, none⟩ (.int .i64 c)).setCell ⟨wr.heap.size + 1, 1, none⟩ (.int .i64 h2)).setCell ⟨wr.heap.size + 1, 2, none⟩ (.int .i64 ((l : Int) + 1))).setCell ⟨wr.heap.size + 1, 3, none⟩ (.slice (some ⟨g4, 0, none⟩) c c) := ⟨_, rfl⟩
        rw [← hw5]
        have HU5 : Hid (Up wr w5) := Lib.hid (by rw [hw5]; exact HU4.out.set4 (by omega))
        have HR5 : Hid (Rt w5 p g c h l (ofL c h M)) := Lib.hid (by rw [hw5]; exact HR4.out.far4 (by omega) (by omega) _ _ _ _)
        have x0'' : w5.cell? ⟨wr.heap.size, 0, none⟩ = some (.int .i64 x0) := by rw [hw5]; exact far4 x0' (by omega)
        have x1'' : w5.cell? ⟨wr.heap.size, 1, none⟩ = some (.int .i64 x1) := by rw [hw5]; exact far4 x1' (by omega)
        have HY5 : Hid (Rt w5 (wr.heap.size + 1) g4 c h2 (l + 1) (ofL c h2 ((x0, x1) :: M))) := Lib.hid (by rw [hw5]; exact Rt.of_store y0' y1' y2' y3' HB4.out (fun o => HU4.out.ownGe (by omega) o) (by omega) (ofL_length _ _ _))
        have hs5 : w4.heap.size = w5.heap.size := by rw [hw5]; simp [World.setCell]
        have hp5 : p < w5.heap.size := by omega
        have HS5 := Lib.hid (HSl.out.up HU5.out)
        clear hw5 x0' x1' y0' y1' y2' y3' fy0 fy1 fy2 fy3
        have hlen : ((x0, x1) :: M).length = l + 1 := by rw [List.length_cons, HL.out]
        have KI1 := Lib.hid (fun W hB => KI.out W (h2) g4 ((x0, x1) :: M) hh2 (by rw [hlen]; omega) hB)
        rw [hlen] at KI1
        rw [show ((l + 1 : Nat) : Int) = (l : Int) + 1 from rfl] at KI1
        have KS1 := Lib.hid (fun W A B k q hA hB => KSI.out W ((x0, x1) :: M) A B k q (by rw [hlen]; omega) hA hB)
        rw [hlen] at KS1
        have u1 : decide (l + 1 ≤ c) = true := decide_eq_true (by omega)
        have u1' : decide ((l : Int) + 1 ≤ c) = true := decide_eq_true (by omega)
        have u2 : ((l : Int) + 1 != l) = true := by rw [bne_iff_ne]; omega
        have u2' : (l + 1 != l) = true := by rw [bne_iff_ne]; omega
        have HLEN := Lib.hid hlen
        clear hlen
        obtain ⟨v2, w7, r2, o2, u7⟩ := append_run 22 w5 (w5.alloc (.cells #[.int .i64 x0, .int .i64 x1] 35)) (.slice (some ⟨w5.heap.size, 0, none⟩) 1 1) 1 [(x0, x1)] (own_one x0 x1 rfl (Nat.le_refl _)) ((Up.refl _).alloc _ _) B l kk M (HS5.out.up ((Up.refl _).alloc _ _)) (by omega)
        rw [Nat.add_comm 1 l, List.singleton_append] at o2
        obtain ⟨A2, k2, rfl, hk2, s2⟩ := o2.sl
        have HO2 := Lib.hid (o2.off hp5)
        have HS2 := Lib.hid s2
        have H2 := Lib.hid r2
        have V2 := Lib.hid u7
        clear r2 o2 u7 s2
        have HR7 := Lib.hid (HR5.out.up V2.out)
        have HY7 := Lib.hid (HY5.out.up V2.out)
        have a0 := HR7.out.c0
        have b0 := HY7.out.c0
        have fp0 := HR7.out.fz 0
        have a1 := HR7.out.c1
        have b1 := HY7.out.c1
        have fp1 := HR7.out.fz 1
        have a2 := HR7.out.c2
        have b2 := HY7.out.c2
        have fp2 := HR7.out.fz 2
        have a3 := HR7.out.c3
        have b3 := HY7.out.c3
        have fp3 := HR7.out.fz 3
        rw [show ((l + 1 : Nat) : Int) = (l : Int) + 1 from rfl] at b2
        have gp : g4 ≠ p := by omega
        have pg : p ≠ g4 := by omega
        go_wp2_with (first
          | (at_builtin; refine wpList_append_run rfl (.tmp 65) (.tmp 66) _ rfl _ _ rfl rfl _ _ H2.out ?_)
          | (go_at_call 19; (with_reducible refine (KI1.out _ (HY7.out.bi.far4 gp)).mono ?_); rintro e w8 ⟨Ai, ki, rfl, hki, hSi, hu⟩; have HU8 := Lib.hid hu; have HSi := Lib.hid hSi; clear hu hSi)
          | (go_at_call 18; (with_reducible refine (KS1.out _ _ _ _ _ HSi.out ((HS2.out.off4 HO2.out _ _ _ _).up HU8.out)).mono ?_); rintro e w9 ⟨rfl, hu⟩; have HU9 := Lib.hid (HU8.out.trans hu); clear hu))
        go_roundw
        case rel =>
          refine ⟨i + 1, by go_num, by omega, by omega, Lib.hid ⟨h2, g4, k2, (x0, x1) :: M, A2, by rw [HLEN.out], by rw [HLEN.out]; exact hk2, ?_, ?_, hh2, ?_, ?_, hpp, ?_, HO2.out⟩⟩
          · rw [HLEN.out]; exact (HS2.out.off4 HO2.out _ _ _ _).up HU9.out
          · rw [HLEN.out]; exact (Rt.of_store (c := c) (h := h2) (l := l + 1) a0 a1 a2 a3 HY7.out.bi HR7.out.fz pg (ofL_length _ _ _)).up HU9.out
          · rw [HLEN.out]; omega
          · exact ((HU.out.trans (HU5.out.trans V2.out)).set4 hpp).trans HU9.out
          · have := HU.out.size; omega
        case measure => simp [intOf]; omega
      · have K4 := Lib.hid (fun W (hB : Bi W g (ofL c h M)) => pushFront_full c h c (some ⟨g, 0, none⟩) M x0 x1 c1 (by omega) hh (by rw [HL.out]; exact hM) (by rw [HL.out]; omega) W (hB.sl (ofL_length _ _ _)))
        rw [HL.out] at K4
        go_upto_region 20 with (first
          | (go_at_call 28; (with_reducible refine (KM.out _).mono ?_); rintro e w' ⟨rfl, rfl⟩)
          | (go_at_call 21; (with_reducible refine (K4.out _ (HRt.out.bi.up (((Up.refl _).alloc _ _).alloc _ _))).mono ?_); rintro e w4 ⟨rfl, hu⟩; have HU4 := Lib.hid ((((Up.refl _).alloc _ _).alloc _ _).trans hu); have x0' := hu.keep (wr.heap.size) 0 (.int .i64 x0) (by simp [go_sem]); have x1' := hu.keep (wr.heap.size) 1 (.int .i64 x1) (by simp [go_sem]); have y0' := hu.keep (wr.heap.size + 1) 0 (.int .i64 0) (by simp [go_sem]); have y1' := hu.keep (wr.heap.size + 1) 1 (.int .i64 0) (by simp [go_sem]); have y2' := hu.keep (wr.heap.size + 1) 2 (.int .i64 0) (by simp [go_sem]); have y3' := hu.keep (wr.heap.size + 1) 3 (.slice none 0 0) (by simp [go_sem]); have HR4 := Lib.hid (HRt.out.up HU4.out); have hs4 := hu.size; (try simp at hs4); have fy0 := HU4.out.ownGe (g := wr.heap.size + 1) (by omega) 0; have fy1 := HU4.out.ownGe (g := wr.heap.size + 1) (by omega) 1; have fy2 := HU4.out.ownGe (g := wr.heap.size + 1) (by omega) 2; have fy3 := HU4.out.ownGe (g := wr.heap.size + 1) (by omega) 3; clear hu))
        obtain ⟨w5, hw5⟩ : ∃ z, z = (((w4.setCell ⟨wr.heap.size + 1, 0, none⟩ (.int .i64 0)).setCell ⟨wr.heap.size + 1, 1, none⟩ (.int .i64 0)).setCell ⟨wr.heap.size + 1, 2, none⟩ (.int .i64 0)).setCell ⟨wr.heap.size + 1, 3, none⟩ (.slice none 0 0) := ⟨_, rfl⟩
        rw [← hw5]
        have HU5 : Hid (Up wr w5) := Lib.hid (by rw [hw5]; exact HU4.out.set4 (by omega))
        have HR5 : Hid (Rt w5 p g c h l (ofL c h M)) := Lib.hid (by rw [hw5]; exact HR4.out.far4 (by omega) (by omega) _ _ _ _)
        have x0'' : w5.cell? ⟨wr.heap.size, 0, none⟩ = some (.int .i64 x0) := by rw [hw5]; exact far4 x0' (by omega)
        have x1'' : w5.cell? ⟨wr.heap.size, 1, none⟩ = some (.int .i64 x1) := by rw [hw5]; exact far4 x1' (by omega)
        have hs5 : w4.heap.size = w5.heap.size := by rw [hw5]; simp [World.setCell]
        have hp5 : p < w5.heap.size := by omega
        have HS5 := Lib.hid (HSl.out.up HU5.out)
        clear hw5 x0' x1' y0' y1' y2' y3' fy0 fy1 fy2 fy3
        have KI0 := Lib.hid (fun W hB => KI.out W h g M hh (by rw [HL.out]; exact hM) hB)
        rw [HL.out] at KI0
        have KS0 := Lib.hid (fun W A B k q hA hB => KSI.out W M A B k q (by rw [HL.out]; exact hM) hA hB)
        rw [HL.out] at KS0
        have u1 : decide (l + 1 ≤ c) = false := decide_eq_false (by omega)
        have u1' : decide ((l : Int) + 1 ≤ c) = false := decide_eq_false (by omega)
        clear hf
        obtain ⟨v2, w7, r2, o2, u7⟩ := append_run 22 w5 (w5.alloc (.cells #[.int .i64 x0, .int .i64 x1] 35)) (.slice (some ⟨w5.heap.size, 0, none⟩) 1 1) 1 [(x0, x1)] (own_one x0 x1 rfl (Nat.le_refl _)) ((Up.refl _).alloc _ _) B l kk M (HS5.out.up ((Up.refl _).alloc _ _)) (by omega)
        rw [Nat.add_comm 1 l, List.singleton_append] at o2
        obtain ⟨A2, k2, rfl, hk2, s2⟩ := o2.sl
        have HO2 := Lib.hid (o2.off hp5)
        have HS2 := Lib.hid s2
        have H2 := Lib.hid r2
        have V2 := Lib.hid u7
        clear r2 o2 u7 s2
        have HR7 := Lib.hid (HR5.out.up V2.out)
        have HS7 := Lib.hid (HS5.out.up V2.out)
        have a0 := HR7.out.c0
        have a1 := HR7.out.c1
        have a2 := HR7.out.c2
        have a3 := HR7.out.c3
        go_wp2_with (first
          | (at_builtin; refine wpList_append_run rfl (.tmp 65) (.tmp 66) _ rfl _ _ rfl rfl _ _ H2.out ?_)
          | (go_at_call 19; (with_reducible refine (KI0.out _ HR7.out.bi).mono ?_); rintro e w8 ⟨Ai, ki, rfl, hki, hSi, hu⟩; have HU8 := Lib.hid hu; have HSi := Lib.hid hSi; clear hu hSi)
          | (go_at_call 18; (with_reducible refine (KS0.out _ _ _ _ _ HSi.out (HS7.out.up HU8.out)).mono ?_); rintro e w9 ⟨rfl, hu⟩; have HU9 := Lib.hid (HU8.out.trans hu); clear hu))
        go_roundw
        case rel =>
          refine ⟨i + 1, by go_num, by omega, by omega, Lib.hid ⟨h, g, kk, M, B, by rw [HL.out], by rw [HL.out]; exact hkk, ?_, ?_, hh, by rw [HL.out]; exact hM, ?_, hpp, hgg, HOF.out⟩⟩
          · rw [HL.out]; exact HS7.out.up HU9.out
          · rw [HL.out]; exact HR7.out.up HU9.out
          · exact (HU.out.trans (HU5.out.trans V2.out)).trans HU9.out
        case measure => simp [intOf]; omega
    · by_cases hf : l = 0
      · have K4 := Lib.hid (fun W (hB : Bi W g (ofL c h M)) => popFront_empty c h c (some ⟨g, 0, none⟩) M c1 (by omega) hh (by rw [HL.out]; exact hM) (by rw [HL.out]; exact hf) W (hB.sl (ofL_length _ _ _)))
        rw [HL.out] at K4
        have u0 : decide (0 ≤ c) = true := decide_eq_true (by omega)
        have u0' : decide ((0 : Int) ≤ c) = true := decide_eq_true (by omega)
        subst hf
        have e1 : ((0 : Nat) : Int) = 0 := rfl
        rw [e1] at K4 cc2
        clear e1
        go_upto_region 23 with (first
          | (go_at_call 28; (with_reducible refine (KM.out _).mono ?_); rintro e w' ⟨rfl, rfl⟩)
          | (go_at_call 23; (with_reducible refine (K4.out _ (HRt.out.bi.up (((Up.refl _).alloc _ _).alloc _ _))).mono ?_); rintro e w4 ⟨rfl, hu⟩; have HU4 := Lib.hid ((((Up.refl _).alloc _ _).alloc _ _).trans hu); have x0' := hu.keep (wr.heap.size) 0 (.int .i64 x0) (by simp [go_sem]); have x1' := hu.keep (wr.heap.size) 1 (.int .i64 x1) (by simp [go_sem]); have y0' := hu.keep (wr.heap.size + 1) 0 (.int .i64 0) (by simp [go_sem]); have y1' := hu.keep (wr.heap.size + 1) 1 (.int .i64 0) (by simp [go_sem]); have y2' := hu.keep (wr.heap.size + 1) 2 (.int .i64 0) (by simp [go_sem]); have y3' := hu.keep (wr.heap.size + 1) 3 (.slice none 0 0) (by simp [go_sem]); have HR4 := Lib.hid (HRt.out.up HU4.out); have hs4 := hu.size; (try simp at hs4); have fy0 := HU4.out.ownGe (g := wr.heap.size + 1) (by omega) 0; have fy1 := HU4.out.ownGe (g := wr.heap.size + 1) (by omega) 1; have fy2 := HU4.out.ownGe (g := wr.heap.size + 1) (by omega) 2; have fy3 := HU4.out.ownGe (g := wr.heap.size + 1) (by omega) 3; clear hu))
        obtain ⟨w5, hw5⟩ : ∃ z, z = (((w4.setCell ⟨wr.heap.size + 1, 0, none⟩ (.int .i64 0)).setCell ⟨wr.heap.size + 1, 1, none⟩ (.int .i64 0)).setCell ⟨wr.heap.size + 1, 2, none⟩ (.int .i64 0)).setCell ⟨wr.heap.size + 1, 3, none⟩ (.slice none 0 0) := ⟨_, rfl⟩
        rw [← hw5]
        have HU5 : Hid (Up wr w5) := Lib.hid (by rw [hw5]; exact HU4.out.set4 (by omega))
        have HR5 : Hid (Rt w5 p g c h 0 (ofL c h M)) := Lib.hid (by rw [hw5]; exact HR4.out.far4 (by omega) (by omega) _ _ _ _)
        have x0'' : w5.cell? ⟨wr.heap.size, 0, none⟩ = some (.int .i64 x0) := by rw [hw5]; exact far4 x0' (by omega)
        have x1'' : w5.cell? ⟨wr.heap.size, 1, none⟩ = some (.int .i64 x1) := by rw [hw5]; exact far4 x1' (by omega)
        have hs5 : w4.heap.size = w5.heap.size := by rw [hw5]; simp [World.setCell]
        have hp5 : p < w5.heap.size := by omega
        have HS5 := Lib.hid (HSl.out.up HU5.out)
        clear hw5 x0' x1' y0' y1' y2' y3' fy0 fy1 fy2 fy3
        have KI0 := Lib.hid (fun W hB => KI.out W h g M hh (by rw [HL.out]; exact hM) hB)
        rw [HL.out] at KI0
        have KS0 := Lib.hid (fun W A B k q hA hB => KSI.out W M A B k q (by rw [HL.out]; exact hM) hA hB)
        rw [HL.out] at KS0
        rw [show ((0 : Nat) : Int) = 0 from rfl] at KI0
        have V2 := Lib.hid (Up.refl w5)
        have HR7 := Lib.hid (HR5.out.up V2.out)
        have HS7 := Lib.hid (HS5.out.up V2.out)
        have a0 := HR7.out.c0
        have a1 := HR7.out.c1
        have a2 : w5.cell? ⟨p, 2, none⟩ = some (.int .i64 0) := HR7.out.c2
        have a3 := HR7.out.c3
        go_wp2_with (first
          | (go_at_call 19; (with_reducible refine (KI0.out _ HR7.out.bi).mono ?_); rintro e w8 ⟨Ai, ki, rfl, hki, hSi, hu⟩; have HU8 := Lib.hid hu; have HSi := Lib.hid hSi; clear hu hSi)
          | (go_at_call 18; (with_reducible refine (KS0.out _ _ _ _ _ HSi.out (HS7.out.up HU8.out)).mono ?_); rintro e w9 ⟨rfl, hu⟩; have HU9 := Lib.hid (HU8.out.trans hu); clear hu))
        go_roundw
        case rel =>
          refine ⟨i + 1, by go_num, by omega, by omega, Lib.hid ⟨h, g, kk, M, B, by rw [HL.out], by rw [HL.out]; exact hkk, ?_, ?_, hh, by rw [HL.out]; exact hM, ?_, hpp, hgg, HOF.out⟩⟩
          · rw [HL.out]; exact HS7.out.up HU9.out
          · rw [HL.out]; exact HR7.out.up HU9.out
          · exact (HU.out.trans (HU5.out.trans V2.out)).trans HU9.out
        case measure => simp [intOf]; omega
      · obtain ⟨l', rfl⟩ : ∃ l', l = l' + 1 := ⟨l - 1, by omega⟩
        have K4 := Lib.hid (fun W (hB : Bi W g (ofL c h M)) => popFront_good c h c (some ⟨g, 0, none⟩) M c1 (by omega) hh (by rw [HL.out]; exact hM) (by rw [HL.out]; omega) W (hB.sl (ofL_length _ _ _)))
        rw [HL.out, show l' + 1 - 1 = l' by omega, show ((l' + 1 : Nat) : Int) = (l' : Int) + 1 from rfl] at K4
        rw [show ((l' + 1 : Nat) : Int) = (l' : Int) + 1 from rfl] at cc2
        have hh2 : (h + 1) % c < c := Nat.mod_lt _ (by omega)
        generalize (h + 1) % c = h2 at *
        obtain ⟨bb, o', rfl, _, _⟩ := HSl.out.at_ (show 0 < l' + 1 by omega)
        have hbp : bb ≠ p := HOF.out bb o' rfl
        go_upto_region 23 with (first
          | (go_at_call 28; (with_reducible refine (KM.out _).mono ?_); rintro e w' ⟨rfl, rfl⟩)
          | (go_at_call 23; (with_reducible refine (K4.out _ (HRt.out.bi.up (((Up.refl _).alloc _ _).alloc _ _))).mono ?_); rintro e w4 ⟨g4, rfl, hg4, hb4, hu⟩; have HU4 := Lib.hid ((((Up.refl _).alloc _ _).alloc _ _).trans hu); have x0' := hu.keep (wr.heap.size) 0 (.int .i64 x0) (by simp [go_sem]); have x1' := hu.keep (wr.heap.size) 1 (.int .i64 x1) (by simp [go_sem]); have y0' := hu.keep (wr.heap.size + 1) 0 (.int .i64 0) (by simp [go_sem]); have y1' := hu.keep (wr.heap.size + 1) 1 (.int .i64 0) (by simp [go_sem]); have y2' := hu.keep (wr.heap.size + 1) 2 (.int .i64 0) (by simp [go_sem]); have y3' := hu.keep (wr.heap.size + 1) 3 (.slice none 0 0) (by simp [go_sem]); have HR4 := Lib.hid (HRt.out.up HU4.out); have hs4 := hu.size; (try simp at hs4); have fy0 := HU4.out.ownGe (g := wr.heap.size + 1) (by omega) 0; have fy1 := HU4.out.ownGe (g := wr.heap.size + 1) (by omega) 1; have fy2 := HU4.out.ownGe (g := wr.heap.size + 1) (by omega) 2; have fy3 := HU4.out.ownGe (g := wr.heap.size + 1) (by omega) 3; have HB4 := Lib.hid hb4; have hg5 := Blk.lt hb4; clear hb4; (try simp at hg4); clear hu))
        obtain ⟨w5, hw5⟩ : ∃ z, z = (((w4.setCell ⟨wr.heap.size + 1, 0, none⟩ (.int .i64 c)).setCell ⟨wr.heap.size + 1, 1, none⟩ (.int .i64 h2)).setCell ⟨wr.heap.size + 1, 2, none⟩ (.int .i64 l')).setCell ⟨wr.heap.size + 1, 3, none⟩ (.slice (some ⟨g4, 0, none⟩) c c) := ⟨_, rfl⟩
        rw [← hw5]
        have HU5 : Hid (Up wr w5) := Lib.hid (by rw [hw5]; exact HU4.out.set4 (by omega))
        have HR5 : Hid (Rt w5 p g c h (l' + 1) (ofL c h M)) := Lib.hid (by rw [hw5]; exact HR4.out.far4 (by omega) (by omega) _ _ _ _)
        have x0'' : w5.cell? ⟨wr.heap.size, 0, none⟩ = some (.int .i64 x0) := by rw [hw5]; exact far4 x0' (by omega)
        have x1'' : w5.cell? ⟨wr.heap.size, 1, none⟩ = some (.int .i64 x1) := by rw [hw5]; exact far4 x1' (by omega)
        have HY5 : Hid (Rt w5 (wr.heap.size + 1) g4 c h2 l' (ofL c h2 (M.tail))) := Lib.hid (by rw [hw5]; exact Rt.of_store y0' y1' y2' y3' HB4.out (fun o => HU4.out.ownGe (by omega) o) (by omega) (ofL_length _ _ _))
        have hs5 : w4.heap.size = w5.heap.size := by rw [hw5]; simp [World.setCell]
        have hp5 : p < w5.heap.size := by omega
        have HS5 := Lib.hid (HSl.out.up HU5.out)
        clear hw5 x0' x1' y0' y1' y2' y3' fy0 fy1 fy2 fy3
        have hlen : (M.tail).length = l' := by rw [List.length_tail, HL.out]; rfl
        have KI1 := Lib.hid (fun W hB => KI.out W (h2) g4 (M.tail) hh2 (by rw [hlen]; omega) hB)
        rw [hlen] at KI1
        have KS1 := Lib.hid (fun W A B k q hA hB => KSI.out W (M.tail) A B k q (by rw [hlen]; omega) hA hB)
        rw [hlen] at KS1
        have u1 : decide (l' ≤ c) = true := decide_eq_true (by omega)
        have u1' : decide ((l' : Int) ≤ c) = true := decide_eq_true (by omega)
        have u2 : ((l' : Int) != (l' : Int) + 1) = true := by rw [bne_iff_ne]; omega
        have u2' : (l' != l' + 1) = true := by rw [bne_iff_ne]; omega
        have HLEN := Lib.hid hlen
        have V2 := Lib.hid (Up.refl w5)
        have z0 : ¬ kk = 0 := by omega
        have z1 : (l' : Int) ≤ kk := by omega
        have z2 : (0 : Int) ≤ l' := by omega
        have z3 : (1 : Int) ≤ (l' : Int) + 1 := by omega
        clear hlen
        have HTT : Hid (Sl w5 (if kk = 1 then some ⟨bb, o', none⟩ else (some (⟨bb, o', none⟩ : Addr)).map (·.add (1 * 2))) l' M.tail) := Lib.hid (by have := HS5.out.cut (k := 1) (cap := kk) (by omega) hkk; rw [List.drop_one] at this; exact this)
        by_cases hk1 : kk = 1
        · subst hk1
          rw [if_pos rfl] at HTT
          have z4 : (l' : Int) ≤ 1 := by omega
          have HO2 : Hid (∀ b o, some (⟨bb, o', none⟩ : Addr) = some ⟨b, o, none⟩ → b ≠ p) := Lib.hid (by intro b o e; injection e with e; injection e with e1; rw [← e1]; exact hbp)
          have HK2 : Hid (l' ≤ 0) := Lib.hid (by omega)
          clear hkk
          have HR7 := Lib.hid (HR5.out.up V2.out)
          have HY7 := Lib.hid (HY5.out.up V2.out)
          have a0 := HR7.out.c0
          have b0 := HY7.out.c0
          have fp0 := HR7.out.fz 0
          have a1 := HR7.out.c1
          have b1 := HY7.out.c1
          have fp1 := HR7.out.fz 1
          have a2 : w5.cell? ⟨p, 2, none⟩ = some (.int .i64 ((l' : Int) + 1)) := HR7.out.c2
          have b2 := HY7.out.c2
          have fp2 := HR7.out.fz 2
          have a3 := HR7.out.c3
          have b3 := HY7.out.c3
          have fp3 := HR7.out.fz 3
          have gp : g4 ≠ p := by omega
          have pg : p ≠ g4 := by omega
          go_wp2_with (first
            | (go_at_call 19; (with_reducible refine (KI1.out _ (HY7.out.bi.far4 gp)).mono ?_); rintro e w8 ⟨Ai, ki, rfl, hki, hSi, hu⟩; have HU8 := Lib.hid hu; have HSi := Lib.hid hSi; clear hu hSi)
            | (go_at_call 18; (with_reducible refine (KS1.out _ _ _ _ _ HSi.out ((HTT.out.off4 HO2.out _ _ _ _).up HU8.out)).mono ?_); rintro e w9 ⟨rfl, hu⟩; have HU9 := Lib.hid (HU8.out.trans hu); clear hu))
          go_roundw
          case rel =>
            refine ⟨i + 1, by go_num, by omega, by omega, Lib.hid ⟨h2, g4, 0, M.tail, (some ⟨bb, o', none⟩), by rw [HLEN.out], by rw [HLEN.out]; exact HK2.out, ?_, ?_, hh2, ?_, ?_, hpp, ?_, HO2.out⟩⟩
            · rw [HLEN.out]; exact (HTT.out.off4 HO2.out _ _ _ _).up HU9.out
            · rw [HLEN.out]; exact (Rt.of_store (c := c) (h := h2) (l := l') a0 a1 a2 a3 HY7.out.bi HR7.out.fz pg (ofL_length _ _ _)).up HU9.out
            · rw [HLEN.out]; omega
            · exact ((HU.out.trans (HU5.out.trans V2.out)).set4 hpp).trans HU9.out
            · have := HU.out.size; omega
          case measure => simp [intOf]; omega
        · rw [if_neg hk1] at HTT
          have HT2 : Hid (Sl w5 (some ⟨bb, o' + 2, none⟩) l' M.tail) := Lib.hid (by have := HTT.out; simpa [add_at] using this)
          clear HTT
          have HO2 : Hid (∀ b o, some (⟨bb, o' + 2, none⟩ : Addr) = some ⟨b, o, none⟩ → b ≠ p) := Lib.hid (by intro b o e; injection e with e; injection e with e1; rw [← e1]; exact hbp)
          have hk2 : l' ≤ kk - 1 := by omega
          have HR7 := Lib.hid (HR5.out.up V2.out)
          have HY7 := Lib.hid (HY5.out.up V2.out)
          have a0 := HR7.out.c0
          have b0 := HY7.out.c0
          have fp0 := HR7.out.fz 0
          have a1 := HR7.out.c1
          have b1 := HY7.out.c1
          have fp1 := HR7.out.fz 1
          have a2 : w5.cell? ⟨p, 2, none⟩ = some (.int .i64 ((l' : Int) + 1)) := HR7.out.c2
          have b2 := HY7.out.c2
          have fp2 := HR7.out.fz 2
          have a3 := HR7.out.c3
          have b3 := HY7.out.c3
          have fp3 := HR7.out.fz 3
          have gp : g4 ≠ p := by omega
          have pg : p ≠ g4 := by omega
          go_wp2_with (first
            | (go_at_call 19; (with_reducible refine (KI1.out _ (HY7.out.bi.far4 gp)).mono ?_); rintro e w8 ⟨Ai, ki, rfl, hki, hSi, hu⟩; have HU8 := Lib.hid hu; have HSi := Lib.hid hSi; clear hu hSi)
            | (go_at_call 18; (with_reducible refine (KS1.out _ _ _ _ _ HSi.out ((HT2.out.off4 HO2.out _ _ _ _).up HU8.out)).mono ?_); rintro e w9 ⟨rfl, hu⟩; have HU9 := Lib.hid (HU8.out.trans hu); clear hu))
          go_roundw
          case rel =>
            refine ⟨i + 1, by go_num, by omega, by omega, Lib.hid ⟨h2, g4, (kk - 1), M.tail, (some ⟨bb, o' + 2, none⟩), by rw [HLEN.out], by rw [HLEN.out]; exact hk2, ?_, ?_, hh2, ?_, ?_, hpp, ?_, HO2.out⟩⟩
            · rw [HLEN.out]; exact (HT2.out.off4 HO2.out _ _ _ _).up HU9.out
            · rw [HLEN.out]; exact (Rt.of_store (c := c) (h := h2) (l := l') a0 a1 a2 a3 HY7.out.bi HR7.out.fz pg (ofL_length _ _ _)).up HU9.out
            · rw [HLEN.out]; omega
            · exact ((HU.out.trans (HU5.out.trans V2.out)).set4 hpp).trans HU9.out
            · have := HU.out.size; omega
          case measure => simp [intOf]; omega
    · by_cases hf : l = 0
      · have K4 := Lib.hid (fun W (hB : Bi W g (ofL c h M)) => popBack_empty c h c (some ⟨g, 0, none⟩) M c1 (by omega) hh (by rw [HL.out]; exact hM) (by rw [HL.out]; exact hf) W (hB.sl (ofL_length _ _ _)))
        rw [HL.out] at K4
        have u0 : decide (0 ≤ c) = true := decide_eq_true (by omega)
        have u0' : decide ((0 : Int) ≤ c) = true := decide_eq_true (by omega)
        subst hf
        have e1 : ((0 : Nat) : Int) = 0 := rfl
        rw [e1] at K4 cc2
        clear e1
        go_upto_region 26 with (first
          | (go_at_call 28; (with_reducible refine (KM.out _).mono ?_); rintro e w' ⟨rfl, rfl⟩)
          | (go_at_call 24; (with_reducible refine (K4.out _ (HRt.out.bi.up (((Up.refl _).alloc _ _).alloc _ _))).mono ?_); rintro e w4 ⟨rfl, hu⟩; have HU4 := Lib.hid ((((Up.refl _).alloc _ _).alloc _ _).trans hu); have x0' := hu.keep (wr.heap.size) 0 (.int .i64 x0) (by simp [go_sem]); have x1' := hu.keep (wr.heap.size) 1 (.int .i64 x1) (by simp [go_sem]); have y0' := hu.keep (wr.heap.size + 1) 0 (.int .i64 0) (by simp [go_sem]); have y1' := hu.keep (wr.heap.size + 1) 1 (.int .i64 0) (by simp [go_sem]); have y2' := hu.keep (wr.heap.size + 1) 2 (.int .i64 0) (by simp [go_sem]); have y3' := hu.keep (wr.heap.size + 1) 3 (.slice none 0 0) (by simp [go_sem]); have HR4 := Lib.hid (HRt.out.up HU4.out); have hs4 := hu.size; (try simp at hs4); have fy0 := HU4.out.ownGe (g := wr.heap.size + 1) (by omega) 0; have fy1 := HU4.out.ownGe (g := wr.heap.size + 1) (by omega) 1; have fy2 := HU4.out.ownGe (g := wr.heap.size + 1) (by omega) 2; have fy3 := HU4.out.ownGe (g := wr.heap.size + 1) (by omega) 3; clear hu))
        obtain ⟨w5, hw5⟩ : ∃ z, z = (((w4.setCell ⟨wr.heap.size + 1, 0, none⟩ (.int .i64 0)).setCell ⟨wr.heap.size + 1, 1, none⟩ (.int .i64 0)).setCell ⟨wr.heap.size + 1, 2, none⟩ (.int .i64 0)).setCell ⟨wr.heap.size + 1, 3, none⟩ (.slice none 0 0) := ⟨_, rfl⟩
        rw [← hw5]
        have HU5 : Hid (Up wr w5) := Lib.hid (by rw [hw5]; exact HU4.out.set4 (by omega))
        have HR5 : Hid (Rt w5 p g c h 0 (ofL c h M)) := Lib.hid (by rw [hw5]; exact HR4.out.far4 (by omega) (by omega) _ _ _ _)
        have x0'' : w5.cell? ⟨wr.heap.size, 0, none⟩ = some (.int .i64 x0) := by rw [hw5]; exact far4 x0' (by omega)
        have x1'' : w5.cell? ⟨wr.heap.size, 1, none⟩ = some (.int .i64 x1) := by rw [hw5]; exact far4 x1' (by omega)
        have hs5 : w4.heap.size = w5.heap.size := by rw [hw5]; simp [World.setCell]
        have hp5 : p < w5.heap.size := by omega
        have HS5 := Lib.hid (HSl.out.up HU5.out)
        clear hw5 x0' x1' y0' y1' y2' y3' fy0 fy1 fy2 fy3
        have KI0 := Lib.hid (fun W hB => KI.out W h g M hh (by rw [HL.out]; exact hM) hB)
        rw [HL.out] at KI0
        have KS0 := Lib.hid (fun W A B k q hA hB => KSI.out W M A B k q (by rw [HL.out]; exact hM) hA hB)
        rw [HL.out] at KS0
        rw [show ((0 : Nat) : Int) = 0 from rfl] at KI0
        have V2 := Lib.hid (Up.refl w5)
        have HR7 := Lib.hid (HR5.out.up V2.out)
        have HS7 := Lib.hid (HS5.out.up V2.out)
        have a0 := HR7.out.c0
        have a1 := HR7.out.c1
        have a2 : w5.cell? ⟨p, 2, none⟩ = some (.int .i64 0) := HR7.out.c2
        have a3 := HR7.out.c3
        go_wp2_with (first
          | (go_at_call 19; (with_reducible refine (KI0.out _ HR7.out.bi).mono ?_); rintro e w8 ⟨Ai, ki, rfl, hki, hSi, hu⟩; have HU8 := Lib.hid hu; have HSi := Lib.hid hSi; clear hu hSi)
          | (go_at_call 18; (with_reducible refine (KS0.out _ _ _ _ _ HSi.out (HS7.out.up HU8.out)).mono ?_); rintro e w9 ⟨rfl, hu⟩; have HU9 := Lib.hid (HU8.out.trans hu); clear hu))
        go_roundw
        case rel =>
          refine ⟨i + 1, by go_num, by omega, by omega, Lib.hid ⟨h, g, kk, M, B, by rw [HL.out], by rw [HL.out]; exact hkk, ?_, ?_, hh, by rw [HL.out]; exact hM, ?_, hpp, hgg, HOF.out⟩⟩
          · rw [HL.out]; exact HS7.out.up HU9.out
          · rw [HL.out]; exact HR7.out.up HU9.out
          · exact (HU.out.trans (HU5.out.trans V2.out)).trans HU9.out
        case measure => simp [intOf]; omega
      · obtain ⟨l', rfl⟩ : ∃ l', l = l' + 1 := ⟨l - 1, by omega⟩
        have K4 := Lib.hid (fun W (hB : Bi W g (ofL c h M)) => popBack_good c h c (some ⟨g, 0, none⟩) M c1 (by omega) hh (by rw [HL.out]; exact hM) (by rw [HL.out]; omega) W (hB.sl (ofL_length _ _ _)))
        rw [HL.out, show l' + 1 - 1 = l' by omega, show ((l' + 1 : Nat) : Int) = (l' : Int) + 1 from rfl] at K4
        rw [show ((l' + 1 : Nat) : Int) = (l' : Int) + 1 from rfl] at cc2
        obtain ⟨bb, o', rfl, _, _⟩ := HSl.out.at_ (show 0 < l' + 1 by omega)
        have hbp : bb ≠ p := HOF.out bb o' rfl
        go_upto_region 26 with (first
          | (go_at_call 28; (with_reducible refine (KM.out _).mono ?_); rintro e w' ⟨rfl, rfl⟩)
          | (go_at_call 24; (with_reducible refine (K4.out _ (HRt.out.bi.up (((Up.refl _).alloc _ _).alloc _ _))).mono ?_); rintro e w4 ⟨g4, rfl, hg4, hb4, hu⟩; have HU4 := Lib.hid ((((Up.refl _).alloc _ _).alloc _ _).trans hu); have x0' := hu.keep (wr.heap.size) 0 (.int .i64 x0) (by simp [go_sem]); have x1' := hu.keep (wr.heap.size) 1 (.int .i64 x1) (by simp [go_sem]); have y0' := hu.keep (wr.heap.size + 1) 0 (.int .i64 0) (by simp [go_sem]); have y1' := hu.keep (wr.heap.size + 1) 1 (.int .i64 0) (by simp [go_sem]); have y2' := hu.keep (wr.heap.size + 1) 2 (.int .i64 0) (by simp [go_sem]); have y3' := hu.keep (wr.heap.size + 1) 3 (.slice none 0 0) (by simp [go_sem]); have HR4 := Lib.hid (HRt.out.up HU4.out); have hs4 := hu.size; (try simp at hs4); have fy0 := HU4.out.ownGe (g := wr.heap.size + 1) (by omega) 0; have fy1 := HU4.out.ownGe (g := wr.heap.size + 1) (by omega) 1; have fy2 := HU4.out.ownGe (g := wr.heap.size + 1) (by omega) 2; have fy3 := HU4.out.ownGe (g := wr.heap.size + 1) (by omega) 3; have HB4 := Lib.hid hb4; have hg5 := Blk.lt hb4; clear hb4; (try simp at hg4); clear hu))
        obtain ⟨w5, hw5⟩ : ∃ z, z = (((w4.setCell ⟨wr.heap.size + 1, 0, none⟩ (.int .i64 c)).setCell ⟨wr.heap.size + 1, 1, none⟩ (.int .i64 h)).setCell ⟨wr.heap.size + 1, 2, none⟩ (.int .i64 l')).setCell ⟨wr.heap.size + 1, 3, none⟩ (.slice (some ⟨g4, 0, none⟩) c c) := ⟨_, rfl⟩
        rw [← hw5]
        have HU5 : Hid (Up wr w5) := Lib.hid (by rw [hw5]; exact HU4.out.set4 (by omega))
        have HR5 : Hid (Rt w5 p g c h (l' + 1) (ofL c h M)) := Lib.hid (by rw [hw5]; exact HR4.out.far4 (by omega) (by omega) _ _ _ _)
        have x0'' : w5.cell? ⟨wr.heap.size, 0, none⟩ = some (.int .i64 x0) := by rw [hw5]; exact far4 x0' (by omega)
        have x1'' : w5.cell? ⟨wr.heap.size, 1, none⟩ = some (.int .i64 x1) := by rw [hw5]; exact far4 x1' (by omega)
        have HY5 : Hid (Rt w5 (wr.heap.size + 1) g4 c h l' (ofL c h (M.take l'))) := Lib.hid (by rw [hw5]; exact Rt.of_store y0' y1' y2' y3' HB4.out (fun o => HU4.out.ownGe (by omega) o) (by omega) (ofL_length _ _ _))
        have hs5 : w4.heap.size = w5.heap.size := by rw [hw5]; simp [World.setCell]
        have hp5 : p < w5.heap.size := by omega
        have HS5 := Lib.hid (HSl.out.up HU5.out)
        clear hw5 x0' x1' y0' y1' y2' y3' fy0 fy1 fy2 fy3
        have hlen : (M.take l').length = l' := by rw [List.length_take, HL.out]; omega
        have KI1 := Lib.hid (fun W hB => KI.out W (h) g4 (M.take l') hh (by rw [hlen]; omega) hB)
        rw [hlen] at KI1
        have KS1 := Lib.hid (fun W A B k q hA hB => KSI.out W (M.take l') A B k q (by rw [hlen]; omega) hA hB)
        rw [hlen] at KS1
        have u1 : decide (l' ≤ c) = true := decide_eq_true (by omega)
        have u1' : decide ((l' : Int) ≤ c) = true := decide_eq_true (by omega)
        have u2 : ((l' : Int) != (l' : Int) + 1) = true := by rw [bne_iff_ne]; omega
        have u2' : (l' != l' + 1) = true := by rw [bne_iff_ne]; omega
        have HLEN := Lib.hid hlen
        have V2 := Lib.hid (Up.refl w5)
        have z0 : ¬ kk = 0 := by omega
        have z1 : (l' : Int) ≤ kk := by omega
        have z2 : (0 : Int) ≤ l' := by omega
        have z3 : (1 : Int) ≤ (l' : Int) + 1 := by omega
        clear hlen
        have HT2 : Hid (Sl w5 (some ⟨bb, o', none⟩) l' (M.take l')) := Lib.hid (HS5.out.first (by omega))
        have HO2 : Hid (∀ b o, some (⟨bb, o', none⟩ : Addr) = some ⟨b, o, none⟩ → b ≠ p) := Lib.hid (by intro b o e; injection e with e; injection e with e1; rw [← e1]; exact hbp)
        have hk2 : l' ≤ kk := by omega
        have KS1z : Hid (∀ W A B k q, l' = 0 → Sl W A l' (M.take l') → Sl W B l' (M.take l') → Calls Try.prog 18 #[.slice A l' k, .slice B 0 q] W fun e w' => e = .returned (.bool true) ∧ Up W w') := Lib.hid (fun W A B k q e hA hB => by have h := KS1.out W A B k q hA hB; rw [e] at h ⊢; exact h)
        have u3 : ((0 : Int) != (l' : Int) + 1) = true := by rw [bne_iff_ne]; omega
        have u3' : (0 != l' + 1) = true := by rw [bne_iff_ne]; omega
        have HR7 := Lib.hid (HR5.out.up V2.out)
        have HY7 := Lib.hid (HY5.out.up V2.out)
        have a0 := HR7.out.c0
        have b0 := HY7.out.c0
        have fp0 := HR7.out.fz 0
        have a1 := HR7.out.c1
        have b1 := HY7.out.c1
        have fp1 := HR7.out.fz 1
        have a2 : w5.cell? ⟨p, 2, none⟩ = some (.int .i64 ((l' : Int) + 1)) := HR7.out.c2
        have b2 := HY7.out.c2
        have fp2 := HR7.out.fz 2
        have a3 := HR7.out.c3
        have b3 := HY7.out.c3
        have fp3 := HR7.out.fz 3
        have gp : g4 ≠ p := by omega
        have pg : p ≠ g4 := by omega
        go_wp2_with (first
          | (go_at_call 19; (with_reducible refine (KI1.out _ (HY7.out.bi.far4 gp)).mono ?_); rintro e w8 ⟨Ai, ki, rfl, hki, hSi, hu⟩; have HU8 := Lib.hid hu; have HSi := Lib.hid hSi; clear hu hSi)
          | (go_at_call 18; (with_reducible refine (KS1.out _ _ _ _ _ HSi.out ((HT2.out.off4 HO2.out _ _ _ _).up HU8.out)).mono ?_); rintro e w9 ⟨rfl, hu⟩; have HU9 := Lib.hid (HU8.out.trans hu); clear hu)
          | (go_at_call 18; (with_reducible refine (KS1z.out _ _ _ _ _ (by omega) HSi.out ((HT2.out.off4 HO2.out _ _ _ _).up HU8.out)).mono ?_); rintro e w9 ⟨rfl, hu⟩; have HU9 := Lib.hid (HU8.out.trans hu); clear hu))
        all_goals
          go_roundw
          case rel =>
            refine ⟨i + 1, by go_num, by omega, by omega, Lib.hid ⟨h, g4, kk, M.take l', (some ⟨bb, o', none⟩), (by first | (rw [HLEN.out]; done) | (rw [HLEN.out, show l' = 0 by omega])), by rw [HLEN.out]; exact hk2, ?_, ?_, hh, ?_, ?_, hpp, ?_, HO2.out⟩⟩
            · rw [HLEN.out]; exact (HT2.out.off4 HO2.out _ _ _ _).up HU9.out
            · rw [HLEN.out]; exact (Rt.of_store (c := c) (h := h) (l := l') a0 a1 a2 a3 HY7.out.bi HR7.out.fz pg (ofL_length _ _ _)).up HU9.out
            · rw [HLEN.out]; omega
            · exact ((HU.out.trans (HU5.out.trans V2.out)).set4 hpp).trans HU9.out
            · have := HU.out.size; omega
          case measure => simp [intOf]; omega

set_option maxRecDepth 100000 in
theorem ringQueue_lifted (os : Os) (started : os.Started) (H : Type) (enc : TypeId × Value → H) :
    ReturnsInHanded {} Try.checked os 9 .any (Rows.ringQueueSpec.pre6 enc Try.prog Try.f9 Rows.ringQueueRow.domain false) (Rows.ringQueueSpec.post enc Try.prog Try.f9 false true false false) := by
  refine returnsInHanded_of_change (C := Try.checked) ringQueue_own started (by kernel_rfl) Try.func9
    (ChangeSpec.witness6 (enc := enc) (C := Try.checked) false ⟨#[], #[.int .i64 0, .slice none 0 0], []⟩ 8 (by kernel_rfl) (by kernel_rfl) (by kernel_rfl) (by kernel_rfl)) ?_
  intro W base args ds gs before hval0 hW hcnd _
  have hval : ∀ (j : Nat) t v, Try.f9.params[j]? = some t → args[j]? = some v → Value.okWide Try.prog W .any base t v := hval0
  have hW' := hW
  obtain ⟨p, q, hA0, hV, rfl, hfz, hnd⟩ := hW'
  have hA : DataW.TrodAll enc Try.prog W 0 (fun _ => true) true Try.f9.params.toList args.toList ds p := hA0
  rw [Try.params9] at hA hval
  obtain ⟨v0, vs0, d0, ds0, p0, q0, hargs, rfl, rfl, h0, r0⟩ := trodAll_cons hA
  obtain ⟨v1, vs1, d1, ds1, p1, q1, rfl, rfl, rfl, h1, r1⟩ := trodAll_cons r0
  obtain ⟨rfl, rfl, rfl⟩ := trodAll_nil r1
  obtain rfl : args = #[v0, v1] := by cases args; simp_all
  obtain ⟨rfl, rfl⟩ := trodVars_none hV
  have hlt := fun x hx => hW.lt x hx
  have k0 := h0
  obtain ⟨a0, rfl, rfl, rfl, w0⟩ := open_int Try.underlying3 (hval 0 3 v0 rfl rfl) h0
  have k1 := h1
  obtain ⟨n1, m1, A1, L1, rfl, hk1, hS1⟩ := open_items (hval 1 22 v1 rfl rfl) h1
  refine (ringQueue_walk a0 w0 n1 m1 A1 L1 hk1 W hS1).mono fun e W' ⟨he, hg⟩ => ?_
  subst he
  exact ⟨_, rfl, post_of_same (pv := []) hW (fun _ _ _ => (trodAll_cons_mk (shut_bool Try.underlying4 _) trodAll_mk0)) (fun sp hsp => (trodAll_cons_mk (stay (by kernel_rfl) (of_decide_eq_true (by kernel_rfl)) k0 hg hlt (fun x hx => by first | (simp at hx; done) | simp [hx]) hsp) (trodAll_cons_mk (stay (by kernel_rfl) (of_decide_eq_true (by kernel_rfl)) k1 hg hlt (fun x hx => by first | (simp at hx; done) | simp [hx]) hsp) trodAll_mk0))) (fun _ _ => rfl) rfl
    (hg.grown.frame _) hg.grown.2.1 (ok_one (by kernel_rfl) rfl (okWide_bool_mk Try.underlying4 _))⟩

theorem ringQueue_over : Rows.ringQueueRow.holds Try.pinned (OpenSpec.ofChange Rows.ringQueueSpec) :=
  OpenClaim.holds_of_wide 9 Try.f9 rfl rfl rfl rfl rfl rfl rfl ⟨rfl, rfl, rfl, rfl, rfl⟩ rfl rfl rfl rfl rfl (by kernel_rfl) Try.func9 (by kernel_rfl)
    (of_decide_eq_true (by kernel_rfl)) (by unfold Func.isWrapper; first | (rw [if_pos (by decide +kernel)]; kernel_rfl) | (rw [if_neg (by decide +kernel)]; exact ⟨rfl, rfl⟩))
    (fun os started H enc _ => ringQueue_lifted os started H enc)

theorem ringQueue_holds : Rows.RingQueueSaid :=
  ringQueue_over
#print axioms ringQueue_holds
end Go.Proofs.Ytjedcpfipebncaa
