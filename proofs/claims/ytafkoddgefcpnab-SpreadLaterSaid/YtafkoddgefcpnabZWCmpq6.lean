/- What the comparisons of package wide, and of its reference, return; isZero, Of, and the reference's difference. -/
import Derived.Test.YtafkoddgefcpnabRows
import Derived.Test.YtafkoddgefcpnabZWAddq5
namespace Go.Proofs.Ytafkoddgefcpnab
open Go.RowKit

theorem cmpZ_hi {ah al bh bl : Int} (h2 : Word al) (h4 : Word bl) (h : ah ≠ bh) : cmpZ (val ah al) (val bh bl) = cmpZ ah bh := by
  obtain ⟨b1, b2⟩ := h2; obtain ⟨d1, d2⟩ := h4
  by_cases hl : ah < bh
  · rw [cmpZ_lt hl, cmpZ_lt (by unfold val; omega)]
  · rw [cmpZ_gt (show bh < ah by omega), cmpZ_gt (by unfold val; omega)]
theorem cmpZ_lo {ah al bl : Int} : cmpZ (val ah al) (val ah bl) = cmpZ al bl := by
  by_cases hl : al < bl
  · rw [cmpZ_lt hl, cmpZ_lt (by unfold val; omega)]
  · by_cases he : al = bl
    · rw [cmpZ_eq he, cmpZ_eq (by unfold val; omega)]
    · rw [cmpZ_gt (show bl < al by omega), cmpZ_gt (by unfold val; omega)]

/-- A number is 0. -/
def zB (v : Int) : Bool := decide (v = 0)
theorem zB_yes {v : Int} (h : v = 0) : zB v = true := by unfold zB; exact decide_eq_true h
theorem zB_no {v : Int} (h : v ≠ 0) : zB v = false := by unfold zB; exact decide_eq_false h

theorem of_up (n : Int) (w : World) : Calls Try.prog 27 #[.int .u64 n] w fun e w' => e = .returned (.agg #[.int .u64 0, .int .u64 n]) ∧ Up w w' := by
  go_enter Try.func27, Try.ntmps27
  go_wp2
  refine bodyPost_ret (v := .agg #[.int .u64 0, .int .u64 n]) (by simp [results, Try.results27, go_sem]) rfl ⟨?_, ?_⟩
  · rfl
  · repeat (first | exact Up.refl _ | refine Up.alloc ?_ _ _ | refine Up.setCell ?_ (by first | (simp; done) | (simp; omega) | omega) _ | refine Up.drewN ?_ _ | refine Up.drew ?_)

theorem rof_up (n : Int) (w : World) : Calls Try.prog 32 #[.int .u64 n] w fun e w' => e = .returned (.agg #[.int .u64 0, .int .u64 n]) ∧ Up w w' := by
  go_enter Try.func32, Try.ntmps32
  go_wp2
  refine bodyPost_ret (v := .agg #[.int .u64 0, .int .u64 n]) (by simp [results, Try.results32, go_sem]) rfl ⟨?_, ?_⟩
  · rfl
  · repeat (first | exact Up.refl _ | refine Up.alloc ?_ _ _ | refine Up.setCell ?_ (by first | (simp; done) | (simp; omega) | omega) _ | refine Up.drewN ?_ _ | refine Up.drew ?_)

theorem isZero_up (ah al : Int) (h1 : Word ah) (h2 : Word al) (w : World) :
    Calls Try.prog 68 #[.agg #[.int .u64 ah, .int .u64 al]] w fun e w' => e = .returned (.bool (zB (val ah al))) ∧ Up w w' := by
  obtain ⟨a1, a2⟩ := h1; obtain ⟨b1, b2⟩ := h2
  by_cases ha : ah = 0
  · by_cases hl : al = 0
    · have t1 : (ah == 0) = true := beq_iff_eq.2 ha
      have t2 : (al == 0) = true := beq_iff_eq.2 hl
      have H := Lib.hid (zB_yes (show val ah al = 0 by unfold val; omega))
      clear ha hl
      go_enter Try.func68, Try.ntmps68
      go_wp2
      go_ret
      refine ⟨by rw [H.out]; rfl, ?_⟩
      repeat (first | exact Up.refl _ | refine Up.alloc ?_ _ _ | refine Up.setCell ?_ (by first | (simp; done) | (simp; omega) | omega) _ | refine Up.drewN ?_ _ | refine Up.drew ?_)
    · have t1 : (ah == 0) = true := beq_iff_eq.2 ha
      have t2 : (al == 0) = false := beq_eq_false_iff_ne.2 hl
      have H := Lib.hid (zB_no (show val ah al ≠ 0 by unfold val; omega))
      clear ha hl
      go_enter Try.func68, Try.ntmps68
      go_wp2
      go_ret
      refine ⟨by rw [H.out]; rfl, ?_⟩
      repeat (first | exact Up.refl _ | refine Up.alloc ?_ _ _ | refine Up.setCell ?_ (by first | (simp; done) | (simp; omega) | omega) _ | refine Up.drewN ?_ _ | refine Up.drew ?_)
  · have t1 : (ah == 0) = false := beq_eq_false_iff_ne.2 ha
    have H := Lib.hid (zB_no (show val ah al ≠ 0 by unfold val; omega))
    clear ha
    go_enter Try.func68, Try.ntmps68
    go_wp2
    go_ret
    refine ⟨by rw [H.out]; rfl, ?_⟩
    repeat (first | exact Up.refl _ | refine Up.alloc ?_ _ _ | refine Up.setCell ?_ (by first | (simp; done) | (simp; omega) | omega) _ | refine Up.drewN ?_ _ | refine Up.drew ?_)

theorem compare_up (ah al bh bl : Int) (_ : Word ah) (h2 : Word al) (_ : Word bh) (h4 : Word bl) (w : World) :
    Calls Try.prog 30 #[.agg #[.int .u64 ah, .int .u64 al], .agg #[.int .u64 bh, .int .u64 bl]] w fun e w' =>
      e = .returned (.int .i64 (cmpZ (val ah al) (val bh bl))) ∧ Up w w' := by
  by_cases ha : ah = bh
  · subst ha
    have H := Lib.hid (cmpZ_lo (ah := ah) (al := al) (bl := bl))
    by_cases hl : al = bl
    · subst hl
      have H2 := Lib.hid (cmpZ_eq (x := al) rfl)
      go_enter Try.func30, Try.ntmps30
      go_wp2
      go_ret
      refine ⟨by rw [H.out, H2.out]; rfl, ?_⟩
      repeat (first | exact Up.refl _ | refine Up.alloc ?_ _ _ | refine Up.setCell ?_ (by first | (simp; done) | (simp; omega) | omega) _ | refine Up.drewN ?_ _ | refine Up.drew ?_)
    · have t2 : (al == bl) = false := beq_eq_false_iff_ne.2 hl
      clear hl
      go_enter Try.func30, Try.ntmps30
      go_wp2_with (refine (cmp_u64 _ _ _).mono ?_; rintro e w' ⟨rfl, rfl⟩)
      go_ret
      refine ⟨by rw [H.out]; rfl, ?_⟩
      repeat (first | exact Up.refl _ | refine Up.alloc ?_ _ _ | refine Up.setCell ?_ (by first | (simp; done) | (simp; omega) | omega) _ | refine Up.drewN ?_ _ | refine Up.drew ?_)
  · have H := Lib.hid (cmpZ_hi h2 h4 ha)
    have t1 : (ah == bh) = false := beq_eq_false_iff_ne.2 ha
    have t2 : (ah != bh) = true := bne_iff_ne.2 ha
    clear ha
    go_enter Try.func30, Try.ntmps30
    go_wp2_with (refine (cmp_u64 _ _ _).mono ?_; rintro e w' ⟨rfl, rfl⟩)
    go_ret
    refine ⟨by rw [H.out]; rfl, ?_⟩
    repeat (first | exact Up.refl _ | refine Up.alloc ?_ _ _ | refine Up.setCell ?_ (by first | (simp; done) | (simp; omega) | omega) _ | refine Up.drewN ?_ _ | refine Up.drew ?_)

theorem rcompare_up (ah al bh bl : Int) (_ : Word ah) (h2 : Word al) (_ : Word bh) (h4 : Word bl) (w : World) :
    Calls Try.prog 61 #[.agg #[.int .u64 ah, .int .u64 al], .agg #[.int .u64 bh, .int .u64 bl]] w fun e w' =>
      e = .returned (.int .i64 (cmpZ (val ah al) (val bh bl))) ∧ Up w w' := by
  by_cases ha : ah = bh
  · subst ha
    have H := Lib.hid (cmpZ_lo (ah := ah) (al := al) (bl := bl))
    by_cases hl : al < bl
    · have H2 := Lib.hid (cmpZ_lt hl)
      have t1 : decide (al < bl) = true := decide_eq_true hl
      clear hl
      go_enter Try.func61, Try.ntmps61
      go_wp2
      go_ret
      refine ⟨by rw [H.out, H2.out]; rfl, ?_⟩
      repeat (first | exact Up.refl _ | refine Up.alloc ?_ _ _ | refine Up.setCell ?_ (by first | (simp; done) | (simp; omega) | omega) _ | refine Up.drewN ?_ _ | refine Up.drew ?_)
    · by_cases he : al = bl
      · subst he
        have H2 := Lib.hid (cmpZ_eq (x := al) rfl)
        clear hl
        go_enter Try.func61, Try.ntmps61
        go_wp2
        go_ret
        refine ⟨by rw [H.out, H2.out]; rfl, ?_⟩
        repeat (first | exact Up.refl _ | refine Up.alloc ?_ _ _ | refine Up.setCell ?_ (by first | (simp; done) | (simp; omega) | omega) _ | refine Up.drewN ?_ _ | refine Up.drew ?_)
      · have H2 := Lib.hid (cmpZ_gt (show bl < al by omega))
        have t1 : decide (al < bl) = false := decide_eq_false hl
        have t2 : (al == bl) = false := beq_eq_false_iff_ne.2 he
        clear hl he
        go_enter Try.func61, Try.ntmps61
        go_wp2
        go_ret
        refine ⟨by rw [H.out, H2.out]; rfl, ?_⟩
        repeat (first | exact Up.refl _ | refine Up.alloc ?_ _ _ | refine Up.setCell ?_ (by first | (simp; done) | (simp; omega) | omega) _ | refine Up.drewN ?_ _ | refine Up.drew ?_)
  · have H := Lib.hid (cmpZ_hi h2 h4 ha)
    have t0 : (ah == bh) = false := beq_eq_false_iff_ne.2 ha
    by_cases hl : ah < bh
    · have H2 := Lib.hid (cmpZ_lt hl)
      have t1 : decide (ah < bh) = true := decide_eq_true hl
      clear hl ha
      go_enter Try.func61, Try.ntmps61
      go_wp2
      go_ret
      refine ⟨by rw [H.out, H2.out]; rfl, ?_⟩
      repeat (first | exact Up.refl _ | refine Up.alloc ?_ _ _ | refine Up.setCell ?_ (by first | (simp; done) | (simp; omega) | omega) _ | refine Up.drewN ?_ _ | refine Up.drew ?_)
    · have H2 := Lib.hid (cmpZ_gt (show bh < ah by omega))
      have t1 : decide (ah < bh) = false := decide_eq_false hl
      clear hl ha
      go_enter Try.func61, Try.ntmps61
      go_wp2
      go_ret
      refine ⟨by rw [H.out, H2.out]; rfl, ?_⟩
      repeat (first | exact Up.refl _ | refine Up.alloc ?_ _ _ | refine Up.setCell ?_ (by first | (simp; done) | (simp; omega) | omega) _ | refine Up.drewN ?_ _ | refine Up.drew ?_)

theorem rsub_up (ah al bh bl : Int) (h1 : Word ah) (h2 : Word al) (h3 : Word bh) (h4 : Word bl) (w : World) :
    Calls Try.prog 50 #[.agg #[.int .u64 ah, .int .u64 al], .agg #[.int .u64 bh, .int .u64 bl]] w fun e w' =>
      e = got2 (fit2 (val ah al - val bh bl)) (fits2 (val ah al - val bh bl)) ∧ Up w w' := by
  have hia := val_in h1 h2
  have hib := val_in h3 h4
  have g1 := h1; have g2 := h2; have g3 := h3; have g4 := h4
  obtain ⟨a1, a2⟩ := g1; obtain ⟨b1, b2⟩ := g2; obtain ⟨c1, c2⟩ := g3; obtain ⟨d1, d2⟩ := g4
  obtain ⟨k0, k1⟩ := bor_01 al bl
  by_cases hf : val ah al < val bh bl
  · have t : decide (cmpZ (val ah al) (val bh bl) < 0) = true := decide_eq_true ((cmpZ_neg _ _).2 hf)
    have hi : ¬ In2 (val ah al - val bh bl) := by unfold In2; omega
    have H1 := Lib.hid (fit2_no hi)
    have H2 := Lib.hid (fits2_no hi)
    clear hi hf hia hib
    go_enter Try.func50, Try.ntmps50
    go_wp2_with fail
    refine (rcompare_up ah al bh bl h1 h2 h3 h4 _).mono ?_
    rintro e w1 ⟨rfl, hu⟩
    obtain ⟨hc, hz⟩ := hu.cells
    have hs := hu.size
    simp at hs
    go_wp2
    refine bodyPost_ret (v := .tuple #[.agg #[.int .u64 0, .int .u64 0], .bool false]) (by simp [results, Try.results50, go_sem, hc]) rfl ⟨?_, ?_⟩
    · rw [H1.out, H2.out]; rfl
    · repeat (first | exact Up.refl _ | (refine Up.trans ?_ (hu); skip) | refine Up.alloc ?_ _ _ | refine Up.setCell ?_ (by first | (simp; done) | (simp; omega) | omega) _ | refine Up.drewN ?_ _ | refine Up.drew ?_)
  · have t : decide (cmpZ (val ah al) (val bh bl) < 0) = false := decide_eq_false (fun h => hf ((cmpZ_neg _ _).1 h))
    have hi : In2 (val ah al - val bh bl) := by unfold In2 at *; omega
    have H1 := Lib.hid (fit2_yes hi)
    have H2 := Lib.hid (fits2_yes hi)
    have H3 := Lib.hid (show hiZ (val ah al - val bh bl) = (ah - bh - bor al bl) % 18446744073709551616 by
      have hh : (al < bl ∧ bor al bl = 1) ∨ (¬ al < bl ∧ bor al bl = 0) := by
        unfold bor; by_cases h : al < bl
        · exact Or.inl ⟨h, if_pos h⟩
        · exact Or.inr ⟨h, if_neg h⟩
      unfold In2 val at *; unfold hiZ; omega)
    have H4 := Lib.hid (show loZ (val ah al - val bh bl) = (al - bl) % 18446744073709551616 by unfold loZ val; omega)
    clear hi hf hia hib
    go_enter Try.func50, Try.ntmps50
    go_wp2_with fail
    refine (rcompare_up ah al bh bl h1 h2 h3 h4 _).mono ?_
    rintro e w1 ⟨rfl, hu⟩
    obtain ⟨hc, hz⟩ := hu.cells
    have hs := hu.size
    simp at hs
    go_wp2_with (first | simp only [sub64_0 al bl b1 d1 d2] | simp only [sub64 ah bh _ a1 c1 c2 k0 k1])
    refine bodyPost_ret (v := .tuple #[.agg #[.int .u64 ((ah - bh - bor al bl) % 18446744073709551616), .int .u64 ((al - bl) % 18446744073709551616)], .bool true]) (by simp [results, Try.results50, go_sem, hc]) rfl ⟨?_, ?_⟩
    · rw [H1.out, H2.out]; unfold got2; rw [H3.out, H4.out]
    · repeat (first | exact Up.refl _ | (refine Up.trans ?_ (hu); skip) | refine Up.alloc ?_ _ _ | refine Up.setCell ?_ (by first | (simp; done) | (simp; omega) | omega) _ | refine Up.drewN ?_ _ | refine Up.drew ?_)

end Go.Proofs.Ytafkoddgefcpnab
