/- The integers next to a rational number: plain facts. -/
import Derived.Test.YtnhekeohbnmodaaZJRQuo
import Derived.Test.YtnhekeohbnmodaaZMath
import Derived.Test.YtnhekeohbnmodaaZRMath
import Derived.Test.YtnhekeohbnmodaaZWAdd
import Derived.Test.YtnhekeohbnmodaaZWMul
namespace Go.Proofs.Ytnhekeohbnmodaa

theorem sgn_mul (a b : Int) : cmpZ a 0 * cmpZ b 0 = cmpZ (a * b) 0 := by
  rcases (by omega : a < 0 ∨ a = 0 ∨ 0 < a) with ha | ha | ha <;> rcases (by omega : b < 0 ∨ b = 0 ∨ 0 < b) with hb | hb | hb
  · rw [cmpZ_lt ha, cmpZ_lt hb, cmpZ_gt (Int.mul_pos_of_neg_of_neg ha hb)]; rfl
  · subst hb; rw [Int.mul_zero, cmpZ_eq (x := 0) rfl, Int.mul_zero]
  · rw [cmpZ_lt ha, cmpZ_gt hb, cmpZ_lt (Int.mul_neg_of_neg_of_pos ha hb)]; rfl
  · subst ha; rw [Int.zero_mul, cmpZ_eq (x := 0) rfl, Int.zero_mul]
  · subst ha; rw [Int.zero_mul, cmpZ_eq (x := 0) rfl, Int.zero_mul]
  · subst ha; rw [Int.zero_mul, cmpZ_eq (x := 0) rfl, Int.zero_mul]
  · rw [cmpZ_gt ha, cmpZ_lt hb, cmpZ_lt (Int.mul_neg_of_pos_of_neg ha hb)]; rfl
  · subst hb; rw [Int.mul_zero, cmpZ_eq (x := 0) rfl, Int.mul_zero]
  · rw [cmpZ_gt ha, cmpZ_gt hb, cmpZ_gt (Int.mul_pos ha hb)]; rfl
theorem cross_is (p q : Int) : (if cmpZ p 0 = cmpZ q 0 then cmpZ p 0 * cmpZ (p.natAbs : Int) (q.natAbs : Int) else cmpZ (cmpZ p 0) (cmpZ q 0)) = cmpZ p q := by
  rcases (by omega : p < 0 ∨ p = 0 ∨ 0 < p) with hp | hp | hp <;> rcases (by omega : q < 0 ∨ q = 0 ∨ 0 < q) with hq | hq | hq
  · rw [cmpZ_lt hp, cmpZ_lt hq, if_pos rfl]
    unfold cmpZ; (repeat' split) <;> omega
  · rw [cmpZ_lt hp, cmpZ_eq hq, if_neg (by decide), cmpZ_lt (x := p) (y := q) (by omega)]; rfl
  · rw [cmpZ_lt hp, cmpZ_gt hq, if_neg (by decide), cmpZ_lt (x := p) (y := q) (by omega)]; rfl
  · rw [cmpZ_eq hp, cmpZ_lt hq, if_neg (by decide), cmpZ_gt (x := p) (y := q) (by omega)]; rfl
  · rw [cmpZ_eq hp, cmpZ_eq hq, if_pos rfl, cmpZ_eq (x := p) (y := q) (by omega)]; omega
  · rw [cmpZ_eq hp, cmpZ_gt hq, if_neg (by decide), cmpZ_lt (x := p) (y := q) (by omega)]; rfl
  · rw [cmpZ_gt hp, cmpZ_lt hq, if_neg (by decide), cmpZ_gt (x := p) (y := q) (by omega)]; rfl
  · rw [cmpZ_gt hp, cmpZ_eq hq, if_neg (by decide), cmpZ_gt (x := p) (y := q) (by omega)]; rfl
  · rw [cmpZ_gt hp, cmpZ_gt hq, if_pos rfl]
    unfold cmpZ; (repeat' split) <;> omega
/-- The comparison of two products is what it says. -/
theorem crossZ_eq (a b c d : Int) : crossZ a b c d = cmpZ (a * b) (c * d) := by
  unfold crossZ
  rw [sgn_mul, sgn_mul, ← cross_is (a * b) (c * d), Int.natAbs_mul, Int.natAbs_mul, Int.natCast_mul, Int.natCast_mul]
theorem cmpZ_le {x y : Int} : cmpZ x y ≤ 0 ↔ x ≤ y := by unfold cmpZ; (repeat' split) <;> omega

theorem flo_in {a b : Int} (ha : In a) (hb : In b) (h0 : b ≠ 0) (hm : ¬ (a = -9223372036854775808 ∧ b = -1)) : In (flo a b) ∧ In (cei a b) := by
  have h1 := tdiv_in a b ha h0 hm
  unfold flo cei
  by_cases hr : a.tmod b = 0
  · rw [if_neg (by omega), if_neg (by omega)]; exact ⟨h1, h1⟩
  · obtain ⟨r1, r2⟩ := tdiv_room a b ha hb h0 hr
    refine ⟨?_, ?_⟩ <;> split <;> exact ⟨by omega, by omega⟩
theorem cei_flo (n d : Int) (h : 1 ≤ d) : (n.tmod d = 0 ∧ cei n d = flo n d) ∨ (n.tmod d ≠ 0 ∧ cei n d = flo n d + 1) := by
  unfold cei flo
  by_cases hr : n.tmod d = 0
  · refine Or.inl ⟨hr, ?_⟩; rw [if_neg (by omega), if_neg (by omega)]
  · refine Or.inr ⟨hr, ?_⟩
    by_cases hn : n < 0
    · rw [if_neg (by omega), if_pos (by omega)]; omega
    · rw [if_pos (by omega), if_neg (by omega)]
theorem between {n d : Int} (hn : In n) (hd : In d) (hv : validB n d = true) :
    In (floR n d) ∧ In (ceiR n d) ∧ (ceiR n d - floR n d ≤ 1 ∧ floR n d ≤ ceiR n d) ∧ ((ceiR n d = floR n d ∧ d = 1) ∨ (ceiR n d ≠ floR n d ∧ d ≠ 1)) ∧ cmpR (floR n d) 1 n d ≤ 0 ∧ cmpR n d (ceiR n d) 1 ≤ 0 := by
  obtain ⟨h1, h2⟩ := validB_of hv
  have e1 : floR n d = flo n d := by unfold floR; rw [if_pos hv, flos_yes (hasq_valid h1)]
  have e2 : ceiR n d = cei n d := by unfold ceiR; rw [if_pos hv, ceis_yes (hasq_valid h1)]
  have hi := flo_in hn hd (show d ≠ 0 by omega) (by omega)
  have hc := cei_flo n d h1
  have hf := flo_rest n d
  obtain ⟨r0, r1⟩ := rest_pos n d (by omega)
  have hrest : n.tmod d = 0 → rest n d = 0 := fun h => by unfold rest; rw [if_neg (by omega)]; exact h
  have v1 : ∀ x : Int, validB x 1 = true := fun x => validB_yes (by decide) (by simp)
  have hone : n.tmod d = 0 → d = 1 := fun h => by
    have hdv : d ∣ n := Int.dvd_of_tmod_eq_zero h
    have h3 : d.natAbs ∣ n.natAbs := Int.natAbs_dvd_natAbs.2 hdv
    have h4 := Nat.gcd_eq_right h3
    omega
  have hone' : d = 1 → n.tmod d = 0 := fun h => by rw [h]; exact Int.tmod_one n
  have c1 : cmpR (flo n d) 1 n d ≤ 0 := by
    unfold cmpR; rw [v1, hv, if_pos (by rfl), crossZ_eq, cmpZ_le]; omega
  have c2 : cmpR n d (cei n d) 1 ≤ 0 := by
    unfold cmpR; rw [v1, hv, if_pos (by rfl), crossZ_eq, cmpZ_le]
    rcases hc with ⟨hr, hc⟩ | ⟨hr, hc⟩
    · rw [hc]; have := hrest hr; omega
    · rw [hc, Int.add_mul]; omega
  rw [e1, e2]
  refine ⟨hi.1, hi.2, ?_, ?_, c1, c2⟩
  · omega
  · rcases hc with ⟨hr, hc⟩ | ⟨hr, hc⟩
    · exact Or.inl ⟨hc, hone hr⟩
    · exact Or.inr ⟨by omega, fun h => hr (hone' h)⟩

end Go.Proofs.Ytnhekeohbnmodaa
