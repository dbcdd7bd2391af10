/- The digits of a number that was read are the bytes that were read. No program is walked here. -/
import Derived.Test.YtkhgibpginbdcaaWParse
namespace Go.Proofs.Ytkhgibpginbdcaa
open Go.RowKit

theorem digit_back (c : UInt8) (h1 : 48 ≤ (c.toNat : Int)) : UInt8.ofNat (48 + (c.toNat - 48)) = c := by
  rw [show 48 + (c.toNat - 48) = c.toNat by omega]
  exact UInt8.ofNat_toNat
theorem step_some {n' n : Int} {c : UInt8} (h : pstep (some n') c = some n) : 48 ≤ (c.toNat : Int) ∧ (c.toNat : Int) ≤ 57 ∧ n = n' * 10 + ((c.toNat : Int) - 48) ∧ In2 n := by
  unfold pstep at h
  simp only at h
  by_cases hb : apB n' (c.toNat : Int) = true
  · rw [if_pos hb] at h
    have hn : apV n' (c.toNat : Int) = n := Option.some.inj h
    by_cases hd : 48 ≤ (c.toNat : Int) ∧ (c.toNat : Int) ≤ 57
    · obtain ⟨hv, hbb⟩ := apV_yes (n := n') hd
      rw [hbb] at hb
      have hi : In2 (n' * 10 + ((c.toNat : Int) - 48)) := by
        by_cases h : In2 (n' * 10 + ((c.toNat : Int) - 48))
        · exact h
        · rw [fits2_no h] at hb; exact absurd hb (by decide)
      rw [hv, fit2_yes hi] at hn
      rw [← hn]
      exact ⟨hd.1, hd.2, rfl, hi⟩
    · rw [(apV_no hd).2] at hb; exact absurd hb (by decide)
  · rw [if_neg hb] at h; exact absurd h (by simp)
theorem read_back (k : Nat) : ∀ l : List UInt8, l.length = k → l.head? ≠ some 48 → ∀ n, pfold l = some n →
    0 ≤ n ∧ (l ≠ [] → 0 < n) ∧ ∀ f, k ≤ f → l ≠ [] → dec f n.toNat = l := by
  induction k with
  | zero =>
    intro l hl _ n hn
    have : l = [] := List.length_eq_zero_iff.1 hl
    subst this
    have : n = 0 := (Option.some.inj hn).symm
    subst this
    exact ⟨by decide, fun h => absurd rfl h, fun _ _ h => absurd rfl h⟩
  | succ k ih =>
    intro l hl hh n hn
    rcases List.eq_nil_or_concat l with h | ⟨l', c, h⟩
    · subst h; simp at hl
    · rw [List.concat_eq_append] at h
      subst h
      have hl' : l'.length = k := by simpa using hl
      unfold pfold at hn
      rw [List.foldl_append] at hn
      have hn2 : pstep (pfold l') c = some n := hn
      cases hf : pfold l' with
      | none => rw [hf] at hn2; exact absurd hn2 (by simp [pstep])
      | some n' =>
        rw [hf] at hn2
        obtain ⟨d1, d2, e, hi⟩ := step_some hn2
        have hh' : l'.head? ≠ some 48 := by
          intro hx
          apply hh
          rw [List.head?_append, hx]; rfl
        obtain ⟨i1, i2, i3⟩ := ih l' hl' hh' n' hf
        by_cases hnil : l' = []
        · subst hnil
          have e0 : n' = 0 := (Option.some.inj hf).symm
          have hc : c ≠ 48 := fun h => hh (by rw [h]; rfl)
          have hc' : c.toNat ≠ 48 := fun h => hc (UInt8.toNat_inj.1 h)
          refine ⟨by omega, fun _ => by omega, fun f hf2 _ => ?_⟩
          obtain ⟨f', rfl⟩ : ∃ f', f = f' + 1 := ⟨f - 1, by omega⟩
          rw [dec_last (by omega), show n.toNat % 10 = c.toNat - 48 by omega, digit_back c d1]
          rfl
        · have p := i2 hnil
          refine ⟨by omega, fun _ => by omega, fun f hf2 _ => ?_⟩
          obtain ⟨f', rfl⟩ : ∃ f', f = f' + 1 := ⟨f - 1, by omega⟩
          rw [dec_more (by omega), show n.toNat / 10 = n'.toNat by omega, show n.toNat % 10 = c.toNat - 48 by omega, digit_back c d1, i3 f' (by omega) hnil]
theorem par_back {l : List UInt8} {n : Int} (h : par l = some n) : decs n = l := by
  unfold par at h
  by_cases hk : okHead l = true
  · rw [if_pos hk] at h
    unfold okHead at hk
    simp only [Bool.and_eq_true, Bool.not_eq_true', decide_eq_true_eq, Bool.or_eq_true, bne_iff_ne, beq_iff_eq] at hk
    obtain ⟨⟨h1, h2⟩, h3⟩ := hk
    rcases h3 with h3 | h3
    · exact (read_back l.length l rfl h3 n h).2.2 39 h2 (fun e => by rw [e] at h1; exact absurd h1 (by decide))
    · subst h3
      have : n = 0 := by
        have h' : pfold [48] = some 0 := by decide
        rw [h'] at h; exact (Option.some.inj h).symm
      subst this
      decide
  · rw [if_neg hk] at h; exact absurd h (by simp)
theorem pb_back {l : List UInt8} (h : pb l = true) : decs (pv l) = l ∧ In2 (pv l) := by
  unfold pb at h
  obtain ⟨n, hn⟩ := Option.isSome_iff_exists.1 h
  have e : pv l = n := by unfold pv; rw [hn]; rfl
  rw [e]
  refine ⟨par_back hn, ?_⟩
  unfold par at hn
  by_cases hk : okHead l = true
  · rw [if_pos hk] at hn
    rcases List.eq_nil_or_concat l with h | ⟨l', c, h⟩
    · subst h; exact absurd hk (by decide)
    · rw [List.concat_eq_append] at h
      subst h
      unfold pfold at hn
      rw [List.foldl_append] at hn
      have hn2 : pstep (pfold l') c = some n := hn
      cases hf : pfold l' with
      | none => rw [hf] at hn2; exact absurd hn2 (by simp [pstep])
      | some n' => rw [hf] at hn2; exact (step_some hn2).2.2.2
  · rw [if_neg hk] at hn; exact absurd hn (by simp)

end Go.Proofs.Ytkhgibpginbdcaa
