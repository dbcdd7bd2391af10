/- Texts of these claims, one after the other. -/
import Derived.Test.YtfdjhahnggdklaaZCClock
import Derived.Test.YtfdjhahnggdklaaZGBasem8
import Derived.Test.YtfdjhahnggdklaaZGLawm3
import Derived.Test.YtfdjhahnggdklaaZHGrowm2
import Derived.Test.YtfdjhahnggdklaaZHOrdm2
import Derived.Test.YtfdjhahnggdklaaZHRVal
import Derived.Test.YtfdjhahnggdklaaZHRowm3
import Derived.Test.YtfdjhahnggdklaaZHSmallm7
import Derived.Test.YtfdjhahnggdklaaZHVal
import Derived.Test.YtfdjhahnggdklaaZNumDivm2
import Derived.Test.YtfdjhahnggdklaaZWCmpm5
import Derived.Test.YtfdjhahnggdklaaZWMathm9
namespace Go.Proofs.Ytfdjhahnggdklaa
open Go.RowKit

theorem eqBucket (a0 a1 b0 b1 : Int) (w : World) : (Op.equalIn 10000 95 (.agg #[.int .i64 a0, .int .i64 a1]) (.agg #[.int .i64 b0, .int .i64 b1])).run Try.prog w =
    .ok (a0 == b0 && a1 == b1) w := by
  have qu := Try.underlying2
  have qa := Try.isAgg2
  have qz := Try.sizeOf2
  have qu2 := Try.underlying3
  have qa2 := Try.isAgg3
  have qz2 := Try.sizeOf3
  rw [show (10000 : Nat) = 9999 + 1 from rfl, Op.equalIn]
  simp only [Sem.run_bind, run_underlying Try.underlying95, Result.andThen_ok]
  go_simp
  by_cases h0 : a0 = b0 <;> by_cases h1 : a1 = b1 <;> simp [h0, h1]
set_option maxHeartbeats 2000000 in
set_option maxRecDepth 100000 in
theorem sameB_t (n k q : Nat) (A B : Option Addr) (L : List It) (hn : n ≤ 1000000) (w : World) (hA : Sl w A n L) (hB : Sl w B n L) :
    Calls Try.prog 34 #[.slice A n k, .slice B n q] w fun e w' => e = .returned (.bool true) ∧ Up w w' := by
  have HA := Lib.hid hA
  have HB := Lib.hid hB
  clear hA hB
  have t1 : ((n : Int) != (n : Int)) = false := by simp
  go_enter Try.func34, Try.ntmps34
  go_wp2
  go_loopw [13] (fun t wr => ∃ i : Nat, t = .int .i64 i ∧ i ≤ n ∧ Hid (Up w wr)) (fun t _ => n - (intOf t).toNat)
  case atStart => exact ⟨0, rfl, Nat.zero_le _, Lib.hid (Up.refl _)⟩
  case round =>
    obtain ⟨i, rfl, i2, HU⟩ := hrel
    by_cases hlt : i < n
    · obtain ⟨b, o, rfl, d0, d1⟩ := (HA.out.up HU.out).at_ hlt
      obtain ⟨b', o', rfl, d2, d3⟩ := (HB.out.up HU.out).at_ hlt
      generalize (L.getD i (0, 0)).1 = p0 at *
      generalize (L.getD i (0, 0)).2 = p1 at *
      have f2 : (i : Int) < n := by omega
      have f3 : (0 : Int) ≤ i := by omega
      have qe : ∀ w, (Op.equalIn 10000 95 (.agg #[.int .i64 p0, .int .i64 p1]) (.agg #[.int .i64 p0, .int .i64 p1])).run Try.prog w = .ok true w := fun w => by rw [eqBucket]; simp
      go_wp2
      go_quiet (fail)
      go_wp2
      go_roundw
      case rel => exact ⟨i + 1, by go_num, by omega, Lib.hid (HU.out.drewN _)⟩
      case measure => simp [intOf]; omega
    · go_wp2
      go_ret
      exact ⟨rfl, HU.out⟩

/-- Rows of numbers. -/
def il (L : List Int) : List Value := L.map (.int .i64)
theorem il_len (L : List Int) : (il L).length = L.length := by simp [il]
theorem il_at {L : List Int} {j : Nat} (h : j < L.length) : (il L)[j]? = some (.int .i64 (L.getD j 0)) := by simp [il, List.getD, h]
def OwI (w0 w : World) (v : Value) (n : Nat) (L : List Int) : Prop := Rw w0 w 3 1 v n (il L)
theorem OwI.nil (w0 w : World) : OwI w0 w (.slice none 0 0) 0 [] := Rw.nil _ _ _ _
theorem OwI.of_up {w0 w w' : World} {v : Value} {n : Nat} {L : List Int} (h : OwI w0 w v n L) (hu : Up w w') : OwI w0 w' v n L := Rw.of_up h hu
theorem OwI.sl {w0 w : World} {v : Value} {n : Nat} {L : List Int} (h : OwI w0 w v n L) : ∃ A c, v = .slice A n c ∧ n ≤ c ∧ Sn w A n L := by
  have hn : L.length = n := by have := h.1; rw [il_len] at this; omega
  rcases h.2 with ⟨rfl, rfl⟩ | ⟨g, cap, cur, rfl, _, hh, hc, _, hs, ht⟩
  · exact ⟨none, 0, rfl, Nat.le_refl _, hn, fun hx => absurd hx (by omega)⟩
  · refine ⟨some ⟨g, 0, none⟩, cap, rfl, hc, hn, fun _ => ⟨g, 0, rfl, fun j hj => ?_⟩⟩
    rw [Nat.zero_add, cell_of_row w g j cur _ (0, 0) hh]
    have e := il_at (L := L) (j := j) (by omega)
    rw [← ht, List.getElem?_take] at e
    split at e
    · simpa using e
    · cases e
end Go.Proofs.Ytfdjhahnggdklaa

namespace Go.Proofs.Ytfdjhahnggdklaa
open Go.RowKit

theorem bitsZ_le : ∀ (m : Nat) (n : Int), n < 2 ^ m → bitsZ n ≤ m := by
  intro m
  induction m with
  | zero => intro n h; rw [Int.pow_zero] at h; rw [bitsZ_low n (by omega)]; exact Int.le_refl _
  | succ m ih =>
    intro n h
    by_cases h0 : n ≤ 0
    · rw [bitsZ_low n h0]; omega
    · rw [pow_succ2] at h
      have := ih (n / 2) (by omega)
      rw [bitsZ_step n (by omega)]
      omega
theorem pow63 : (2 : Int) ^ 63 = 9223372036854775808 := by decide
def moZ (k c : Int) : Int := if kB k = true then (k + 1) * bitsZ c else 0
theorem mo_bound {k c : Int} (hk : kB k = true) (hc : In c) : (0 ≤ bitsZ c ∧ bitsZ c ≤ 63) ∧ 0 ≤ (k + 1) * bitsZ c ∧ (k + 1) * bitsZ c ≤ 8127 := by
  have h := kB_true hk
  have b0 := (bitsZ_bound c).1
  have b1 := bitsZ_le 63 c (by rw [pow63]; have := hc.2; omega)
  refine ⟨⟨b0, by omega⟩, Int.mul_nonneg (by omega) b0, ?_⟩
  have : (k + 1) * bitsZ c ≤ 129 * 63 := Int.mul_le_mul (by omega) (by omega) b0 (by omega)
  omega
theorem rmost_any (k c : Int) (hc : In c) (w : World) :
    Calls Try.prog 29 #[.int .i64 k, .int .i64 c] w fun e w' => e = .returned (.int .i64 (moZ k c)) ∧ w = w' := by
  have KK := Lib.hid (mayK_any k)
  cases hk : kB k with
  | false =>
    rw [hk] at KK
    rw [show moZ k c = 0 by unfold moZ; rw [hk]; rfl]
    clear hk
    go_enter Try.func29, Try.ntmps29
    go_wp2_with (go_at_call 62; (with_reducible refine (KK.out _).mono ?_); rintro e w' ⟨rfl, rfl⟩)
    go_ret
    exact ⟨rfl, rfl⟩
  | true =>
    by_cases hneg : c < 0
    · rw [show moZ k c = 0 by unfold moZ; rw [if_pos hk, bitsZ_low c (by omega), Int.mul_zero]]
      rw [hk] at KK
      clear hk
      go_enter Try.func29, Try.ntmps29
      go_wp2_with (go_at_call 62; (with_reducible refine (KK.out _).mono ?_); rintro e w' ⟨rfl, rfl⟩)
      go_ret
      exact ⟨rfl, rfl⟩
    obtain ⟨⟨b1, b2⟩, b3, b4⟩ := mo_bound hk hc
    have h := kB_true hk
    rw [show moZ k c = (k + 1) * bitsZ c by unfold moZ; rw [if_pos hk]]
    rw [hk] at KK
    have KB := Lib.hid (rbits_any c hc)
    generalize bitsZ c = z at *
    have e1 : IntKind.i64.wrap ((k + 1) * z) = (k + 1) * z := by rw [IntKind.wrap_i64]; omega
    clear hk
    go_enter Try.func29, Try.ntmps29
    go_wp2_with (first | (go_at_call 62; (with_reducible refine (KK.out _).mono ?_); rintro e w' ⟨rfl, rfl⟩) | (go_at_call 63; (with_reducible refine (KB.out _).mono ?_); rintro e w' ⟨rfl, rfl⟩))
    go_ret
    exact ⟨rfl, rfl⟩
end Go.Proofs.Ytfdjhahnggdklaa

namespace Go.Proofs.Ytfdjhahnggdklaa
open Go.RowKit

theorem szB_in {l : Int} (h : 0 ≤ l ∧ l ≤ 30) : 1 ≤ szB l ∧ szB l = 2 ^ l.toNat := by
  unfold szB; rw [if_pos h]; exact ⟨pwB1 _, rfl⟩
theorem tot_first {L : List It} (h : L ≠ []) : szB (L.getD 0 (0, 0)).2 ≤ totB L := by
  cases L with
  | nil => exact absurd rfl h
  | cons x L => have := totB_low L; simp only [totB, List.getD_cons_zero]; omega
theorem lv_all {L : List It} (h : lvB L = true) {j : Nat} (hj : j < L.length) : 0 ≤ (L.getD j (0, 0)).2 ∧ (L.getD j (0, 0)).2 ≤ 30 := levB_true (of_decide_eq_true h j hj)

end Go.Proofs.Ytfdjhahnggdklaa

namespace Go.Proofs.Ytfdjhahnggdklaa
open Go.RowKit

theorem imL_one {X : List It} {q t : Int} (h : Va X q) (h0 : 0 ≤ t) (h1 : t ≤ 16777216) (hl : ∀ x ∈ X, x.1 ≤ t) (hT : totB X + 1 ≤ 1073741824) : imL X q t 1 = puB q t X := by
  rw [imL_yes]
  · rfl
  · unfold inB rooB
    rw [vaB_iff.2 h, fol_of h0 h1 hl, decide_eq_true (p := totB X + 1 ≤ 1073741824) hT]
    simp
theorem Va.lv {X : List It} {k : Int} (h : Va X k) : lvB X = true := lvB_of (orB_iff.2 ⟨h.rg, h.ds, h.as_⟩)
theorem exL_tot (L : List It) (f : Int) : totB (exL L f) ≤ totB L := by
  obtain ⟨P, h⟩ := exL_suffix L f
  have := totB_low P
  have e := totB_app P (exL L f)
  rw [h] at e
  omega
theorem exL_va {L : List It} {k f t : Int} (h : Va L k) (hl : ∀ x ∈ L, x.1 ≤ t) : Va (exL L f) k ∧ ∀ x ∈ exL L f, x.1 ≤ t := by
  obtain ⟨P, e⟩ := exL_suffix L f
  refine ⟨Va.suffix (P := P) (by rw [e]; exact h), fun x hx => hl x ?_⟩
  rw [← e]
  exact List.mem_append_right _ hx
end Go.Proofs.Ytfdjhahnggdklaa

namespace Go.Proofs.Ytfdjhahnggdklaa
open Go.RowKit

/-- Parameters; all buckets live; valid states. -/
def mayC (v k c now : Int) : Bool := mayB v c now && decide (1 ≤ k ∧ k ≤ 64)
def lvX (now v : Int) (X : List It) : Bool := decide (∀ j, j < X.length → liveB now v (X.getD j (0, 0)).1 = true)
def stC (v k c now : Int) (X : List It) : Bool := mayC v k c now && (vaB X k && (lvX now v X && decide (totB X ≤ c)))
def stCE (v k c now : Int) (X : List It) : Int := if stC v k c now X = true then 0 else 2
theorem mayC_true {v k c now : Int} (h : mayC v k c now = true) : mayB v c now = true ∧ 1 ≤ k ∧ k ≤ 64 := by
  unfold mayC at h
  rw [Bool.and_eq_true, decide_eq_true_eq] at h
  exact ⟨h.1, h.2⟩
theorem mayC_yes {v k c now : Int} (h : mayB v c now = true) (h1 : 1 ≤ k) (h2 : k ≤ 64) : mayC v k c now = true := by
  unfold mayC
  rw [h, decide_eq_true (p := 1 ≤ k ∧ k ≤ 64) ⟨h1, h2⟩]
  rfl
theorem lvX_iff {now v : Int} {X : List It} : lvX now v X = true ↔ ∀ x ∈ X, liveB now v x.1 = true := by
  unfold lvX
  rw [decide_eq_true_eq]
  constructor
  · intro h x hx
    obtain ⟨j, hj, rfl⟩ := List.mem_iff_getElem.1 hx
    have := h j hj
    rw [gD_at hj] at this
    exact this
  · intro h j hj
    exact h _ (gD_mem hj)
theorem lvX_bad {now v : Int} {X : List It} {j : Nat} (hj : j < X.length) (h : liveB now v (X.getD j (0, 0)).1 = false) : lvX now v X = false :=
  decide_eq_false (fun hp => by have := hp j hj; rw [h] at this; cases this)
theorem stC_true {v k c now : Int} {X : List It} (h : stC v k c now X = true) : mayC v k c now = true ∧ Va X k ∧ lvX now v X = true ∧ totB X ≤ c := by
  unfold stC at h
  simp only [Bool.and_eq_true, decide_eq_true_eq] at h
  exact ⟨h.1, vaB_iff.1 h.2.1, h.2.2.1, h.2.2.2⟩
theorem stC_yes {v k c now : Int} {X : List It} (h1 : mayC v k c now = true) (h2 : Va X k) (h3 : lvX now v X = true) (h4 : totB X ≤ c) : stC v k c now X = true := by
  unfold stC
  rw [h1, vaB_iff.2 h2, h3, decide_eq_true h4]
  rfl
theorem stCE_yes {v k c now : Int} {X : List It} (h : stC v k c now X = true) : stCE v k c now X = 0 := if_pos h
theorem mayC_facts {v k c now : Int} (h : mayC v k c now = true) : (0 ≤ now ∧ now ≤ 16777216) ∧ (1 ≤ v ∧ v ≤ 1048576) ∧ (1 ≤ c ∧ c ≤ 65536) ∧ (tickB now && winB v) = true := by
  obtain ⟨h1, h2, h3⟩ := mayC_true h
  obtain ⟨a, b, d, e⟩ := mayB_true h1
  exact ⟨tickB_true a, winB_true b, ⟨d, e⟩, by rw [a, b]; rfl⟩
theorem mayC_ok {v k c now : Int} (h1 : 0 ≤ now) (h2 : now ≤ 16777216) (h3 : 1 ≤ v) (h4 : v ≤ 1048576) (h5 : 1 ≤ c) (h6 : c ≤ 65536) (h7 : 1 ≤ k) (h8 : k ≤ 64) : mayC v k c now = true := by
  refine mayC_yes ?_ h7 h8
  unfold mayB
  rw [tickB_yes h1 h2, winB_yes h3 h4, decide_eq_true ⟨h5, h6⟩]
  rfl
theorem live_iff {now v t : Int} (h : (tickB now && winB v) = true) (h0 : 0 ≤ t) : liveB now v t = true ↔ now - v < t ∧ t ≤ now := by
  rw [liveB_yes h, firZ_yes h]
  simp only [Bool.and_eq_true, decide_eq_true_eq]
  constructor <;> intro g <;> exact ⟨by omega, by omega⟩
theorem stC_few {v k c now : Int} {X : List It} (h : stC v k c now X = true) : (X.length : Int) ≤ 65 * 17 := by
  obtain ⟨h1, h2, h3, h4⟩ := stC_true h
  obtain ⟨g1, g2, g3, g4⟩ := mayC_facts h1
  have hk := (mayC_true h1).2
  have e := h2.few (by omega)
  have eb : bitsZ (totB X) ≤ 17 := by
    have hm := bitsZ_mono (a := totB X) (b := 65536) (by omega)
    have : bitsZ 65536 = 17 := by decide
    omega
  have hb := (bitsZ_bound (totB X)).1
  have : (k + 1) * bitsZ (totB X) ≤ 65 * 17 := Int.mul_le_mul (by omega) eb hb (by omega)
  omega
/-- The buckets X stand for items with the ticks S: each for so many in turn, the last of them at its tick. -/
def Cv : List It → List Int → Prop
  | [], S => S = []
  | p :: X, S => ∃ G R, S = G ++ p.1 :: R ∧ (G.length : Int) + 1 = szB p.2 ∧ Cv X R
theorem Cv.app : ∀ {P X : List It} {S : List Int}, Cv (P ++ X) S ↔ ∃ S1 S2, S = S1 ++ S2 ∧ Cv P S1 ∧ Cv X S2 := by
  intro P
  induction P with
  | nil =>
    intro X S
    constructor
    · intro h; exact ⟨[], S, rfl, rfl, h⟩
    · rintro ⟨S1, S2, rfl, h1, h2⟩
      have h1 : S1 = [] := h1
      subst h1
      exact h2
  | cons p P ih =>
    intro X S
    constructor
    · rintro ⟨G, R, rfl, hg, h⟩
      obtain ⟨S1, S2, rfl, h1, h2⟩ := ih.1 h
      exact ⟨G ++ p.1 :: S1, S2, by simp, ⟨G, S1, rfl, hg, h1⟩, h2⟩
    · rintro ⟨S1, S2, rfl, ⟨G, R, rfl, hg, h1⟩, h2⟩
      exact ⟨G, R ++ S2, by simp, hg, ih.2 ⟨R, S2, rfl, h1, h2⟩⟩
theorem Cv.len : ∀ {X : List It} {S : List Int}, Cv X S → (S.length : Int) = totB X := by
  intro X
  induction X with
  | nil => intro S h; have h : S = [] := h; subst h; rfl
  | cons p X ih =>
    rintro S ⟨G, R, rfl, hg, h⟩
    have := ih h
    simp only [List.length_append, List.length_cons, totB]
    omega
theorem Cv.mg {X : List It} {S : List Int} {l : Int} (h0 : 0 ≤ l) (h1 : l < 30) (hd : Ds X) (hc : 2 ≤ cn l X) (h : Cv X S) : Cv (mgB X l) S := by
  obtain ⟨P, a, b, Q, rfl, e2, e3, e4⟩ := split2 hd hc
  rw [mgB_split e2]
  obtain ⟨S1, S2, rfl, k1, G, R, rfl, hg, G2, R2, rfl, hg2, k2⟩ := Cv.app.1 h
  simp only at hg hg2
  refine Cv.app.2 ⟨S1, _, rfl, k1, G ++ a :: G2, R2, by simp, ?_, k2⟩
  simp only [List.length_append, List.length_cons]
  rw [szB_two h0 h1]
  omega
theorem puS_cv {k T t : Int} (hT : T ≤ 1073741824) : ∀ {n : Nat} {l : Int} {X : List It} {S : List Int}, Iv X k l T t → l + n = 31 → Cv X S → Cv (puS k n l X) S := by
  intro n
  induction n with
  | zero => intro l X S _ _ h; exact h
  | succ n ih =>
    intro l X S h hn hC
    by_cases hc : (cn l X : Int) ≤ k + 1
    · rw [puS_at hc]; exact hC
    · rw [puS_step hc]
      obtain ⟨h1, h2, h3, h4⟩ := h.next hT (by omega) hc
      exact ih h4 (by omega) (Cv.mg h.l0 h1 h.ds h3 hC)
theorem puB_cv {X : List It} {S : List Int} {k t : Int} (h : Va X k) (h0 : 0 ≤ t) (h1 : t ≤ 16777216) (hl : ∀ x ∈ X, x.1 ≤ t) (hT : totB X < 1073741824) (hC : Cv X S) : Cv (puB k t X) (S ++ [t]) :=
  puS_cv (by omega) (h.start h0 h1 hl) rfl (Cv.app.2 ⟨S, [t], rfl, hC, [], [], rfl, rfl, rfl⟩)
/-- The ticks of a list after an insertion are those that were there, and the new one. -/
theorem puS_tick {k T t : Int} (hT : T ≤ 1073741824) : ∀ {n : Nat} {l : Int} {X : List It}, Iv X k l T t → l + n = 31 → ∀ x ∈ puS k n l X, ∃ y ∈ X, y.1 = x.1 := by
  intro n
  induction n with
  | zero => intro l X _ _ x hx; exact ⟨x, hx, rfl⟩
  | succ n ih =>
    intro l X h hn x hx
    by_cases hc : (cn l X : Int) ≤ k + 1
    · rw [puS_at hc] at hx; exact ⟨x, hx, rfl⟩
    · rw [puS_step hc] at hx
      obtain ⟨h1, h2, h3, h4⟩ := h.next hT (by omega) hc
      obtain ⟨y, hy, e⟩ := ih h4 (by omega) x hx
      rcases mg_mem h.ds h3 hy with g | g
      · exact ⟨y, g, e⟩
      · exact ⟨_, g.2, e⟩
theorem puB_tick {X : List It} {k t : Int} (h : Va X k) (h0 : 0 ≤ t) (h1 : t ≤ 16777216) (hl : ∀ x ∈ X, x.1 ≤ t) (hT : totB X < 1073741824) : ∀ x ∈ puB k t X, x.1 = t ∨ ∃ y ∈ X, y.1 = x.1 := by
  intro x hx
  obtain ⟨y, hy, e⟩ := puS_tick (by omega) (h.start h0 h1 hl) rfl x hx
  rcases List.mem_append.1 hy with g | g
  · exact Or.inr ⟨y, g, e⟩
  · simp only [List.mem_singleton] at g; subst g; exact Or.inl e.symm
theorem exL_cons (p : It) (X : List It) (f : Int) : exL (p :: X) f = if p.1 < f then exL X f else p :: X := by
  unfold exL
  rw [List.dropWhile_cons]
  simp
theorem exL_low {f : Int} : ∀ {X : List It}, As X → ∀ x ∈ exL X f, f ≤ x.1 := by
  intro X
  induction X with
  | nil => intro _ x hx; cases hx
  | cons p X ih =>
    intro h x hx
    obtain ⟨h1, h2⟩ := As.cons.1 h
    rw [exL_cons] at hx
    split at hx
    · exact ih h2 x hx
    · rcases List.mem_cons.1 hx with rfl | hx
      · omega
      · have := h1 x hx; omega
theorem Cv.ex {f : Int} : ∀ {X : List It} {S : List Int}, Cv X S → S.Pairwise (fun x y => x ≤ y) → ∃ P R, S = P ++ R ∧ Cv (exL X f) R ∧ ∀ x ∈ P, x < f := by
  intro X
  induction X with
  | nil => intro S h _; exact ⟨[], S, rfl, h, fun x hx => (by cases hx)⟩
  | cons p X ih =>
    rintro S ⟨G, R, rfl, hg, h⟩ hs
    rw [exL_cons]
    split
    next hp =>
      obtain ⟨_, hs2, hs3⟩ := List.pairwise_append.1 hs
      obtain ⟨P, R2, rfl, hc, hP⟩ := ih h (List.pairwise_cons.1 hs2).2
      refine ⟨G ++ p.1 :: P, R2, by simp, hc, fun x hx => ?_⟩
      rcases List.mem_append.1 hx with g | g
      · have := hs3 x g p.1 List.mem_cons_self; omega
      · rcases List.mem_cons.1 g with rfl | g
        · exact hp
        · exact hP x g
    next hp => exact ⟨[], G ++ p.1 :: R, rfl, ⟨G, R, rfl, hg, h⟩, fun x hx => (by cases hx)⟩
/-- How many ticks are live. -/
def lvN (S : List Int) (now v : Int) : Nat := S.countP (fun t => decide (now - v < t) && decide (t ≤ now))
theorem lvN_app (P S : List Int) (now v : Int) : lvN (P ++ S) now v = lvN P now v + lvN S now v := List.countP_append
theorem lvN_le (S : List Int) (now v : Int) : lvN S now v ≤ S.length := List.countP_le_length
theorem lvN_zero {S : List Int} {now v : Int} (h : ∀ x ∈ S, x ≤ now - v) : lvN S now v = 0 := by
  unfold lvN; rw [List.countP_eq_zero]; intro x hx; have := h x hx; simp; omega
theorem lvN_all {S : List Int} {now v : Int} (h : ∀ x ∈ S, now - v < x ∧ x ≤ now) : lvN S now v = S.length := by
  unfold lvN; rw [List.countP_eq_length]; intro x hx; have := h x hx; simp; omega
/-- The state after items M. -/
structure Hs (v k c now : Int) (X M : List It) : Prop where
  st : stC v k c now X = true
  asc : M.Pairwise (fun x y => x.1 ≤ y.1)
  rg : ∀ x ∈ M, 0 ≤ x.1 ∧ x.1 ≤ now
  cv : ∃ P S, M.map (fun x => x.1) = P ++ S ∧ (∀ x ∈ P, x ≤ now - v) ∧ Cv X S
theorem Hs.start {v k c now : Int} (h : mayC v k c now = true) : Hs v k c now [] [] :=
  ⟨stC_yes h (Va.nil (mayC_true h).2.1 (by have := (mayC_true h).2.2; omega)) (lvX_iff.2 (fun x hx => (by cases hx))) (by have := (mayC_facts h).2.2.1.1; simp only [totB]; omega),
   List.Pairwise.nil, (fun x hx => (by cases hx)), [], [], rfl, (fun x hx => (by cases hx)), rfl⟩
theorem stC_adv {v k c now td : Int} {X : List It} (h : stC v k c now X = true) (h1 : now ≤ td) (h2 : td ≤ 16777216) : stC v k c td (exL X (firZ td v)) = true := by
  obtain ⟨a1, a2, a3, a4⟩ := stC_true h
  obtain ⟨g1, g2, g3, g4⟩ := mayC_facts a1
  have hk := (mayC_true a1).2
  have ht : (tickB td && winB v) = true := by rw [tickB_yes (by omega) h2, winB_yes g2.1 g2.2]; rfl
  have hl := lvX_iff.1 a3
  obtain ⟨b1, b2⟩ := exL_va (f := firZ td v) (t := now) a2 (fun x hx => ((live_iff g4 (a2.rg x hx).1.1).1 (hl x hx)).2)
  refine stC_yes (mayC_ok (by omega) h2 g2.1 g2.2 g3.1 g3.2 hk.1 hk.2) b1 (lvX_iff.2 (fun x hx => ?_)) (by have := exL_tot X (firZ td v); omega)
  have e1 := exL_low a2.as_ x hx
  rw [firZ_yes ht] at e1
  have e2 := b2 x hx
  exact (live_iff ht (by omega)).2 ⟨by omega, by omega⟩
theorem Hs.adv {v k c now td : Int} {X M : List It} (h : Hs v k c now X M) (h1 : now ≤ td) (h2 : td ≤ 16777216) : Hs v k c td (exL X (firZ td v)) M := by
  refine ⟨stC_adv h.st h1 h2, h.asc, fun x hx => ⟨(h.rg x hx).1, by have := (h.rg x hx).2; omega⟩, ?_⟩
  obtain ⟨a1, a2, a3, a4⟩ := stC_true h.st
  obtain ⟨g1, g2, g3, g4⟩ := mayC_facts a1
  have ht : (tickB td && winB v) = true := by rw [tickB_yes (by omega) h2, winB_yes g2.1 g2.2]; rfl
  obtain ⟨P, S, e, hP, hC⟩ := h.cv
  have hs : (M.map (fun x => x.1)).Pairwise (fun x y => x ≤ y) := List.pairwise_map.2 h.asc
  rw [e] at hs
  obtain ⟨P2, R, rfl, hC2, hP2⟩ := hC.ex (f := firZ td v) (List.pairwise_append.1 hs).2.1
  refine ⟨P ++ P2, R, by rw [e, List.append_assoc], fun x hx => ?_, hC2⟩
  rcases List.mem_append.1 hx with g | g
  · have := hP x g; omega
  · have g5 := hP2 x g
    have g6 : x ∈ M.map (fun x => x.1) := by rw [e]; simp [g]
    obtain ⟨y, hy, rfl⟩ := List.mem_map.1 g6
    have := (h.rg y hy).1
    rw [firZ_yes ht] at g5
    omega
theorem stC_add {v k c now : Int} {X : List It} (h : stC v k c now X = true) (hc : totB X ≠ c) : stC v k c now (puB k now X) = true ∧ (0 ≤ now ∧ now ≤ 16777216) ∧ (∀ x ∈ X, x.1 ≤ now) ∧ totB X + 1 ≤ 1073741824 := by
  obtain ⟨a1, a2, a3, a4⟩ := stC_true h
  obtain ⟨g1, g2, g3, g4⟩ := mayC_facts a1
  have hl := lvX_iff.1 a3
  have hx : ∀ x ∈ X, x.1 ≤ now := fun x hx => ((live_iff g4 (a2.rg x hx).1.1).1 (hl x hx)).2
  obtain ⟨b1, b2, b3⟩ := puB_va a2 g1.1 g1.2 hx (by omega)
  refine ⟨stC_yes a1 b1 (lvX_iff.2 (fun x hx2 => ?_)) (by omega), g1, hx, by omega⟩
  rcases puB_tick a2 g1.1 g1.2 hx (by omega) x hx2 with e | ⟨y, hy, e⟩
  · rw [e]; exact (live_iff g4 g1.1).2 ⟨by omega, by omega⟩
  · rw [← e]; exact hl y hy
theorem Hs.add {v k c now y : Int} {X M : List It} (h : Hs v k c now X M) (hc : totB X ≠ c) : Hs v k c now (puB k now X) (M ++ [(now, y)]) := by
  obtain ⟨b1, b2, b3, b4⟩ := stC_add h.st hc
  obtain ⟨a1, a2, a3, a4⟩ := stC_true h.st
  refine ⟨b1, ?_, ?_, ?_⟩
  · rw [List.pairwise_append]
    refine ⟨h.asc, List.pairwise_singleton _ _, fun x hx z hz => ?_⟩
    simp only [List.mem_singleton] at hz
    subst hz
    exact (h.rg x hx).2
  · intro x hx
    rcases List.mem_append.1 hx with g | g
    · exact h.rg x g
    · simp only [List.mem_singleton] at g; subst g; exact ⟨b2.1, Int.le_refl _⟩
  · obtain ⟨P, S, e, hP, hC⟩ := h.cv
    exact ⟨P, S ++ [now], by rw [List.map_append, e, List.append_assoc]; rfl, hP, puB_cv a2 b2.1 b2.2 b3 (by omega) hC⟩
/-- The lower bound of the answer. -/
def qlo0 (X : List It) : Int := if X = [] then 0 else totB X - szB (X.getD 0 (0, 0)).2 + 1
/-- The number of live items lies between the bounds, which are narrow. -/
theorem Hs.holds {v k c now : Int} {X M : List It} (h : Hs v k c now X M) : qlo0 X ≤ (lvN (M.map (fun x => x.1)) now v : Int) ∧ (lvN (M.map (fun x => x.1)) now v : Int) ≤ totB X ∧ k * (totB X - qlo0 X) ≤ qlo0 X ∧ 0 ≤ qlo0 X ∧ qlo0 X ≤ totB X := by
  obtain ⟨a1, a2, a3, a4⟩ := stC_true h.st
  obtain ⟨g1, g2, g3, g4⟩ := mayC_facts a1
  obtain ⟨P, S, e, hP, hC⟩ := h.cv
  have hl := lvX_iff.1 a3
  have hs : (M.map (fun x => x.1)).Pairwise (fun x y => x ≤ y) := List.pairwise_map.2 h.asc
  have hn : ∀ x ∈ S, x ≤ now := fun x hx => by
    have g6 : x ∈ M.map (fun x => x.1) := by rw [e]; simp [hx]
    obtain ⟨y, hy, rfl⟩ := List.mem_map.1 g6
    exact (h.rg y hy).2
  rw [e] at hs
  rw [e, lvN_app, lvN_zero hP, Nat.zero_add]
  have hlen := hC.len
  have hle := lvN_le S now v
  cases X with
  | nil =>
    have hC : S = [] := hC
    subst hC
    unfold qlo0 lvN
    simp [totB]
  | cons p X =>
    obtain ⟨n1, n2, n3⟩ := a2.narrow (by simp)
    have e0 : ((p :: X).getD 0 (0, 0)) = p := rfl
    rw [e0] at n1 n2 n3
    unfold qlo0
    rw [if_neg (by simp), e0]
    have e4 : k * (totB (p :: X) - (totB (p :: X) - szB p.2 + 1)) = k * (szB p.2 - 1) := by rw [show totB (p :: X) - (totB (p :: X) - szB p.2 + 1) = szB p.2 - 1 by omega]
    refine ⟨?_, by omega, by rw [e4]; omega, by omega, by omega⟩
    obtain ⟨G, R, rfl, hg, hC2⟩ := hC
    obtain ⟨_, hs2, _⟩ := List.pairwise_append.1 hs
    obtain ⟨_, hs3, _⟩ := List.pairwise_append.1 hs2
    have hp := (live_iff g4 (a2.rg p List.mem_cons_self).1.1).1 (hl p List.mem_cons_self)
    have hall : lvN (p.1 :: R) now v = (p.1 :: R).length := lvN_all (fun x hx => by
      refine ⟨?_, hn x (List.mem_append_right _ hx)⟩
      rcases List.mem_cons.1 hx with rfl | hx
      · exact hp.1
      · have := (List.pairwise_cons.1 hs3).1 x hx; omega)
    rw [lvN_app, hall]
    have := hC2.len
    simp only [totB, List.length_cons]
    omega
end Go.Proofs.Ytfdjhahnggdklaa
