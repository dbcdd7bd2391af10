/- Texts of this claim, one after the other. -/
import Derived.Test.YtnhekeohbnmodaaZCClock
import Derived.Test.YtnhekeohbnmodaaZGBase
import Derived.Test.YtnhekeohbnmodaaZHMath
import Derived.Test.YtnhekeohbnmodaaZMath
import Derived.Test.YtnhekeohbnmodaaZWFormat
import Derived.Test.YtnhekeohbnmodaaZWide
/- The small functions of package buckets and of its reference. -/
namespace Go.Proofs.Ytnhekeohbnmodaa
open Go.RowKit

def kB (k : Int) : Bool := decide (1 ≤ k ∧ k ≤ 128)
def levB (l : Int) : Bool := decide (0 ≤ l ∧ l ≤ 30)
theorem kB_true {k : Int} (h : kB k = true) : 1 ≤ k ∧ k ≤ 128 := of_decide_eq_true h
theorem levB_true {k : Int} (h : levB k = true) : 0 ≤ k ∧ k ≤ 30 := of_decide_eq_true h
theorem kB_false {k : Int} (h : kB k = false) : ¬ (1 ≤ k ∧ k ≤ 128) := of_decide_eq_false h
theorem levB_false {k : Int} (h : levB k = false) : ¬ (0 ≤ k ∧ k ≤ 30) := of_decide_eq_false h
theorem isK_any (k : Int) (w : World) : Calls Try.prog 38 #[.int .i64 k] w fun e w' => e = .returned (.bool (kB k)) ∧ w = w' := by
  by_cases h1 : 1 ≤ k
  · by_cases h2 : k ≤ 128
    · rw [show kB k = true from decide_eq_true ⟨h1, h2⟩]
      go_enter Try.func38, Try.ntmps38
      go_wp2
      go_ret
      exact ⟨rfl, rfl⟩
    · rw [show kB k = false from decide_eq_false (fun h => h2 h.2)]
      go_enter Try.func38, Try.ntmps38
      go_wp2
      go_ret
      exact ⟨rfl, rfl⟩
  · rw [show kB k = false from decide_eq_false (fun h => h1 h.1)]
    go_enter Try.func38, Try.ntmps38
    go_wp2
    go_ret
    exact ⟨rfl, rfl⟩
theorem mayK_any (k : Int) (w : World) : Calls Try.prog 41 #[.int .i64 k] w fun e w' => e = .returned (.bool (kB k)) ∧ w = w' := by
  by_cases h1 : 1 ≤ k
  · by_cases h2 : k ≤ 128
    · rw [show kB k = true from decide_eq_true ⟨h1, h2⟩]
      go_enter Try.func41, Try.ntmps41
      go_wp2
      go_ret
      exact ⟨rfl, rfl⟩
    · rw [show kB k = false from decide_eq_false (fun h => h2 h.2)]
      go_enter Try.func41, Try.ntmps41
      go_wp2
      go_ret
      exact ⟨rfl, rfl⟩
  · rw [show kB k = false from decide_eq_false (fun h => h1 h.1)]
    go_enter Try.func41, Try.ntmps41
    go_wp2
    go_ret
    exact ⟨rfl, rfl⟩
theorem isTick10_any (k : Int) (w : World) : Calls Try.prog 64 #[.int .i64 k] w fun e w' => e = .returned (.bool (tickB k)) ∧ w = w' := by
  by_cases h1 : 0 ≤ k
  · by_cases h2 : k ≤ 16777216
    · rw [show tickB k = true from decide_eq_true ⟨h1, h2⟩]
      go_enter Try.func64, Try.ntmps64
      go_wp2
      go_ret
      exact ⟨rfl, rfl⟩
    · rw [show tickB k = false from decide_eq_false (fun h => h2 h.2)]
      go_enter Try.func64, Try.ntmps64
      go_wp2
      go_ret
      exact ⟨rfl, rfl⟩
  · rw [show tickB k = false from decide_eq_false (fun h => h1 h.1)]
    go_enter Try.func64, Try.ntmps64
    go_wp2
    go_ret
    exact ⟨rfl, rfl⟩
theorem isLevel_any (k : Int) (w : World) : Calls Try.prog 65 #[.int .i64 k] w fun e w' => e = .returned (.bool (levB k)) ∧ w = w' := by
  by_cases h1 : 0 ≤ k
  · by_cases h2 : k ≤ 30
    · rw [show levB k = true from decide_eq_true ⟨h1, h2⟩]
      go_enter Try.func65, Try.ntmps65
      go_wp2
      go_ret
      exact ⟨rfl, rfl⟩
    · rw [show levB k = false from decide_eq_false (fun h => h2 h.2)]
      go_enter Try.func65, Try.ntmps65
      go_wp2
      go_ret
      exact ⟨rfl, rfl⟩
  · rw [show levB k = false from decide_eq_false (fun h => h1 h.1)]
    go_enter Try.func65, Try.ntmps65
    go_wp2
    go_ret
    exact ⟨rfl, rfl⟩
theorem few10_any (n k : Nat) (A : Option Addr) (w : World) :
    Calls Try.prog 12 #[.slice A n k] w fun e w' => e = .returned (.bool (decide ((n : Int) ≤ 300))) ∧ w = w' := by
  go_enter Try.func12, Try.ntmps12
  go_wp2
  go_ret
  exact ⟨rfl, rfl⟩
theorem size_up (t l : Int) (w : World) :
    Calls Try.prog 43 #[.agg #[.int .i64 t, .int .i64 l]] w fun e w' => e = .returned (.int .i64 (szB l)) ∧ Up w w' := by
  have KL := Lib.hid (isLevel_any l)
  by_cases h : 0 ≤ l ∧ l ≤ 30
  · have e0 : szB l = 2 ^ l.toNat := by unfold szB; rw [if_pos h]
    have hl : levB l = true := decide_eq_true h
    rw [hl] at KL
    rw [e0]
    obtain ⟨h1, h2⟩ := h
    have HW : Hid (2 ^ l.toNat = wrap64 (2 ^ l.toNat)) := Lib.hid (by
      have p1 := pow_le30 (a := l.toNat) (by omega)
      have p2 := pwB1 l.toNat
      generalize (2 : Int) ^ l.toNat = z at *
      unfold wrap64; omega)
    clear hl
    go_enter Try.func43, Try.ntmps43
    go_wp2_with (go_at_call 65; (with_reducible refine (KL.out _).mono ?_); rintro e w' ⟨rfl, rfl⟩)
    go_ret
    refine ⟨?_, ?_⟩
    · simp [HW.out.symm]
    · repeat (first | exact Up.refl _ | refine Up.alloc ?_ _ _ | refine Up.setCell ?_ (by first | (simp; done) | (simp; omega) | omega) _ | refine Up.drewN ?_ _ | refine Up.drew ?_)
  · have e0 : szB l = 0 := by unfold szB; rw [if_neg h]
    have hl : levB l = false := decide_eq_false h
    rw [hl] at KL
    rw [e0]
    clear hl e0
    go_enter Try.func43, Try.ntmps43
    go_wp2_with (go_at_call 65; (with_reducible refine (KL.out _).mono ?_); rintro e w' ⟨rfl, rfl⟩)
    go_ret
    refine ⟨rfl, ?_⟩
    repeat (first | exact Up.refl _ | refine Up.alloc ?_ _ _ | refine Up.setCell ?_ (by first | (simp; done) | (simp; omega) | omega) _ | refine Up.drewN ?_ _ | refine Up.drew ?_)

/-- The tick of the last bucket. -/
def lstZ (L : List It) : Int := (L.getD (L.length - 1) (0, 0)).1
def folB (L : List It) (t : Int) : Bool := tickB t && (decide (L.length = 0) || decide (lstZ L ≤ t))
theorem rlast_any (n k : Nat) (A : Option Addr) (L : List It) (hn : n ≤ 1000000) (w : World) (hS : Sl w A n L) :
    Calls Try.prog 44 #[.slice A n k] w fun e w' => e = .returned (.int .i64 (lstZ L)) ∧ w = w' := by
  cases n with
  | zero =>
    have e : L = [] := List.eq_nil_of_length_eq_zero hS.1
    subst e
    rw [show lstZ [] = 0 from rfl]
    go_enter Try.func44, Try.ntmps44
    go_wp2
    go_ret
    exact ⟨rfl, rfl⟩
  | succ m =>
    have e0 : lstZ L = (L.getD m (0, 0)).1 := by unfold lstZ; rw [hS.1]; rfl
    obtain ⟨b, o, rfl, d0, d1⟩ := hS.at_ (show m < m + 1 by omega)
    rw [e0]
    clear e0 d1 hS
    generalize (L.getD m (0, 0)).1 = p0 at *
    have t1 : (((m : Int) + 1) == 0) = false := by simp; omega
    have t3 : (m : Int) < (m : Int) + 1 := by omega
    have t4 : (m : Int) + 1 - 1 = m := by omega
    go_enter Try.func44, Try.ntmps44
    go_wp2
    go_ret
    exact ⟨rfl, rfl⟩
theorem follows_any (n k : Nat) (A : Option Addr) (L : List It) (t : Int) (hn : n ≤ 1000000) (w : World) (hS : Sl w A n L) :
    Calls Try.prog 46 #[.slice A n k, .int .i64 t] w fun e w' => e = .returned (.bool (folB L t)) ∧ w = w' := by
  have KT := Lib.hid (isTick10_any t)
  cases ht : tickB t with
  | false =>
    rw [ht] at KT
    rw [show folB L t = false by unfold folB; rw [ht]; rfl]
    clear ht hS
    go_enter Try.func46, Try.ntmps46
    go_wp2_with (go_at_call 64; (with_reducible refine (KT.out _).mono ?_); rintro e w' ⟨rfl, rfl⟩)
    go_ret
    exact ⟨rfl, rfl⟩
  | true =>
  rw [ht] at KT
  cases n with
  | zero =>
    rw [show folB L t = true by unfold folB; rw [ht, hS.1]; rfl]
    clear ht hS
    go_enter Try.func46, Try.ntmps46
    go_wp2_with (go_at_call 64; (with_reducible refine (KT.out _).mono ?_); rintro e w' ⟨rfl, rfl⟩)
    go_ret
    exact ⟨rfl, rfl⟩
  | succ m =>
    have e0 : folB L t = decide ((L.getD m (0, 0)).1 ≤ t) := by
      unfold folB lstZ
      rw [ht, hS.1, decide_eq_false (p := m + 1 = 0) (by omega)]
      rfl
    obtain ⟨b, o, rfl, d0, d1⟩ := hS.at_ (show m < m + 1 by omega)
    rw [e0]
    clear e0 d1 hS ht
    generalize (L.getD m (0, 0)).1 = p0 at *
    have t1 : (((m : Int) + 1) == 0) = false := by simp; omega
    have t3 : (m : Int) < (m : Int) + 1 := by omega
    have t4 : (m : Int) + 1 - 1 = m := by omega
    go_enter Try.func46, Try.ntmps46
    go_wp2_with (go_at_call 64; (with_reducible refine (KT.out _).mono ?_); rintro e w' ⟨rfl, rfl⟩)
    go_ret
    exact ⟨rfl, rfl⟩
end Go.Proofs.Ytnhekeohbnmodaa

/- What Total of package buckets and of its reference returns; hasRoom. -/
namespace Go.Proofs.Ytnhekeohbnmodaa
open Go.RowKit

theorem take_nx {L : List It} {i : Nat} (h : i < L.length) : L.take (i + 1) = L.take i ++ [L.getD i (0, 0)] := by
  rw [List.take_add_one]
  simp [List.getD, h]
theorem totB_take {L : List It} {i : Nat} (h : i < L.length) : totB (L.take (i + 1)) = totB (L.take i) + szB (L.getD i (0, 0)).2 := by
  rw [take_nx h, totB_app]; simp [totB]
theorem totB_take_high (L : List It) (i : Nat) : totB (L.take i) ≤ 1073741824 * (i : Int) := by
  have := totB_high (L.take i)
  rw [List.length_take] at this
  omega
theorem take_all {L : List It} {n : Nat} (h : L.length = n) : L.take n = L := List.take_of_length_le (by omega)
set_option maxHeartbeats 4000000 in
theorem total10_up (n k : Nat) (A : Option Addr) (L : List It) (hn : n ≤ 100000) (w : World) (hS : Sl w A n L) :
    Calls Try.prog 16 #[.slice A n k] w fun e w' => e = .returned (.int .i64 (totB L)) ∧ Up w w' := by
  have HL := Lib.hid hS.1
  have HS := Lib.hid hS
  have KZ := Lib.hid size_up
  clear hS
  go_enter Try.func16, Try.ntmps16
  go_wp2_with fail
  go_loopw [3, 8] (fun s t wr => ∃ i : Nat, s = .int .i64 (totB (L.take i)) ∧ t = .int .i64 i ∧ i ≤ n ∧ Up w wr) (fun _ t _ => n - (intOf t).toNat)
  case atStart => exact ⟨0, rfl, rfl, Nat.zero_le _, Up.refl _⟩
  case round =>
    obtain ⟨i, rfl, rfl, hin, hU⟩ := hrel
    have HU := Lib.hid hU
    clear hU
    by_cases hi : i < n
    · obtain ⟨b, o, rfl, d0, d1⟩ := (HS.out.up HU.out).at_ hi
      have HN1 := Lib.hid (totB_take (L := L) (i := i) (by rw [HL.out]; exact hi))
      have q1 := totB_low (L.take i)
      have q2 := totB_take_high L i
      generalize totB (L.take i) = s at *
      generalize (L.getD i (0, 0)).1 = p0 at *
      generalize (L.getD i (0, 0)).2 = p1 at *
      have q3 := szB_low p1
      have q4 := szB_high p1
      have f2 : (i : Int) < n := by omega
      have f3 : (0 : Int) ≤ i := by omega
      have K1 := Lib.hid (KZ.out p0 p1)
      generalize szB p1 = z at *
      go_wp2_with (go_at_call 43; (with_reducible refine (K1.out _).mono ?_); rintro e w2 ⟨rfl, hu2⟩; have HU2 := Lib.hid hu2; clear hu2)
      go_roundw
      case rel => exact ⟨i + 1, by rw [HN1.out], by go_num, by omega, (HU.out.alloc _ _).trans HU2.out⟩
      case measure => simp [intOf]; omega
    · obtain rfl : i = n := by omega
      rw [take_all HL.out]
      go_wp2_with fail
      go_ret
      exact ⟨rfl, HU.out⟩
set_option maxHeartbeats 4000000 in
theorem rtotal10_up (n k : Nat) (A : Option Addr) (L : List It) (hn : n ≤ 100000) (w : World) (hS : Sl w A n L) :
    Calls Try.prog 17 #[.slice A n k] w fun e w' => e = .returned (.int .i64 (totB L)) ∧ Up w w' := by
  have HL := Lib.hid hS.1
  have HS := Lib.hid hS
  clear hS
  go_enter Try.func17, Try.ntmps17
  go_wp2_with fail
  go_loopw [3, 8] (fun s t wr => ∃ i : Nat, s = .int .i64 (totB (L.take i)) ∧ t = .int .i64 i ∧ i ≤ n ∧ Up w wr) (fun _ t _ => n - (intOf t).toNat)
  case atStart => exact ⟨0, rfl, rfl, Nat.zero_le _, Up.refl _⟩
  case round =>
    obtain ⟨i, rfl, rfl, hin, hU⟩ := hrel
    have HU := Lib.hid hU
    clear hU
    by_cases hi : i < n
    · obtain ⟨b, o, rfl, d0, d1⟩ := (HS.out.up HU.out).at_ hi
      have HN1 := Lib.hid (totB_take (L := L) (i := i) (by rw [HL.out]; exact hi))
      have q1 := totB_low (L.take i)
      have q2 := totB_take_high L i
      generalize totB (L.take i) = s at *
      generalize (L.getD i (0, 0)).1 = p0 at *
      generalize (L.getD i (0, 0)).2 = p1 at *
      have f2 : (i : Int) < n := by omega
      have f3 : (0 : Int) ≤ i := by omega
      by_cases h1 : 0 ≤ p1
      · by_cases h2 : p1 ≤ 30
        · have e0 : Hid (totB (L.take (i + 1)) = wrap64 (s + wrap64 (2 ^ p1.toNat))) := Lib.hid (by
            rw [HN1.out]
            have q3 := szB_low p1
            have q4 := szB_high p1
            have e : szB p1 = 2 ^ p1.toNat := by unfold szB; rw [if_pos ⟨h1, h2⟩]
            rw [← e]
            unfold wrap64; omega)
          have hz : (IntKind.u64.wrap p1) = p1 := by rw [IntKind.wrap_u64]; omega
          clear HN1
          go_wp2_with fail
          go_roundw
          case rel => exact ⟨i + 1, by rw [e0.out], by go_num, by omega, HU.out.alloc _ _⟩
          case measure => simp [intOf]; omega
        · have e0 : Hid (totB (L.take (i + 1)) = s) := Lib.hid (by
            rw [HN1.out, show szB p1 = 0 by unfold szB; rw [if_neg (fun h => h2 h.2)]]; omega)
          clear HN1
          go_wp2_with fail
          go_roundw
          case rel => exact ⟨i + 1, by rw [e0.out], by go_num, by omega, HU.out.alloc _ _⟩
          case measure => simp [intOf]; omega
      · have e0 : Hid (totB (L.take (i + 1)) = s) := Lib.hid (by
          rw [HN1.out, show szB p1 = 0 by unfold szB; rw [if_neg (fun h => h1 h.1)]]; omega)
        clear HN1
        go_wp2_with fail
        go_roundw
        case rel => exact ⟨i + 1, by rw [e0.out], by go_num, by omega, HU.out.alloc _ _⟩
        case measure => simp [intOf]; omega
    · obtain rfl : i = n := by omega
      rw [take_all HL.out]
      go_wp2_with fail
      go_ret
      exact ⟨rfl, HU.out⟩

def rooB (L : List It) (n : Int) : Bool := decide (0 ≤ n ∧ n ≤ 1024) && (decide (n = 0) || decide (totB L + n ≤ 1073741824))
set_option maxHeartbeats 4000000 in
theorem hasRoom_up (n k : Nat) (A : Option Addr) (L : List It) (m : Int) (hn : n ≤ 100000) (w : World) (hS : Sl w A n L) :
    Calls Try.prog 47 #[.slice A n k, .int .i64 m] w fun e w' => e = .returned (.bool (rooB L m)) ∧ Up w w' := by
  have KT := Lib.hid (total10_up n k A L hn w hS)
  by_cases h1 : m < 0
  · rw [show rooB L m = false by unfold rooB; rw [decide_eq_false (p := 0 ≤ m ∧ m ≤ 1024) (by omega)]; rfl]
    go_enter Try.func47, Try.ntmps47
    go_wp2
    go_ret
    exact ⟨rfl, Up.refl _⟩
  by_cases h2 : 1024 < m
  · rw [show rooB L m = false by unfold rooB; rw [decide_eq_false (p := 0 ≤ m ∧ m ≤ 1024) (by omega)]; rfl]
    go_enter Try.func47, Try.ntmps47
    go_wp2
    go_ret
    exact ⟨rfl, Up.refl _⟩
  by_cases h3 : m = 0
  · subst h3
    rw [show rooB L 0 = true by unfold rooB; rfl]
    go_enter Try.func47, Try.ntmps47
    go_wp2
    go_ret
    exact ⟨rfl, Up.refl _⟩
  rw [show rooB L m = decide (totB L + m ≤ 1073741824) by unfold rooB; rw [decide_eq_true (p := 0 ≤ m ∧ m ≤ 1024) (by omega), decide_eq_false h3]; rfl]
  have t1 : (m == 0) = false := by simp [h3]
  have q1 := totB_low L
  have q2 := totB_high L
  rw [hS.1] at q2
  generalize totB L = z at *
  clear hS
  go_enter Try.func47, Try.ntmps47
  go_wp2_with (go_at_call 16; (with_reducible refine KT.out.mono ?_); rintro e w2 ⟨rfl, hu2⟩)
  go_ret
  exact ⟨by simp, hu2⟩
end Go.Proofs.Ytnhekeohbnmodaa

/- inOrder of package buckets: what it asks of each bucket. -/
namespace Go.Proofs.Ytnhekeohbnmodaa
open Go.RowKit

/-- What is asked of the bucket at place j. -/
def okO (L : List It) (j : Nat) : Prop := tickB (L.getD j (0, 0)).1 = true ∧ levB (L.getD j (0, 0)).2 = true ∧ (0 < j → (L.getD (j - 1) (0, 0)).1 ≤ (L.getD j (0, 0)).1 ∧ (L.getD j (0, 0)).2 ≤ (L.getD (j - 1) (0, 0)).2)
instance (L : List It) (j : Nat) : Decidable (okO L j) := by unfold okO; infer_instance
def orB (L : List It) : Bool := decide (∀ j, j < L.length → okO L j)
theorem orB_bad {L : List It} {j : Nat} (hj : j < L.length) (h : ¬ okO L j) : orB L = false := decide_eq_false (fun hp => h (hp j hj))
theorem gD_mem {L : List It} {j : Nat} (h : j < L.length) : L.getD j (0, 0) ∈ L := by simp [List.getD, h]
theorem gD_at {L : List It} {j : Nat} (h : j < L.length) : L.getD j (0, 0) = L[j] := by simp [List.getD, h]
theorem adj_all {f : It → Int} {L : List It} (h : ∀ j, j < L.length → 0 < j → f (L.getD (j - 1) (0, 0)) ≤ f (L.getD j (0, 0))) : ∀ d i, i + d < L.length → f (L.getD i (0, 0)) ≤ f (L.getD (i + d) (0, 0)) := by
  intro d
  induction d with
  | zero => intro i _; exact Int.le_refl _
  | succ d ih =>
    intro i hi
    have h1 := ih i (by omega)
    have h2 := h (i + (d + 1)) hi (by omega)
    rw [show i + (d + 1) - 1 = i + d by omega] at h2
    omega
theorem orB_iff {L : List It} : orB L = true ↔ Rg L ∧ Ds L ∧ As L := by
  unfold orB
  rw [decide_eq_true_eq]
  constructor
  · intro h
    refine ⟨fun x hx => ?_, ?_, ?_⟩
    · obtain ⟨j, hj, rfl⟩ := List.mem_iff_getElem.1 hx
      obtain ⟨g1, g2, _⟩ := h j hj
      rw [gD_at hj] at g1 g2
      have := tickB_true g1; have := levB_true g2
      omega
    · unfold Ds
      rw [List.pairwise_iff_getElem]
      intro i j hi hj hij
      have g := adj_all (f := fun x => -x.2) (L := L) (fun j hj h0 => by have := ((h j hj).2.2 h0).2; omega) (j - i) i (by omega)
      rw [show i + (j - i) = j by omega, gD_at hi, gD_at hj] at g
      omega
    · unfold As
      rw [List.pairwise_iff_getElem]
      intro i j hi hj hij
      have g := adj_all (f := fun x => x.1) (L := L) (fun j hj h0 => ((h j hj).2.2 h0).1) (j - i) i (by omega)
      rw [show i + (j - i) = j by omega, gD_at hi, gD_at hj] at g
      exact g
  · rintro ⟨h1, h2, h3⟩ j hj
    have r := h1 _ (gD_mem hj)
    refine ⟨tickB_yes r.1.1 r.1.2, decide_eq_true r.2, fun h0 => ?_⟩
    rw [gD_at hj, gD_at (show j - 1 < L.length by omega)]
    exact ⟨List.pairwise_iff_getElem.1 h3 (j - 1) j (by omega) hj (by omega), List.pairwise_iff_getElem.1 h2 (j - 1) j (by omega) hj (by omega)⟩
/-- The bucket before a place. -/
def prv (L : List It) (i : Nat) : It := if i = 0 then (0, 30) else L.getD (i - 1) (0, 0)
theorem okO_prv {L : List It} {i : Nat} : okO L i ↔ tickB (L.getD i (0, 0)).1 = true ∧ levB (L.getD i (0, 0)).2 = true ∧ (prv L i).1 ≤ (L.getD i (0, 0)).1 ∧ (L.getD i (0, 0)).2 ≤ (prv L i).2 := by
  unfold okO prv
  by_cases h : i = 0
  · subst h
    rw [if_pos rfl]
    constructor
    · rintro ⟨a, b, _⟩
      have := tickB_true a; have := levB_true b
      exact ⟨a, b, by simp only; omega, by simp only; omega⟩
    · rintro ⟨a, b, _⟩
      exact ⟨a, b, fun h => absurd h (by omega)⟩
  · rw [if_neg h]
    constructor
    · rintro ⟨a, b, c⟩; exact ⟨a, b, c (by omega)⟩
    · rintro ⟨a, b, c⟩; exact ⟨a, b, fun _ => c⟩

set_option maxHeartbeats 8000000 in
set_option maxRecDepth 100000 in
theorem inOrder_up (n k : Nat) (A : Option Addr) (L : List It) (hn : n ≤ 100000) (w : World) (hS : Sl w A n L) :
    Calls Try.prog 39 #[.slice A n k] w fun e w' => e = .returned (.bool (orB L)) ∧ Up w w' := by
  have HL := Lib.hid hS.1
  have HS := Lib.hid hS
  have KT := Lib.hid isTick10_any
  have KL := Lib.hid isLevel_any
  clear hS
  have HB := Lib.hid (fun j (hj : j < n) => orB_bad (L := L) (j := j) (by rw [HL.out]; exact hj))
  have HG := Lib.hid (show (∀ j, j < n → okO L j) → orB L = true from fun h => decide_eq_true (fun j hj => h j (by rw [← HL.out]; exact hj)))
  generalize orB L = r at *
  go_enter Try.func39, Try.ntmps39
  go_wp2_with fail
  go_loopw [9] (fun t wr => ∃ i : Nat, t = .int .i64 i ∧ i ≤ n ∧ Hid (∀ j, j < i → okO L j) ∧ wr.cell? ⟨w.heap.size, 0, none⟩ = some (.int .i64 (prv L i).1) ∧ wr.cell? ⟨w.heap.size, 1, none⟩ = some (.int .i64 (prv L i).2) ∧ Up w wr) (fun t _ => n - (intOf t).toNat)
  case atStart => exact ⟨0, rfl, Nat.zero_le _, Lib.hid (fun j hj => absurd hj (by omega)), by simp [go_sem, prv], by simp [go_sem, prv], (Up.refl _).alloc _ _⟩
  case round =>
    obtain ⟨i, rfl, hin, HA, c0, c1, hU⟩ := hrel
    have HU := Lib.hid hU
    have fz := hU.own 0 0
    have fz1 := hU.own 0 1
    simp only [Nat.add_zero] at fz fz1
    clear hU
    by_cases hi : i < n
    · obtain ⟨b, o, rfl, d0, d1⟩ := (HS.out.up HU.out).at_ hi
      have HO := Lib.hid (okO_prv (L := L) (i := i))
      have HP : Hid (prv L (i + 1) = L.getD i (0, 0)) := Lib.hid (by unfold prv; rw [if_neg (by omega), Nat.add_sub_cancel])
      have HP1 := Lib.hid (congrArg Prod.fst HP.out)
      have HP2 := Lib.hid (congrArg Prod.snd HP.out)
      have HR := Lib.hid (HB.out i hi)
      clear HP
      generalize (L.getD i (0, 0)).1 = p0 at *
      generalize (L.getD i (0, 0)).2 = p1 at *
      generalize (prv L i).1 = q0 at *
      generalize (prv L i).2 = q1 at *
      have f2 : (i : Int) < n := by omega
      have f3 : (0 : Int) ≤ i := by omega
      have K1 := Lib.hid (KT.out p0)
      have K2 := Lib.hid (KL.out p1)
      have lt := World.block_lt_of_cell? _ _ c0
      simp only at lt
      have ne : ¬ wr.heap.size = w.heap.size := by omega
      cases hx : tickB p0 with
      | false =>
        obtain rfl : r = false := HR.out (fun h => by have := HO.out.1 h; rw [hx] at this; cases this.1)
        rw [hx] at K1
        clear hx HO HR HB HG
        go_wp2_with (go_at_call 64; (with_reducible refine (K1.out _).mono ?_); rintro e w' ⟨rfl, rfl⟩)
        go_ret
        exact ⟨rfl, HU.out.alloc _ _⟩
      | true =>
      rw [hx] at K1
      cases hy : levB p1 with
      | false =>
        obtain rfl : r = false := HR.out (fun h => by have := HO.out.1 h; rw [hy] at this; cases this.2.1)
        rw [hy] at K2
        clear hx hy HO HR HB HG
        go_wp2_with (first | (go_at_call 64; (with_reducible refine (K1.out _).mono ?_); rintro e w' ⟨rfl, rfl⟩) | (go_at_call 65; (with_reducible refine (K2.out _).mono ?_); rintro e w' ⟨rfl, rfl⟩))
        go_ret
        exact ⟨rfl, HU.out.alloc _ _⟩
      | true =>
      rw [hy] at K2
      by_cases h1 : p0 < q0
      · obtain rfl : r = false := HR.out (fun h => by have := HO.out.1 h; omega)
        clear hx hy HO HR HB HG
        go_wp2_with (first | (go_at_call 64; (with_reducible refine (K1.out _).mono ?_); rintro e w' ⟨rfl, rfl⟩) | (go_at_call 65; (with_reducible refine (K2.out _).mono ?_); rintro e w' ⟨rfl, rfl⟩))
        go_ret
        exact ⟨rfl, HU.out.alloc _ _⟩
      by_cases h2 : q1 < p1
      · obtain rfl : r = false := HR.out (fun h => by have := HO.out.1 h; omega)
        clear hx hy HO HR HB HG
        go_wp2_with (first | (go_at_call 64; (with_reducible refine (K1.out _).mono ?_); rintro e w' ⟨rfl, rfl⟩) | (go_at_call 65; (with_reducible refine (K2.out _).mono ?_); rintro e w' ⟨rfl, rfl⟩))
        go_ret
        exact ⟨rfl, HU.out.alloc _ _⟩
      have HA1 : Hid (∀ j, j < i + 1 → okO L j) := Lib.hid (fun j hj => by
        rcases Nat.lt_or_ge j i with g | g
        · exact HA.out j g
        · obtain rfl : j = i := by omega
          exact HO.out.2 ⟨hx, hy, by omega, by omega⟩)
      clear hx hy HO HR HA
      go_wp2_with (first | (go_at_call 64; (with_reducible refine (K1.out _).mono ?_); rintro e w' ⟨rfl, rfl⟩) | (go_at_call 65; (with_reducible refine (K2.out _).mono ?_); rintro e w' ⟨rfl, rfl⟩))
      go_roundw
      case rel =>
        refine ⟨i + 1, by go_num, by omega, HA1, ?_, ?_, ?_⟩
        · rw [HP1.out]; simp [go_sem, *]
        · rw [HP2.out]; simp [go_sem, *]
        · have := HU.out
          refine Up.alloc (Up.setCell (Up.setCell this ?_ _) ?_ _) _ _
          · exact Nat.le_refl _
          · exact Nat.le_refl _
      case measure => simp [intOf]; omega
    · obtain rfl : i = n := by omega
      obtain rfl : r = true := HG.out HA.out
      clear HG HB HA
      go_wp2_with fail
      go_ret
      exact ⟨rfl, HU.out⟩
end Go.Proofs.Ytnhekeohbnmodaa
