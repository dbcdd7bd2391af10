/- Texts of these claims, one after the other. -/
import Derived.Test.YtfdjhahnggdklaaZCClock
import Derived.Test.YtfdjhahnggdklaaZGBasem8
import Derived.Test.YtfdjhahnggdklaaZGLawm3
import Derived.Test.YtfdjhahnggdklaaZWCmpm5
import Derived.Test.YtfdjhahnggdklaaZWMathm9
import Derived.Test.YtfdjhahnggdklaaZWMul
namespace Go.Proofs.Ytfdjhahnggdklaa
open Go.RowKit

def kB (k : Int) : Bool := decide (1 ≤ k ∧ k ≤ 128)
def levB (l : Int) : Bool := decide (0 ≤ l ∧ l ≤ 30)
theorem kB_true {k : Int} (h : kB k = true) : 1 ≤ k ∧ k ≤ 128 := of_decide_eq_true h
theorem levB_true {k : Int} (h : levB k = true) : 0 ≤ k ∧ k ≤ 30 := of_decide_eq_true h
theorem isK_any (k : Int) (w : World) : Calls Try.prog 86 #[.int .i64 k] w fun e w' => e = .returned (.bool (kB k)) ∧ w = w' := by
  by_cases h1 : 1 ≤ k
  · by_cases h2 : k ≤ 128
    · rw [show kB k = true from decide_eq_true ⟨h1, h2⟩]
      go_enter Try.func86, Try.ntmps86
      go_wp2
      go_ret
      exact ⟨rfl, rfl⟩
    · rw [show kB k = false from decide_eq_false (fun h => h2 h.2)]
      go_enter Try.func86, Try.ntmps86
      go_wp2
      go_ret
      exact ⟨rfl, rfl⟩
  · rw [show kB k = false from decide_eq_false (fun h => h1 h.1)]
    go_enter Try.func86, Try.ntmps86
    go_wp2
    go_ret
    exact ⟨rfl, rfl⟩
theorem mayK_any (k : Int) (w : World) : Calls Try.prog 62 #[.int .i64 k] w fun e w' => e = .returned (.bool (kB k)) ∧ w = w' := by
  by_cases h1 : 1 ≤ k
  · by_cases h2 : k ≤ 128
    · rw [show kB k = true from decide_eq_true ⟨h1, h2⟩]
      go_enter Try.func62, Try.ntmps62
      go_wp2
      go_ret
      exact ⟨rfl, rfl⟩
    · rw [show kB k = false from decide_eq_false (fun h => h2 h.2)]
      go_enter Try.func62, Try.ntmps62
      go_wp2
      go_ret
      exact ⟨rfl, rfl⟩
  · rw [show kB k = false from decide_eq_false (fun h => h1 h.1)]
    go_enter Try.func62, Try.ntmps62
    go_wp2
    go_ret
    exact ⟨rfl, rfl⟩
theorem isTick10_any (k : Int) (w : World) : Calls Try.prog 100 #[.int .i64 k] w fun e w' => e = .returned (.bool (tickB k)) ∧ w = w' := by
  by_cases h1 : 0 ≤ k
  · by_cases h2 : k ≤ 16777216
    · rw [show tickB k = true from decide_eq_true ⟨h1, h2⟩]
      go_enter Try.func100, Try.ntmps100
      go_wp2
      go_ret
      exact ⟨rfl, rfl⟩
    · rw [show tickB k = false from decide_eq_false (fun h => h2 h.2)]
      go_enter Try.func100, Try.ntmps100
      go_wp2
      go_ret
      exact ⟨rfl, rfl⟩
  · rw [show tickB k = false from decide_eq_false (fun h => h1 h.1)]
    go_enter Try.func100, Try.ntmps100
    go_wp2
    go_ret
    exact ⟨rfl, rfl⟩
theorem isLevel_any (k : Int) (w : World) : Calls Try.prog 99 #[.int .i64 k] w fun e w' => e = .returned (.bool (levB k)) ∧ w = w' := by
  by_cases h1 : 0 ≤ k
  · by_cases h2 : k ≤ 30
    · rw [show levB k = true from decide_eq_true ⟨h1, h2⟩]
      go_enter Try.func99, Try.ntmps99
      go_wp2
      go_ret
      exact ⟨rfl, rfl⟩
    · rw [show levB k = false from decide_eq_false (fun h => h2 h.2)]
      go_enter Try.func99, Try.ntmps99
      go_wp2
      go_ret
      exact ⟨rfl, rfl⟩
  · rw [show levB k = false from decide_eq_false (fun h => h1 h.1)]
    go_enter Try.func99, Try.ntmps99
    go_wp2
    go_ret
    exact ⟨rfl, rfl⟩
theorem size_up (t l : Int) (w : World) :
    Calls Try.prog 73 #[.agg #[.int .i64 t, .int .i64 l]] w fun e w' => e = .returned (.int .i64 (szB l)) ∧ Up w w' := by
  have KL := Lib.hid (isLevel_any l)
  by_cases h : 0 ≤ l ∧ l ≤ 30
  · have e0 : szB l = 2 ^ l.toNat := by unfold szB; rw [if_pos h]
    have hl : levB l = true := decide_eq_true h
    rw [hl] at KL
    rw [e0]
    obtain ⟨h1, h2⟩ := h
    have HW : Hid (2 ^ l.toNat = wrap64 (2 ^ l.toNat)) := Lib.hid (by
      have p1 := pow_le30 (a := l.toNat) (by omega)
      have p2 := pwB1 l.toNat
      generalize (2 : Int) ^ l.toNat = z at *
      unfold wrap64; omega)
    clear hl
    go_enter Try.func73, Try.ntmps73
    go_wp2_with (go_at_call 99; (with_reducible refine (KL.out _).mono ?_); rintro e w' ⟨rfl, rfl⟩)
    go_ret
    refine ⟨?_, ?_⟩
    · simp [HW.out.symm]
    · repeat (first | exact Up.refl _ | refine Up.alloc ?_ _ _ | refine Up.setCell ?_ (by first | (simp; done) | (simp; omega) | omega) _ | refine Up.drewN ?_ _ | refine Up.drew ?_)
  · have e0 : szB l = 0 := by unfold szB; rw [if_neg h]
    have hl : levB l = false := decide_eq_false h
    rw [hl] at KL
    rw [e0]
    clear hl e0
    go_enter Try.func73, Try.ntmps73
    go_wp2_with (go_at_call 99; (with_reducible refine (KL.out _).mono ?_); rintro e w' ⟨rfl, rfl⟩)
    go_ret
    refine ⟨rfl, ?_⟩
    repeat (first | exact Up.refl _ | refine Up.alloc ?_ _ _ | refine Up.setCell ?_ (by first | (simp; done) | (simp; omega) | omega) _ | refine Up.drewN ?_ _ | refine Up.drew ?_)

/-- The tick of the last bucket. -/
def lstZ (L : List It) : Int := (L.getD (L.length - 1) (0, 0)).1
def folB (L : List It) (t : Int) : Bool := tickB t && (decide (L.length = 0) || decide (lstZ L ≤ t))
theorem rlast_any (n k : Nat) (A : Option Addr) (L : List It) (hn : n ≤ 1000000) (w : World) (hS : Sl w A n L) :
    Calls Try.prog 79 #[.slice A n k] w fun e w' => e = .returned (.int .i64 (lstZ L)) ∧ w = w' := by
  cases n with
  | zero =>
    have e : L = [] := List.eq_nil_of_length_eq_zero hS.1
    subst e
    rw [show lstZ [] = 0 from rfl]
    go_enter Try.func79, Try.ntmps79
    go_wp2
    go_ret
    exact ⟨rfl, rfl⟩
  | succ m =>
    have e0 : lstZ L = (L.getD m (0, 0)).1 := by unfold lstZ; rw [hS.1]; rfl
    obtain ⟨b, o, rfl, d0, d1⟩ := hS.at_ (show m < m + 1 by omega)
    rw [e0]
    clear e0 d1 hS
    generalize (L.getD m (0, 0)).1 = p0 at *
    have t1 : (((m : Int) + 1) == 0) = false := by simp; omega
    have t3 : (m : Int) < (m : Int) + 1 := by omega
    have t4 : (m : Int) + 1 - 1 = m := by omega
    go_enter Try.func79, Try.ntmps79
    go_wp2
    go_ret
    exact ⟨rfl, rfl⟩
theorem follows_any (n k : Nat) (A : Option Addr) (L : List It) (t : Int) (hn : n ≤ 1000000) (w : World) (hS : Sl w A n L) :
    Calls Try.prog 74 #[.slice A n k, .int .i64 t] w fun e w' => e = .returned (.bool (folB L t)) ∧ w = w' := by
  have KT := Lib.hid (isTick10_any t)
  cases ht : tickB t with
  | false =>
    rw [ht] at KT
    rw [show folB L t = false by unfold folB; rw [ht]; rfl]
    clear ht hS
    go_enter Try.func74, Try.ntmps74
    go_wp2_with (go_at_call 100; (with_reducible refine (KT.out _).mono ?_); rintro e w' ⟨rfl, rfl⟩)
    go_ret
    exact ⟨rfl, rfl⟩
  | true =>
  rw [ht] at KT
  cases n with
  | zero =>
    rw [show folB L t = true by unfold folB; rw [ht, hS.1]; rfl]
    clear ht hS
    go_enter Try.func74, Try.ntmps74
    go_wp2_with (go_at_call 100; (with_reducible refine (KT.out _).mono ?_); rintro e w' ⟨rfl, rfl⟩)
    go_ret
    exact ⟨rfl, rfl⟩
  | succ m =>
    have e0 : folB L t = decide ((L.getD m (0, 0)).1 ≤ t) := by
      unfold folB lstZ
      rw [ht, hS.1, decide_eq_false (p := m + 1 = 0) (by omega)]
      rfl
    obtain ⟨b, o, rfl, d0, d1⟩ := hS.at_ (show m < m + 1 by omega)
    rw [e0]
    clear e0 d1 hS ht
    generalize (L.getD m (0, 0)).1 = p0 at *
    have t1 : (((m : Int) + 1) == 0) = false := by simp; omega
    have t3 : (m : Int) < (m : Int) + 1 := by omega
    have t4 : (m : Int) + 1 - 1 = m := by omega
    go_enter Try.func74, Try.ntmps74
    go_wp2_with (go_at_call 100; (with_reducible refine (KT.out _).mono ?_); rintro e w' ⟨rfl, rfl⟩)
    go_ret
    exact ⟨rfl, rfl⟩
end Go.Proofs.Ytfdjhahnggdklaa

namespace Go.Proofs.Ytfdjhahnggdklaa
open Go.RowKit

theorem take_nx {L : List It} {i : Nat} (h : i < L.length) : L.take (i + 1) = L.take i ++ [L.getD i (0, 0)] := by
  rw [List.take_add_one]
  simp [List.getD, h]
theorem totB_take {L : List It} {i : Nat} (h : i < L.length) : totB (L.take (i + 1)) = totB (L.take i) + szB (L.getD i (0, 0)).2 := by
  rw [take_nx h, totB_app]; simp [totB]
theorem totB_take_high (L : List It) (i : Nat) : totB (L.take i) ≤ 1073741824 * (i : Int) := by
  have := totB_high (L.take i)
  rw [List.length_take] at this
  omega
theorem take_all {L : List It} {n : Nat} (h : L.length = n) : L.take n = L := List.take_of_length_le (by omega)
set_option maxHeartbeats 4000000 in
theorem total10_up (n k : Nat) (A : Option Addr) (L : List It) (hn : n ≤ 100000) (w : World) (hS : Sl w A n L) :
    Calls Try.prog 45 #[.slice A n k] w fun e w' => e = .returned (.int .i64 (totB L)) ∧ Up w w' := by
  have HL := Lib.hid hS.1
  have HS := Lib.hid hS
  have KZ := Lib.hid size_up
  clear hS
  go_enter Try.func45, Try.ntmps45
  go_wp2_with fail
  go_loopw [3, 8] (fun s t wr => ∃ i : Nat, s = .int .i64 (totB (L.take i)) ∧ t = .int .i64 i ∧ i ≤ n ∧ Up w wr) (fun _ t _ => n - (intOf t).toNat)
  case atStart => exact ⟨0, rfl, rfl, Nat.zero_le _, Up.refl _⟩
  case round =>
    obtain ⟨i, rfl, rfl, hin, hU⟩ := hrel
    have HU := Lib.hid hU
    clear hU
    by_cases hi : i < n
    · obtain ⟨b, o, rfl, d0, d1⟩ := (HS.out.up HU.out).at_ hi
      have HN1 := Lib.hid (totB_take (L := L) (i := i) (by rw [HL.out]; exact hi))
      have q1 := totB_low (L.take i)
      have q2 := totB_take_high L i
      generalize totB (L.take i) = s at *
      generalize (L.getD i (0, 0)).1 = p0 at *
      generalize (L.getD i (0, 0)).2 = p1 at *
      have q3 := szB_low p1
      have q4 := szB_high p1
      have f2 : (i : Int) < n := by omega
      have f3 : (0 : Int) ≤ i := by omega
      have K1 := Lib.hid (KZ.out p0 p1)
      generalize szB p1 = z at *
      go_wp2_with (go_at_call 73; (with_reducible refine (K1.out _).mono ?_); rintro e w2 ⟨rfl, hu2⟩; have HU2 := Lib.hid hu2; clear hu2)
      go_roundw
      case rel => exact ⟨i + 1, by rw [HN1.out], by go_num, by omega, (HU.out.alloc _ _).trans HU2.out⟩
      case measure => simp [intOf]; omega
    · obtain rfl : i = n := by omega
      rw [take_all HL.out]
      go_wp2_with fail
      go_ret
      exact ⟨rfl, HU.out⟩
set_option maxHeartbeats 4000000 in
theorem rtotal10_up (n k : Nat) (A : Option Addr) (L : List It) (hn : n ≤ 100000) (w : World) (hS : Sl w A n L) :
    Calls Try.prog 47 #[.slice A n k] w fun e w' => e = .returned (.int .i64 (totB L)) ∧ Up w w' := by
  have HL := Lib.hid hS.1
  have HS := Lib.hid hS
  clear hS
  go_enter Try.func47, Try.ntmps47
  go_wp2_with fail
  go_loopw [3, 8] (fun s t wr => ∃ i : Nat, s = .int .i64 (totB (L.take i)) ∧ t = .int .i64 i ∧ i ≤ n ∧ Up w wr) (fun _ t _ => n - (intOf t).toNat)
  case atStart => exact ⟨0, rfl, rfl, Nat.zero_le _, Up.refl _⟩
  case round =>
    obtain ⟨i, rfl, rfl, hin, hU⟩ := hrel
    have HU := Lib.hid hU
    clear hU
    by_cases hi : i < n
    · obtain ⟨b, o, rfl, d0, d1⟩ := (HS.out.up HU.out).at_ hi
      have HN1 := Lib.hid (totB_take (L := L) (i := i) (by rw [HL.out]; exact hi))
      have q1 := totB_low (L.take i)
      have q2 := totB_take_high L i
      generalize totB (L.take i) = s at *
      generalize (L.getD i (0, 0)).1 = p0 at *
      generalize (L.getD i (0, 0)).2 = p1 at *
      have f2 : (i : Int) < n := by omega
      have f3 : (0 : Int) ≤ i := by omega
      by_cases h1 : 0 ≤ p1
      · by_cases h2 : p1 ≤ 30
        · have e0 : Hid (totB (L.take (i + 1)) = wrap64 (s + wrap64 (2 ^ p1.toNat))) := Lib.hid (by
            rw [HN1.out]
            have q3 := szB_low p1
            have q4 := szB_high p1
            have e : szB p1 = 2 ^ p1.toNat := by unfold szB; rw [if_pos ⟨h1, h2⟩]
            rw [← e]
            unfold wrap64; omega)
          have hz : (IntKind.u64.wrap p1) = p1 := by rw [IntKind.wrap_u64]; omega
          clear HN1
          go_wp2_with fail
          go_roundw
          case rel => exact ⟨i + 1, by rw [e0.out], by go_num, by omega, HU.out.alloc _ _⟩
          case measure => simp [intOf]; omega
        · have e0 : Hid (totB (L.take (i + 1)) = s) := Lib.hid (by
            rw [HN1.out, show szB p1 = 0 by unfold szB; rw [if_neg (fun h => h2 h.2)]]; omega)
          clear HN1
          go_wp2_with fail
          go_roundw
          case rel => exact ⟨i + 1, by rw [e0.out], by go_num, by omega, HU.out.alloc _ _⟩
          case measure => simp [intOf]; omega
      · have e0 : Hid (totB (L.take (i + 1)) = s) := Lib.hid (by
          rw [HN1.out, show szB p1 = 0 by unfold szB; rw [if_neg (fun h => h1 h.1)]]; omega)
        clear HN1
        go_wp2_with fail
        go_roundw
        case rel => exact ⟨i + 1, by rw [e0.out], by go_num, by omega, HU.out.alloc _ _⟩
        case measure => simp [intOf]; omega
    · obtain rfl : i = n := by omega
      rw [take_all HL.out]
      go_wp2_with fail
      go_ret
      exact ⟨rfl, HU.out⟩

def rooB (L : List It) (n : Int) : Bool := decide (0 ≤ n ∧ n ≤ 1024) && (decide (n = 0) || decide (totB L + n ≤ 1073741824))
set_option maxHeartbeats 4000000 in
theorem hasRoom_up (n k : Nat) (A : Option Addr) (L : List It) (m : Int) (hn : n ≤ 100000) (w : World) (hS : Sl w A n L) :
    Calls Try.prog 75 #[.slice A n k, .int .i64 m] w fun e w' => e = .returned (.bool (rooB L m)) ∧ Up w w' := by
  have KT := Lib.hid (total10_up n k A L hn w hS)
  by_cases h1 : m < 0
  · rw [show rooB L m = false by unfold rooB; rw [decide_eq_false (p := 0 ≤ m ∧ m ≤ 1024) (by omega)]; rfl]
    go_enter Try.func75, Try.ntmps75
    go_wp2
    go_ret
    exact ⟨rfl, Up.refl _⟩
  by_cases h2 : 1024 < m
  · rw [show rooB L m = false by unfold rooB; rw [decide_eq_false (p := 0 ≤ m ∧ m ≤ 1024) (by omega)]; rfl]
    go_enter Try.func75, Try.ntmps75
    go_wp2
    go_ret
    exact ⟨rfl, Up.refl _⟩
  by_cases h3 : m = 0
  · subst h3
    rw [show rooB L 0 = true by unfold rooB; rfl]
    go_enter Try.func75, Try.ntmps75
    go_wp2
    go_ret
    exact ⟨rfl, Up.refl _⟩
  rw [show rooB L m = decide (totB L + m ≤ 1073741824) by unfold rooB; rw [decide_eq_true (p := 0 ≤ m ∧ m ≤ 1024) (by omega), decide_eq_false h3]; rfl]
  have t1 : (m == 0) = false := by simp [h3]
  have q1 := totB_low L
  have q2 := totB_high L
  rw [hS.1] at q2
  generalize totB L = z at *
  clear hS
  go_enter Try.func75, Try.ntmps75
  go_wp2_with (go_at_call 45; (with_reducible refine KT.out.mono ?_); rintro e w2 ⟨rfl, hu2⟩)
  go_ret
  exact ⟨by simp, hu2⟩
end Go.Proofs.Ytfdjhahnggdklaa

namespace Go.Proofs.Ytfdjhahnggdklaa
open Go.RowKit

/-- A row of the call's own. -/
def Rw (w0 w : World) (e : TypeId) (sz : Nat) (v : Value) (n : Nat) (cs : List Value) : Prop := w.ownsRow w0.heap.size e sz v n cs
theorem Rw.nil (w0 w : World) (e : TypeId) (sz : Nat) : Rw w0 w e sz (.slice none 0 0) 0 [] := ⟨by simp, Or.inl ⟨rfl, rfl⟩⟩
theorem Rw.of_up {w0 w w' : World} {e : TypeId} {sz n : Nat} {v : Value} {cs : List Value} (h : Rw w0 w e sz v n cs) (hu : Up w w') : Rw w0 w' e sz v n cs := by
  refine ⟨h.1, ?_⟩
  rcases h.2 with h0 | ⟨g, cap, cur, h1, h2, h3, h4⟩
  · exact Or.inl h0
  · exact Or.inr ⟨g, cap, cur, h1, h2, Blk.up (t := e) h3 hu, h4⟩
/-- Two addresses in different blocks. -/
def Apt (A B : Option Addr) : Prop := ∀ g o o', A = some ⟨g, o, none⟩ → B = some ⟨g, o', none⟩ → False
theorem Apt.symm {A B : Option Addr} (h : Apt A B) : Apt B A := fun g o o' h1 h2 => h g o' o h2 h1
theorem Rw.lt {w0 w : World} {e : TypeId} {sz n k : Nat} {B : Option Addr} {cs : List Value} (h : Rw w0 w e sz (.slice B n k) n cs) : ∀ g o, B = some ⟨g, o, none⟩ → g < w.heap.size := by
  rintro g o rfl
  rcases h.2 with ⟨h0, _⟩ | ⟨g2, cap, cur, h1, h2, h3, h4⟩
  · cases h0
  · cases h1
    exact Blk.lt (t := e) h3

theorem appendR (sl e ty : TypeId) (z : Value) (sz bt : Nat) (ht : Try.prog.underlying sl = some (.slice e)) (hinf : (Try.prog.info? e).map (fun i => (i.zero, i.size, i.bytes)) = some (some z, sz, bt)) (hzs : z.cells.size = sz) (hbt : bt ≤ 1000)
    (w0 w : World) (v : Value) (n : Nat) (cs : List Value) (hO : Rw w0 w e sz v n cs) (hu : Up w0 w) (b o m c : Nat) (ds : List Value) (hd : ds.length = m * sz) (h0 : 0 < m) (hcell : ∀ j u, ds[j]? = some u → w.cell? ⟨b, o + j, none⟩ = some u) (hone : ∀ u ∈ ds, u.oneCell' = true) (hlen : n + m ≤ 1000000) :
    ∃ g' k' w', (Builtin.append_ #[sl, sl] ty #[v, .slice (some ⟨b, o, none⟩) m c]).run Try.prog w = .ok (.slice (some ⟨g', 0, none⟩) (n + m) k') w' ∧ Rw w0 w' e sz (.slice (some ⟨g', 0, none⟩) (n + m) k') (n + m) (cs ++ ds) ∧ Up w0 w' ∧
      (w.heap.size ≤ g' ∨ ∃ n0 k0, v = .slice (some ⟨g', 0, none⟩) n0 k0) ∧ ∀ x t xs, Blk w x t xs → x ≠ g' → Blk w' x t xs := by
  obtain ⟨i, hi, hz, hs, hb⟩ := info_parts hinf
  have h63 : n + m ≤ maxLen := by simp only [maxLen]; omega
  have hbase := hu.size
  have hLn : cs.length = n * sz := hO.1
  have hfl : (cs ++ ds).length = (n + m) * sz := by rw [List.length_append, hLn, hd, Nat.add_mul]
  have hbm : (n + m) * bt ≤ 140737488351232 := Nat.le_trans (Nat.mul_le_mul hlen hbt) (by decide)
  have hmm : m * bt ≤ 140737488351232 := Nat.le_trans (Nat.mul_le_mul_right _ (by omega)) hbm
  have hnews : ∀ j u, ds[j]? = some u → w.cell? ((⟨b, o, none⟩ : Addr).add j) = some u := fun j u hj => by rw [add_at]; exact hcell j u hj
  have hl : ds.length = m * i.size := by rw [hd, hs]
  have grown : ∀ (old : Nat), old < n + m →
    (w.drew.alloc (.cells (cs.toArray ++ ds.toArray ++ Builtin.zeroCells z.cells (grownCap w (n + m) old e - (n + m))) e)).ownsRow w0.heap.size e sz
      (.slice (some ⟨w.heap.size, 0, none⟩) (n + m) (grownCap w (n + m) old e)) (n + m) (cs ++ ds) := by
    intro old ho
    have hge := grownCap_ge w (n + m) old e
    have hcm : grownCap w (n + m) old e ≤ maxLen := grownCap_le_maxLen w (n + m) old _ h63
    refine ⟨hfl, .inr ⟨w.heap.size, _, _, rfl, hbase, heap_alloc_new w.drew _, hge, hcm, ?_, ?_⟩⟩
    · simp only [Array.size_append, List.size_toArray, size_zeroCells, hLn, hd, hzs]
      rw [← Nat.add_mul, ← Nat.add_mul, Nat.add_sub_cancel' hge]
    · simp only [Array.toList_append, List.append_assoc]
      rw [← List.append_assoc, ← hfl]
      exact List.take_left
  have fresh : ∀ (ob : Obj) x t xs, Blk w x t xs → x ≠ w.heap.size → Blk (w.drew.alloc ob) x t xs := fun ob x t xs h _ => Blk.alloc (Blk.drew h) ob
  rcases hO.2 with ⟨rfl, rfl⟩ | ⟨g, cap, cur, rfl, hbg, hg, hnc, hcm, hcs, htake⟩
  · have hx : cs = [] := List.eq_nil_of_length_eq_zero (by rw [hLn, Nat.zero_mul])
    have hr := run_append_nil (P := Try.prog) w sl ty e i _ ht hi hz ⟨b, o, none⟩ m c ds hl hnews (by omega) (by omega) (by rw [hb]; omega)
    have hgr := grown 0 (by omega)
    rw [hx] at hgr ⊢
    simp only [Nat.zero_add, List.nil_append, Array.empty_append] at hgr ⊢
    exact ⟨_, _, _, hr, hgr, hu.drew.alloc _ _, Or.inl (Nat.le_refl _), fresh _⟩
  · by_cases hroom : n + m ≤ cap
    · have hfit : n * i.size + ds.length ≤ cur.size := by rw [hl, hcs, hs, ← Nat.add_mul]; exact Nat.mul_le_mul_right _ hroom
      have hr := run_append_room (P := Try.prog) w sl ty e i ht hi g n cap cur hg ⟨b, o, none⟩ m c ds hl hnews hone hroom hfit
      obtain ⟨h1, h2⟩ := Cp.set w g cur (cur.toList.take (n * i.size) ++ ds ++ cur.toList.drop (n * i.size + ds.length)).toArray _ hg
      refine ⟨g, cap, _, hr, ⟨hfl, .inr ⟨g, cap, _, rfl, hbg, h2, hroom, hcm, ?_, ?_⟩⟩, h1.up w0 hu hbg, Or.inr ⟨_, _, rfl⟩, fun x t xs hx hne => (h1.far x hne).trans hx⟩
      · simp only [List.size_toArray, List.length_append, List.length_take, List.length_drop, Array.length_toList]
        omega
      · rw [hs, htake, ← hfl]
        exact List.take_left
    · have holds : ∀ j u, cs[j]? = some u → w.cell? ((⟨g, 0, none⟩ : Addr).add j) = some u := World.ownsRow.cells (g := g) hO rfl
      have hr := run_append_grow (P := Try.prog) w sl ty e i _ ht hi hz ⟨g, 0, none⟩ n cap cs (by rw [hs]; exact hO.1) holds ⟨b, o, none⟩ m c ds hl hnews (by omega) (by omega) (growslice_fits (by omega) (by rw [hb]; omega))
      exact ⟨_, _, _, hr, grown cap (by omega), hu.drew.alloc _ _, Or.inl (Nat.le_refl _), fresh _⟩

theorem Rw.own {w0 w : World} {v : Value} {n : Nat} {L : List It} (h : Rw w0 w 47 2 v n (fl L)) : Own w0 w v n L := h
end Go.Proofs.Ytfdjhahnggdklaa

namespace Go.Proofs.Ytfdjhahnggdklaa
open Go.RowKit

/-- Items whose ticks and values are int64. -/
def InI (L : List It) : Prop := ∀ x ∈ L, In x.1 ∧ In x.2
theorem InI.at_ {L : List It} (h : InI L) {i : Nat} (hi : i < L.length) : In (L.getD i (0, 0)).1 ∧ In (L.getD i (0, 0)).2 := h _ (by simp [List.getD, hi])
theorem take_next {L : List It} {i : Nat} (hi : i < L.length) : L.take (i + 1) = L.take i ++ [L.getD i (0, 0)] := by rw [List.take_add_one]; simp [List.getD, hi]
/-- What the walk of squares holds. -/
structure Sq (w wr : World) (v : Int) : Prop where
  up : Up w wr
  r0 : wr.cell? ⟨w.heap.size, 0, none⟩ = some (.int .u64 0)
  r1 : wr.cell? ⟨w.heap.size, 1, none⟩ = some (.int .u64 0)
  r2 : wr.cell? ⟨w.heap.size, 2, none⟩ = some (.int .u64 0)
  s0 : wr.cell? ⟨w.heap.size + 1, 0, none⟩ = some (.int .u64 (dg3 v 0))
  s1 : wr.cell? ⟨w.heap.size + 1, 1, none⟩ = some (.int .u64 (dg3 v 1))
  s2 : wr.cell? ⟨w.heap.size + 1, 2, none⟩ = some (.int .u64 (dg3 v 2))
theorem Sq.keep {w w1 w2 : World} {v : Int} (h : Sq w w1 v) (hu : Up w1 w2) : Sq w w2 v :=
  ⟨h.up.trans hu, hu.keep _ _ _ h.r0, hu.keep _ _ _ h.r1, hu.keep _ _ _ h.r2, hu.keep _ _ _ h.s0, hu.keep _ _ _ h.s1, hu.keep _ _ _ h.s2⟩
theorem Sq.set {w w1 : World} {v u : Int} (h : Sq w w1 v) : Sq w (((w1.setCell ⟨w.heap.size + 1, 0, none⟩ (.int .u64 (dg3 u 0))).setCell ⟨w.heap.size + 1, 1, none⟩ (.int .u64 (dg3 u 1))).setCell ⟨w.heap.size + 1, 2, none⟩ (.int .u64 (dg3 u 2))) u := by
  have far : ∀ (W : World) (i : Nat) (x : Value) (q : Nat) (y : Value), W.cell? ⟨w.heap.size, q, none⟩ = some y → (W.setCell ⟨w.heap.size + 1, i, none⟩ x).cell? ⟨w.heap.size, q, none⟩ = some y := fun W i x q y hy => (cell_far (by show w.heap.size + 1 ≠ w.heap.size; omega)).trans hy
  refine ⟨((h.up.setCell (by show w.heap.size ≤ w.heap.size + 1; omega) _).setCell (by show w.heap.size ≤ w.heap.size + 1; omega) _).setCell (by show w.heap.size ≤ w.heap.size + 1; omega) _, far _ _ _ _ _ (far _ _ _ _ _ (far _ _ _ _ _ h.r0)), far _ _ _ _ _ (far _ _ _ _ _ (far _ _ _ _ _ h.r1)), far _ _ _ _ _ (far _ _ _ _ _ (far _ _ _ _ _ h.r2)), ?_, ?_, ?_⟩
  · rw [cell_set (cell_set (cell_set h.s0))]; rfl
  · rw [cell_set (cell_set (cell_set h.s1))]; rfl
  · rw [cell_set (cell_set (cell_set h.s2))]; rfl

end Go.Proofs.Ytfdjhahnggdklaa

namespace Go.Proofs.Ytfdjhahnggdklaa
open Go.RowKit

/-- append of one item, in the world that stands behind its own row of one item. -/
theorem append1I_run (ty : TypeId) (w0 w : World) (A : Option Addr) (n k : Nat) (L : List It) (p0 p1 : Int) (hO : Own w0 w (.slice A n k) n L) (hu : Up w0 w) (hlen : n + 1 ≤ 1000000) :
    ∃ A' k' w', (Builtin.append_ #[41, 41] ty #[.slice A n k, .slice (some ⟨w.heap.size, 0, none⟩) 1 1]).run Try.prog (w.alloc (.cells #[.int .i64 p0, .int .i64 p1] 47)) = .ok (.slice A' (n + 1) k') w' ∧ Own w0 w' (.slice A' (n + 1) k') (n + 1) (L ++ [(p0, p1)]) ∧ Up w0 w' := by
  obtain ⟨v', w', hr, h1, h2⟩ := append_run ty w0 (w.alloc (.cells #[.int .i64 p0, .int .i64 p1] 47)) (.slice A n k) n L (hO.of_up ((Up.refl _).alloc _ _)) (hu.alloc _ _) (some ⟨w.heap.size, 0, none⟩) 1 1 [(p0, p1)] (one_new w p0 p1) hlen
  obtain ⟨A', k', rfl, _, _⟩ := h1.sl
  exact ⟨A', k', w', hr, h1, h2⟩

end Go.Proofs.Ytfdjhahnggdklaa

namespace Go.Proofs.Ytfdjhahnggdklaa
open Go.RowKit

def valueB (v : Int) : Bool := decide (-4096 ≤ v ∧ v ≤ 4096)
def mayB (v c now : Int) : Bool := (tickB now && winB v) && decide (1 ≤ c ∧ c ≤ 65536)
theorem mayB_true {v c now : Int} (h : mayB v c now = true) : tickB now = true ∧ winB v = true ∧ 1 ≤ c ∧ c ≤ 65536 := by
  unfold mayB at h
  simp only [Bool.and_eq_true, decide_eq_true_eq] at h
  exact ⟨h.1.1, h.1.2, h.2⟩
theorem rmay_any (v c now : Int) (w : World) :
    Calls Try.prog 36 #[.int .i64 v, .int .i64 c, .int .i64 now] w fun e w' => e = .returned (.bool (mayB v c now)) ∧ w = w' := by
  have KT := Lib.hid (rtick_any now)
  have KW := Lib.hid (rwin_any v)
  cases hv : winB v with
  | false =>
    have e0 : mayB v c now = false := by unfold mayB; rw [hv, Bool.and_false]; rfl
    rw [e0]
    rw [hv] at KW
    clear hv e0
    go_enter Try.func36, Try.ntmps36
    go_wp2_with (go_at_call 69; (with_reducible refine (KW.out _).mono ?_); rintro e w' ⟨rfl, rfl⟩)
    go_ret
    exact ⟨rfl, rfl⟩
  | true =>
    rw [hv] at KW
    have e0 : mayB v c now = (tickB now && decide (1 ≤ c ∧ c ≤ 65536)) := by unfold mayB; rw [hv, Bool.and_true]
    rw [e0]
    clear hv e0
    generalize tickB now = t at *
    by_cases h1 : 1 ≤ c
    · by_cases h2 : c ≤ 65536
      · rw [decide_eq_true (p := 1 ≤ c ∧ c ≤ 65536) ⟨h1, h2⟩]
        go_enter Try.func36, Try.ntmps36
        go_wp2_with (first | (go_at_call 70; (with_reducible refine (KT.out _).mono ?_); rintro e w' ⟨rfl, rfl⟩) | (go_at_call 69; (with_reducible refine (KW.out _).mono ?_); rintro e w' ⟨rfl, rfl⟩))
        go_ret
        exact ⟨by cases t <;> rfl, rfl⟩
      · rw [decide_eq_false (p := 1 ≤ c ∧ c ≤ 65536) (fun h => h2 h.2), Bool.and_false]
        have t2 : decide (c ≤ 65536) = false := decide_eq_false h2
        go_enter Try.func36, Try.ntmps36
        go_wp2_with (first | (go_at_call 70; (with_reducible refine (KT.out _).mono ?_); rintro e w' ⟨rfl, rfl⟩) | (go_at_call 69; (with_reducible refine (KW.out _).mono ?_); rintro e w' ⟨rfl, rfl⟩))
        go_ret
        exact ⟨rfl, rfl⟩
    · rw [decide_eq_false (p := 1 ≤ c ∧ c ≤ 65536) (fun h => h1 h.1), Bool.and_false]
      go_enter Try.func36, Try.ntmps36
      go_wp2_with (first | (go_at_call 70; (with_reducible refine (KT.out _).mono ?_); rintro e w' ⟨rfl, rfl⟩) | (go_at_call 69; (with_reducible refine (KW.out _).mono ?_); rintro e w' ⟨rfl, rfl⟩))
      go_ret
      exact ⟨rfl, rfl⟩

end Go.Proofs.Ytfdjhahnggdklaa

namespace Go.Proofs.Ytfdjhahnggdklaa
open Go.ChangeShapes Go.WideShapes Go.ChangeAt Go.RowKit Go.Joins Go.Deep

section
variable {H : Type} {enc : TypeId × Value → H} {w : World} {base : Nat} {spare : Nat → Bool} {held : Bool}
set_option maxRecDepth 100000 in
theorem cells_items2 {n : Nat} {cs : List Value} {x : DataW H × List MemPlace} (h : DataW.trod enc Try.prog w 0 (fun _ => true) held n 41 cs = some x) :
    ∃ (A : Option Addr) (len cap : Nat) (L : List It), cs = [.slice A len cap] ∧ len ≤ cap ∧ Sl w A len L ∧ InI L := by
  rcases open_slice_pairs Try.underlying41 Try.underlying47 item_cells rfl rfl int64_cells int64_cells h with ⟨hc, hx⟩ | ⟨a, len, cap, m, k, V0, V1, D0, D1, P0, P1, hc, _, hl, hm, hmm, hx, hall⟩
  · exact ⟨none, 0, 0, [], hc, Nat.le_refl _, Sl.none_, fun x hx => by cases hx⟩
  · simp only [if_true] at hmm
    subst hmm
    have each : ∀ i, i < m → ∃ z : It, w.cell? (a.add (i * 2)) = some (.int .i64 z.1) ∧ w.cell? (a.add (i * 2 + 1)) = some (.int .i64 z.2) ∧ In z.1 ∧ In z.2 := fun i hi => by
      obtain ⟨h1, h2, h3, h4⟩ := hall i hi
      obtain ⟨z0, e0, _, f0⟩ := DataW.trod_int Try.underlying2 h3
      obtain ⟨z1, e1, _, f1⟩ := DataW.trod_int Try.underlying2 h4
      simp at e0 e1
      exact ⟨(z0, z1), by rw [h1, e0], by rw [h2, e1], in_of_wf f0, in_of_wf f1⟩
    obtain ⟨z, hz⟩ := choose_lt each
    refine ⟨some a, len, m, (List.range len).map z, hc, hl, ⟨by simp, fun hn => ?_⟩, fun x hx => ?_⟩
    rotate_left
    · obtain ⟨j, hj, rfl⟩ := List.mem_map.1 hx
      have := hz j (by have := List.mem_range.1 hj; omega)
      exact this.2.2
    have hsp : a.spot = none := by
      have := World.cell?_spot (hz 0 (by omega)).1
      simpa [Addr.add] using this
    obtain ⟨b, o, s⟩ := a
    simp at hsp
    subst hsp
    refine ⟨b, o, rfl, fun j u hj => ?_⟩
    have hjl : j < len * 2 := by
      rcases Nat.lt_or_ge j (len * 2) with g | g
      · exact g
      · rw [List.getElem?_eq_none (by rw [fl_length]; simp; omega)] at hj; cases hj
    have hk : j / 2 < ((List.range len).map z).length := by simp; omega
    obtain ⟨c0, c1, _, _⟩ := hz (j / 2) (by omega)
    rw [add_at] at c0 c1
    rcases (by omega : j = j / 2 * 2 ∨ j = j / 2 * 2 + 1) with e | e
    · have := fl_get0 _ _ hk
      rw [← e, hj] at this
      rw [← e] at c0
      rw [c0, this]; simp
    · have := fl_get1 _ _ hk
      rw [← e, hj] at this
      rw [← e] at c1
      rw [c1, this]; simp
set_option maxRecDepth 100000 in
theorem open_items2 {r : Reach} {b0 : Nat} {v : Value} {d : DataW H} {p : List MemPlace} (hv : Value.okWide Try.prog w r b0 41 v) (h : DataW.Trod enc Try.prog w 0 (fun _ => true) held 41 v d p) :
    ∃ (n k : Nat) (A : Option Addr) (L : List It), v = .slice A n k ∧ n ≤ k ∧ Sl w A n L ∧ InI L := by
  obtain ⟨fuel, hf⟩ := h
  obtain ⟨A, len, cap, L, es, hl, hS, hI⟩ := cells_items2 hf
  obtain ⟨a, n, c, rfl⟩ := okWide_slice Try.underlying41 hv
  simp [Value.cells] at es
  obtain ⟨rfl, rfl, rfl⟩ := es
  exact ⟨_, _, _, L, rfl, hl, hS, hI⟩
end
end Go.Proofs.Ytfdjhahnggdklaa
