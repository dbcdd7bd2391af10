/- Smooth histograms: valid marks in pieces, as the code asks for them; validMark, validStep and isLast of package smooth. -/
import Derived.Test.YtafkoddgefcpnaaRows
import Derived.Test.YtafkoddgefcpnaaZIAppq119
namespace Go.Proofs.Ytafkoddgefcpnaa
open Go.RowKit
set_option linter.unusedVariables false

def mkB (g c now seq : Int) (m : Mrk) : Bool := decide (1 ≤ m.sq ∧ m.sq ≤ seq ∧ m.n = seq - m.sq + 1 ∧ m.n ≤ c ∧ 0 ≤ m.t ∧ m.t ≤ now ∧ valG g m.lo ∧ valG g m.hi ∧ m.lo ≤ m.hi ∧ prtP m.n m.s m.q m.lo m.hi)
def spB (a b : Mrk) : Bool := decide (a.sq < b.sq ∧ a.t ≤ b.t ∧ a.lo ≤ b.lo ∧ b.hi ≤ a.hi ∧ prtP (a.n - b.n) (a.s - b.s) (a.q - b.q) a.lo a.hi)
def laB (seq : Int) (m : Mrk) : Bool := decide (m.sq = seq ∧ m.lo = m.s ∧ m.hi = m.s ∧ m.q = m.s * m.s)
/-- How great the numbers of a mark are. -/
def bdM (m : Mrk) : Prop := (1 ≤ m.n ∧ m.n ≤ 65536) ∧ (-268435456 ≤ m.s ∧ m.s ≤ 268435456) ∧ (0 ≤ m.q ∧ m.q ≤ 1099511627776) ∧ (-4096 ≤ m.lo ∧ m.lo ≤ 4096) ∧ (-4096 ≤ m.hi ∧ m.hi ≤ 4096) ∧ (1 ≤ m.sq ∧ m.sq ≤ 1099511627776)
theorem mkB_bd {g c now seq : Int} {m : Mrk} (h : mkB g c now seq m = true) (hc : c ≤ 65536) (hs : seq ≤ 1099511627776) : bdM m := by
  obtain ⟨a1, a2, a3, a4, a5, a6, a7, a8, a9, a10⟩ := of_decide_eq_true h
  obtain ⟨p1, p2, p3, p4⟩ := prt_bd a10 (by omega) a7.1 a8.2.1
  exact ⟨⟨by omega, by omega⟩, ⟨by omega, by omega⟩, ⟨p3, by omega⟩, ⟨a7.1, a7.2.1⟩, ⟨a8.1, a8.2.1⟩, ⟨a1, by omega⟩⟩
/-- What the code asks of a mark within its loop. -/
def pkB (g v c now seq : Int) (X : List Mrk) (j : Nat) : Prop := mkB g c now seq (X.getD j mk0) = true ∧ (0 < j → spB (X.getD (j - 1) mk0) (X.getD j mk0) = true) ∧ (0 < j ∨ X.length = 1 → liveB now v (X.getD j mk0).t = true)
theorem okB_pk {g v q c now seq : Int} {X : List Mrk} {j : Nat} (hm : mayM g v q c now = true) : OkB g v c now seq X j ↔ pkB g v c now seq X j ∧ (j + 1 = X.length → laB seq (X.getD j mk0) = true) := by
  obtain ⟨g1, g2, g3, g4⟩ := mayC_facts (mayM_true hm).2
  rw [okB_iff]
  unfold pkB mkB spB laB
  simp only [decide_eq_true_eq]
  constructor
  · rintro ⟨a1, a2, a3, a4, a5, a6, a7, a8, a9, a10, a11, a12, a13, a14, a15, a16⟩
    exact ⟨⟨⟨a1, a2, a3, a4, a6.1, a6.2, a9, a10, a11, a12⟩, fun h => ⟨a5 h, a7 h, a14 h, a15 h, a16 h⟩, fun h => (live_iff g4 a6.1).2 ⟨a8 h, a6.2⟩⟩, a13⟩
  · rintro ⟨⟨⟨a1, a2, a3, a4, a5, a6, a7, a8, a9, a10⟩, b, c⟩, d⟩
    exact ⟨a1, a2, a3, a4, fun h => (b h).1, ⟨a5, a6⟩, fun h => (b h).2.1, fun h => ((live_iff g4 a5).1 (c h)).1, a7, a8, a9, a10, d, fun h => (b h).2.2.1, fun h => (b h).2.2.2.1, fun h => (b h).2.2.2.2⟩
theorem mrkB_pk {g v q c now seq : Int} {X : List Mrk} (hm : mayM g v q c now = true) (hs : sqB seq = true) (h1 : ∀ j, j < X.length → pkB g v c now seq X j) (h2 : 0 < X.length → laB seq (X.getD (X.length - 1) mk0) = true) : mrkB g v c now seq X = true := by
  have := sqB_true hs
  refine mrkB_yes this.1 this.2 (fun j hj => (okB_pk hm).2 ⟨h1 j hj, fun e => ?_⟩)
  rw [show j = X.length - 1 by omega]
  exact h2 (by omega)
theorem mrkB_nopk {g v q c now seq : Int} {X : List Mrk} {j : Nat} (hm : mayM g v q c now = true) (hj : j < X.length) (h : ¬ pkB g v c now seq X j) : mrkB g v c now seq X = false := mrkB_bad hj (fun hx => h ((okB_pk hm).1 hx).1)
theorem mrkB_nola {g v q c now seq : Int} {X : List Mrk} (hm : mayM g v q c now = true) (hj : 0 < X.length) (h : laB seq (X.getD (X.length - 1) mk0) = false) : mrkB g v c now seq X = false :=
  mrkB_bad (j := X.length - 1) (by omega) (fun hx => by rw [((okB_pk hm).1 hx).2 (by omega)] at h; cases h)

set_option maxHeartbeats 4000000 in
set_option maxRecDepth 100000 in
theorem validMark_up (g v q c now seq : Int) (nn k : Nat) (A : Option Addr) (sq t n s qq lo hi : Int) (hg : 1 ≤ g ∧ g ≤ 4) (hc : 1 ≤ c ∧ c ≤ 65536) (hs : 0 ≤ seq ∧ seq ≤ 1099511627776) (w : World) :
    Calls Try.prog 137 #[.agg #[.int .i64 g, .int .i64 v, .int .i64 q, .int .i64 c, .int .i64 now, .int .i64 seq, .slice A nn k], .agg #[.int .i64 sq, .int .i64 t, .int .i64 n, .int .i64 s, .int .i64 qq, .int .i64 lo, .int .i64 hi]] w fun e w' => e = .returned (.bool (mkB g c now seq ⟨sq, t, n, s, qq, lo, hi⟩)) ∧ Up w w' := by
  have K1 := Lib.hid (isValueG_any lo g hg)
  have K2 := Lib.hid (isValueG_any hi g hg)
  have KF := Lib.hid (fit13_any n s qq lo hi)
  have HB : Hid (∀ _ : ¬ (1 ≤ sq ∧ sq ≤ seq ∧ n = seq - sq + 1 ∧ n ≤ c ∧ 0 ≤ t ∧ t ≤ now ∧ valG g lo ∧ valG g hi ∧ lo ≤ hi ∧ prtP n s qq lo hi), mkB g c now seq ⟨sq, t, n, s, qq, lo, hi⟩ = false) := Lib.hid (fun h => decide_eq_false h)
  have HT : Hid (∀ _ : 1 ≤ sq ∧ sq ≤ seq ∧ n = seq - sq + 1 ∧ n ≤ c ∧ 0 ≤ t ∧ t ≤ now ∧ valG g lo ∧ valG g hi ∧ lo ≤ hi ∧ prtP n s qq lo hi, mkB g c now seq ⟨sq, t, n, s, qq, lo, hi⟩ = true) := Lib.hid (fun h => decide_eq_true h)
  generalize mkB g c now seq ⟨sq, t, n, s, qq, lo, hi⟩ = r at *
  have HU : Hid (∀ a b x y, Up w ((w.alloc (.cells a x)).alloc (.cells b y))) := Lib.hid (fun a b x y => ((Up.refl w).alloc _ _).alloc _ _)
  by_cases k0 : ¬ (1 ≤ sq)
  · obtain rfl : r = false := HB.out (fun h => k0 h.1)
    clear HB HT KF
    have KF2 : Hid (∀ w : World, True) := Lib.hid (fun _ => trivial)
    go_enter Try.func137, Try.ntmps137
    go_wp2_with (first | (go_at_call 112; (with_reducible refine (K1.out _).mono ?_); rintro e w' ⟨rfl, rfl⟩) | (go_at_call 112; (with_reducible refine (K2.out _).mono ?_); rintro e w' ⟨rfl, rfl⟩) | (go_at_call 154; (with_reducible refine (KF2.out _).mono ?_); rintro e w' ⟨rfl, rfl⟩))
    go_ret
    exact ⟨rfl, HU.out _ _ _ _⟩
  have k0 := Classical.not_not.1 k0
  have u0 : ¬ (sq < 1) := by omega
  by_cases k1 : ¬ (sq ≤ seq)
  · obtain rfl : r = false := HB.out (fun h => k1 h.2.1)
    clear HB HT KF
    have KF2 : Hid (∀ w : World, True) := Lib.hid (fun _ => trivial)
    go_enter Try.func137, Try.ntmps137
    go_wp2_with (first | (go_at_call 112; (with_reducible refine (K1.out _).mono ?_); rintro e w' ⟨rfl, rfl⟩) | (go_at_call 112; (with_reducible refine (K2.out _).mono ?_); rintro e w' ⟨rfl, rfl⟩) | (go_at_call 154; (with_reducible refine (KF2.out _).mono ?_); rintro e w' ⟨rfl, rfl⟩))
    go_ret
    exact ⟨rfl, HU.out _ _ _ _⟩
  have k1 := Classical.not_not.1 k1
  have u1 : ¬ (seq < sq) := by omega
  by_cases k2 : ¬ (n = seq - sq + 1)
  · obtain rfl : r = false := HB.out (fun h => k2 h.2.2.1)
    have u2 : (n == seq - sq + 1) = false := beq_eq_false_iff_ne.2 k2
    clear HB HT KF
    have KF2 : Hid (∀ w : World, True) := Lib.hid (fun _ => trivial)
    go_enter Try.func137, Try.ntmps137
    go_wp2_with (first | (go_at_call 112; (with_reducible refine (K1.out _).mono ?_); rintro e w' ⟨rfl, rfl⟩) | (go_at_call 112; (with_reducible refine (K2.out _).mono ?_); rintro e w' ⟨rfl, rfl⟩) | (go_at_call 154; (with_reducible refine (KF2.out _).mono ?_); rintro e w' ⟨rfl, rfl⟩))
    go_ret
    exact ⟨rfl, HU.out _ _ _ _⟩
  have k2 := Classical.not_not.1 k2
  subst k2
  by_cases k3 : ¬ (seq - sq + 1 ≤ c)
  · obtain rfl : r = false := HB.out (fun h => k3 h.2.2.2.1)
    clear HB HT KF
    have KF2 : Hid (∀ w : World, True) := Lib.hid (fun _ => trivial)
    go_enter Try.func137, Try.ntmps137
    go_wp2_with (first | (go_at_call 112; (with_reducible refine (K1.out _).mono ?_); rintro e w' ⟨rfl, rfl⟩) | (go_at_call 112; (with_reducible refine (K2.out _).mono ?_); rintro e w' ⟨rfl, rfl⟩) | (go_at_call 154; (with_reducible refine (KF2.out _).mono ?_); rintro e w' ⟨rfl, rfl⟩))
    go_ret
    exact ⟨rfl, HU.out _ _ _ _⟩
  have k3 := Classical.not_not.1 k3
  have u3 : ¬ (c < seq - sq + 1) := by omega
  by_cases k4 : ¬ (0 ≤ t)
  · obtain rfl : r = false := HB.out (fun h => k4 h.2.2.2.2.1)
    clear HB HT KF
    have KF2 : Hid (∀ w : World, True) := Lib.hid (fun _ => trivial)
    go_enter Try.func137, Try.ntmps137
    go_wp2_with (first | (go_at_call 112; (with_reducible refine (K1.out _).mono ?_); rintro e w' ⟨rfl, rfl⟩) | (go_at_call 112; (with_reducible refine (K2.out _).mono ?_); rintro e w' ⟨rfl, rfl⟩) | (go_at_call 154; (with_reducible refine (KF2.out _).mono ?_); rintro e w' ⟨rfl, rfl⟩))
    go_ret
    exact ⟨rfl, HU.out _ _ _ _⟩
  have k4 := Classical.not_not.1 k4
  have u4 : ¬ (t < 0) := by omega
  by_cases k5 : ¬ (t ≤ now)
  · obtain rfl : r = false := HB.out (fun h => k5 h.2.2.2.2.2.1)
    clear HB HT KF
    have KF2 : Hid (∀ w : World, True) := Lib.hid (fun _ => trivial)
    go_enter Try.func137, Try.ntmps137
    go_wp2_with (first | (go_at_call 112; (with_reducible refine (K1.out _).mono ?_); rintro e w' ⟨rfl, rfl⟩) | (go_at_call 112; (with_reducible refine (K2.out _).mono ?_); rintro e w' ⟨rfl, rfl⟩) | (go_at_call 154; (with_reducible refine (KF2.out _).mono ?_); rintro e w' ⟨rfl, rfl⟩))
    go_ret
    exact ⟨rfl, HU.out _ _ _ _⟩
  have k5 := Classical.not_not.1 k5
  have u5 : ¬ (now < t) := by omega
  have KF2 : Hid (∀ w : World, True) := Lib.hid (fun _ => trivial)
  by_cases k6 : ¬ (valG g lo)
  · obtain rfl : r = false := HB.out (fun h => k6 h.2.2.2.2.2.2.1)
    rw [decide_eq_false k6] at K1
    clear k6
    clear HB HT KF
    go_enter Try.func137, Try.ntmps137
    go_wp2_with (first | (go_at_call 112; (with_reducible refine (K1.out _).mono ?_); rintro e w' ⟨rfl, rfl⟩) | (go_at_call 112; (with_reducible refine (K2.out _).mono ?_); rintro e w' ⟨rfl, rfl⟩) | (go_at_call 154; (with_reducible refine (KF2.out _).mono ?_); rintro e w' ⟨rfl, rfl⟩))
    go_ret
    exact ⟨rfl, HU.out _ _ _ _⟩
  have k6 := Classical.not_not.1 k6
  rw [decide_eq_true k6] at K1
  by_cases k7 : ¬ (valG g hi)
  · obtain rfl : r = false := HB.out (fun h => k7 h.2.2.2.2.2.2.2.1)
    rw [decide_eq_false k7] at K2
    clear k7
    clear HB HT KF
    go_enter Try.func137, Try.ntmps137
    go_wp2_with (first | (go_at_call 112; (with_reducible refine (K1.out _).mono ?_); rintro e w' ⟨rfl, rfl⟩) | (go_at_call 112; (with_reducible refine (K2.out _).mono ?_); rintro e w' ⟨rfl, rfl⟩) | (go_at_call 154; (with_reducible refine (KF2.out _).mono ?_); rintro e w' ⟨rfl, rfl⟩))
    go_ret
    exact ⟨rfl, HU.out _ _ _ _⟩
  have k7 := Classical.not_not.1 k7
  rw [decide_eq_true k7] at K2
  by_cases k8 : ¬ (lo ≤ hi)
  · obtain rfl : r = false := HB.out (fun h => k8 h.2.2.2.2.2.2.2.2.1)
    clear HB HT KF
    go_enter Try.func137, Try.ntmps137
    go_wp2_with (first | (go_at_call 112; (with_reducible refine (K1.out _).mono ?_); rintro e w' ⟨rfl, rfl⟩) | (go_at_call 112; (with_reducible refine (K2.out _).mono ?_); rintro e w' ⟨rfl, rfl⟩) | (go_at_call 154; (with_reducible refine (KF2.out _).mono ?_); rintro e w' ⟨rfl, rfl⟩))
    go_ret
    exact ⟨rfl, HU.out _ _ _ _⟩
  have k8 := Classical.not_not.1 k8
  clear KF2
  have KF2 := Lib.hid (KF.out (by omega) (by omega) k6.1 k6.2.1 k7.1 k7.2.1)
  by_cases k9 : ¬ (prtP (seq - sq + 1) s qq lo hi)
  · obtain rfl : r = false := HB.out (fun h => k9 h.2.2.2.2.2.2.2.2.2)
    rw [decide_eq_false k9] at KF2
    clear k9
    clear HB HT KF
    go_enter Try.func137, Try.ntmps137
    go_wp2_with (first | (go_at_call 112; (with_reducible refine (K1.out _).mono ?_); rintro e w' ⟨rfl, rfl⟩) | (go_at_call 112; (with_reducible refine (K2.out _).mono ?_); rintro e w' ⟨rfl, rfl⟩) | (go_at_call 154; (with_reducible refine (KF2.out _).mono ?_); rintro e w' ⟨rfl, rfl⟩))
    go_ret
    exact ⟨rfl, HU.out _ _ _ _⟩
  have k9 := Classical.not_not.1 k9
  rw [decide_eq_true k9] at KF2
  obtain rfl : r = true := HT.out ⟨k0, k1, rfl, k3, k4, k5, k6, k7, k8, k9⟩
  clear HB HT KF k6 k7 k9
  go_enter Try.func137, Try.ntmps137
  go_wp2_with (first | (go_at_call 112; (with_reducible refine (K1.out _).mono ?_); rintro e w' ⟨rfl, rfl⟩) | (go_at_call 112; (with_reducible refine (K2.out _).mono ?_); rintro e w' ⟨rfl, rfl⟩) | (go_at_call 154; (with_reducible refine (KF2.out _).mono ?_); rintro e w' ⟨rfl, rfl⟩))
  go_ret
  exact ⟨rfl, HU.out _ _ _ _⟩

set_option maxHeartbeats 4000000 in
set_option maxRecDepth 100000 in
theorem validStep_up (sq t n s q lo hi sq2 t2 n2 s2 q2 lo2 hi2 : Int) (h1 : bdM ⟨sq, t, n, s, q, lo, hi⟩) (h2 : bdM ⟨sq2, t2, n2, s2, q2, lo2, hi2⟩) (hn : sq < sq2 → 1 ≤ n - n2) (w : World) :
    Calls Try.prog 138 #[.agg #[.int .i64 sq, .int .i64 t, .int .i64 n, .int .i64 s, .int .i64 q, .int .i64 lo, .int .i64 hi], .agg #[.int .i64 sq2, .int .i64 t2, .int .i64 n2, .int .i64 s2, .int .i64 q2, .int .i64 lo2, .int .i64 hi2]] w fun e w' => e = .returned (.bool (spB ⟨sq, t, n, s, q, lo, hi⟩ ⟨sq2, t2, n2, s2, q2, lo2, hi2⟩)) ∧ Up w w' := by
  obtain ⟨⟨a1, a2⟩, ⟨a3, a4⟩, ⟨a5, a6⟩, ⟨a7, a8⟩, ⟨a9, a10⟩, ⟨a11, a12⟩⟩ := h1
  obtain ⟨⟨b1, b2⟩, ⟨b3, b4⟩, ⟨b5, b6⟩, ⟨b7, b8⟩, ⟨b9, b10⟩, ⟨b11, b12⟩⟩ := h2
  simp only at a1 a2 a3 a4 a5 a6 a7 a8 a9 a10 a11 a12 b1 b2 b3 b4 b5 b6 b7 b8 b9 b10 b11 b12
  have KF := Lib.hid (fun h => fit13_any (n - n2) (s - s2) (q - q2) lo hi (hn h) (by omega) a7 a8 a9 a10)
  have HB : Hid (∀ _ : ¬ (sq < sq2 ∧ t ≤ t2 ∧ lo ≤ lo2 ∧ hi2 ≤ hi ∧ prtP (n - n2) (s - s2) (q - q2) lo hi), spB ⟨sq, t, n, s, q, lo, hi⟩ ⟨sq2, t2, n2, s2, q2, lo2, hi2⟩ = false) := Lib.hid (fun h => decide_eq_false h)
  have HT : Hid (∀ _ : sq < sq2 ∧ t ≤ t2 ∧ lo ≤ lo2 ∧ hi2 ≤ hi ∧ prtP (n - n2) (s - s2) (q - q2) lo hi, spB ⟨sq, t, n, s, q, lo, hi⟩ ⟨sq2, t2, n2, s2, q2, lo2, hi2⟩ = true) := Lib.hid (fun h => decide_eq_true h)
  generalize spB ⟨sq, t, n, s, q, lo, hi⟩ ⟨sq2, t2, n2, s2, q2, lo2, hi2⟩ = r at *
  have HU : Hid (∀ a b x y, Up w ((w.alloc (.cells a x)).alloc (.cells b y))) := Lib.hid (fun a b x y => ((Up.refl w).alloc _ _).alloc _ _)
  clear hn
  by_cases k0 : ¬ (sq < sq2)
  · obtain rfl : r = false := HB.out (fun h => k0 h.1)
    clear HB HT KF
    have KF2 : Hid (∀ w : World, True) := Lib.hid (fun _ => trivial)
    have u0 : sq2 ≤ sq := by omega
    go_enter Try.func138, Try.ntmps138
    go_wp2_with (go_at_call 154; (with_reducible refine (KF2.out _).mono ?_); rintro e w' ⟨rfl, rfl⟩)
    go_ret
    exact ⟨rfl, HU.out _ _ _ _⟩
  have k0 := Classical.not_not.1 k0
  have u0 : ¬ (sq2 ≤ sq) := by omega
  by_cases k1 : ¬ (t ≤ t2)
  · obtain rfl : r = false := HB.out (fun h => k1 h.2.1)
    clear HB HT KF
    have KF2 : Hid (∀ w : World, True) := Lib.hid (fun _ => trivial)
    have u1 : t2 < t := by omega
    go_enter Try.func138, Try.ntmps138
    go_wp2_with (go_at_call 154; (with_reducible refine (KF2.out _).mono ?_); rintro e w' ⟨rfl, rfl⟩)
    go_ret
    exact ⟨rfl, HU.out _ _ _ _⟩
  have k1 := Classical.not_not.1 k1
  have u1 : ¬ (t2 < t) := by omega
  by_cases k2 : ¬ (lo ≤ lo2)
  · obtain rfl : r = false := HB.out (fun h => k2 h.2.2.1)
    clear HB HT KF
    have KF2 : Hid (∀ w : World, True) := Lib.hid (fun _ => trivial)
    have u2 : lo2 < lo := by omega
    go_enter Try.func138, Try.ntmps138
    go_wp2_with (go_at_call 154; (with_reducible refine (KF2.out _).mono ?_); rintro e w' ⟨rfl, rfl⟩)
    go_ret
    exact ⟨rfl, HU.out _ _ _ _⟩
  have k2 := Classical.not_not.1 k2
  have u2 : ¬ (lo2 < lo) := by omega
  by_cases k3 : ¬ (hi2 ≤ hi)
  · obtain rfl : r = false := HB.out (fun h => k3 h.2.2.2.1)
    clear HB HT KF
    have KF2 : Hid (∀ w : World, True) := Lib.hid (fun _ => trivial)
    have u3 : hi < hi2 := by omega
    go_enter Try.func138, Try.ntmps138
    go_wp2_with (go_at_call 154; (with_reducible refine (KF2.out _).mono ?_); rintro e w' ⟨rfl, rfl⟩)
    go_ret
    exact ⟨rfl, HU.out _ _ _ _⟩
  have k3 := Classical.not_not.1 k3
  have u3 : ¬ (hi < hi2) := by omega
  have KF2 := Lib.hid (KF.out k0)
  by_cases k4 : ¬ (prtP (n - n2) (s - s2) (q - q2) lo hi)
  · obtain rfl : r = false := HB.out (fun h => k4 h.2.2.2.2)
    rw [decide_eq_false k4] at KF2
    clear k4
    clear HB HT KF
    go_enter Try.func138, Try.ntmps138
    go_wp2_with (go_at_call 154; (with_reducible refine (KF2.out _).mono ?_); rintro e w' ⟨rfl, rfl⟩)
    go_ret
    exact ⟨rfl, HU.out _ _ _ _⟩
  have k4 := Classical.not_not.1 k4
  rw [decide_eq_true k4] at KF2
  obtain rfl : r = true := HT.out ⟨k0, k1, k2, k3, k4⟩
  clear HB HT KF k4
  go_enter Try.func138, Try.ntmps138
  go_wp2_with (go_at_call 154; (with_reducible refine (KF2.out _).mono ?_); rintro e w' ⟨rfl, rfl⟩)
  go_ret
  exact ⟨rfl, HU.out _ _ _ _⟩

set_option maxHeartbeats 4000000 in
set_option maxRecDepth 100000 in
theorem isLast_up (g v q c now seq : Int) (nn k : Nat) (A : Option Addr) (sq t n s qq lo hi : Int) (h1 : -268435456 ≤ s) (h2 : s ≤ 268435456) (w : World) :
    Calls Try.prog 139 #[.agg #[.int .i64 g, .int .i64 v, .int .i64 q, .int .i64 c, .int .i64 now, .int .i64 seq, .slice A nn k], .agg #[.int .i64 sq, .int .i64 t, .int .i64 n, .int .i64 s, .int .i64 qq, .int .i64 lo, .int .i64 hi]] w fun e w' => e = .returned (.bool (laB seq ⟨sq, t, n, s, qq, lo, hi⟩)) ∧ Up w w' := by
  have y1 := sq_bd (x := s) (m := 268435456) (by omega) h2
  have y2 := sq_nn s
  have HB : Hid (∀ _ : ¬ (sq = seq ∧ lo = s ∧ hi = s ∧ qq = s * s), laB seq ⟨sq, t, n, s, qq, lo, hi⟩ = false) := Lib.hid (fun h => decide_eq_false h)
  have HT : Hid (∀ _ : sq = seq ∧ lo = s ∧ hi = s ∧ qq = s * s, laB seq ⟨sq, t, n, s, qq, lo, hi⟩ = true) := Lib.hid (fun h => decide_eq_true h)
  generalize laB seq ⟨sq, t, n, s, qq, lo, hi⟩ = r at *
  have HU : Hid (∀ a b x y, Up w ((w.alloc (.cells a x)).alloc (.cells b y))) := Lib.hid (fun a b x y => ((Up.refl w).alloc _ _).alloc _ _)
  by_cases k0 : ¬ (sq = seq)
  · obtain rfl : r = false := HB.out (fun h => k0 h.1)
    have u0 : (sq == seq) = false := beq_eq_false_iff_ne.2 k0
    clear HB HT
    go_enter Try.func139, Try.ntmps139
    go_wp2
    go_ret
    exact ⟨rfl, HU.out _ _ _ _⟩
  have k0 := Lib.hid (Classical.not_not.1 k0)
  have u0 : (sq == seq) = true := beq_iff_eq.2 k0.out
  by_cases k1 : ¬ (lo = s)
  · obtain rfl : r = false := HB.out (fun h => k1 h.2.1)
    have u1 : (lo == s) = false := beq_eq_false_iff_ne.2 k1
    clear HB HT
    go_enter Try.func139, Try.ntmps139
    go_wp2
    go_ret
    exact ⟨rfl, HU.out _ _ _ _⟩
  have k1 := Lib.hid (Classical.not_not.1 k1)
  have u1 : (lo == s) = true := beq_iff_eq.2 k1.out
  by_cases k2 : ¬ (hi = s)
  · obtain rfl : r = false := HB.out (fun h => k2 h.2.2.1)
    have u2 : (hi == s) = false := beq_eq_false_iff_ne.2 k2
    clear HB HT
    go_enter Try.func139, Try.ntmps139
    go_wp2
    go_ret
    exact ⟨rfl, HU.out _ _ _ _⟩
  have k2 := Lib.hid (Classical.not_not.1 k2)
  have u2 : (hi == s) = true := beq_iff_eq.2 k2.out
  by_cases k3 : ¬ (qq = s * s)
  · obtain rfl : r = false := HB.out (fun h => k3 h.2.2.2)
    have u3 : (qq == s * s) = false := beq_eq_false_iff_ne.2 k3
    clear HB HT
    go_enter Try.func139, Try.ntmps139
    go_wp2
    go_ret
    exact ⟨rfl, HU.out _ _ _ _⟩
  have k3 := Lib.hid (Classical.not_not.1 k3)
  have u3 : (qq == s * s) = true := beq_iff_eq.2 k3.out
  obtain rfl : r = true := HT.out ⟨k0.out, k1.out, k2.out, k3.out⟩
  clear HB HT
  go_enter Try.func139, Try.ntmps139
  go_wp2
  go_ret
  exact ⟨rfl, HU.out _ _ _ _⟩
end Go.Proofs.Ytafkoddgefcpnaa
