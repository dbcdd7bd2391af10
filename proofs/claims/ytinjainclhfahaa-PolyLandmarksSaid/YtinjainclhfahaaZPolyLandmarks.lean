/- Proved: for every two lists of items, power and landmarks the law PolyLandmarks returns true: a counter that is rebased is the counter of the same items with the earlier landmark, and merging two counters is counting the items of both. Conditions: none. -/
import Derived.Test.YtinjainclhfahaaRows
import Derived.Test.YtinjainclhfahaaZPLmkq144
namespace Go.Proofs.Ytinjainclhfahaa
open Go.ChangeShapes Go.WideShapes Go.ChangeAt Go.RowKit Go.Joins
set_option linter.unusedVariables false

theorem polyLandmarks_own : ownKnob Try.prog.godebug = none := by kernel_rfl

set_option maxHeartbeats 16000000 in
set_option maxRecDepth 100000 in
theorem polyLandmarks_walk (n k : Nat) (A : Option Addr) (L : List It) (hk : n ≤ k) (hI : InI L) (n' k' : Nat) (A' : Option Addr) (L' : List It) (hk' : n' ≤ k') (hI' : InI L') (p : Int) (_ : (Lit.int .i64 p).wf = true) (a0 : Int) (_ : (Lit.int .i64 a0).wf = true) (b0 : Int) (_ : (Lit.int .i64 b0).wf = true) (w : World) (hS : Sl w A n L) (hS' : Sl w A' n' L') :
    Calls Try.prog 8 #[.slice A n k, .slice A' n' k', .int .i64 p, .int .i64 a0, .int .i64 b0] w fun e w' => e = .returned (.bool true) ∧ Up w w' := by
  have KA := Lib.hid awake15_up
  have KI := Lib.hid (fun W => int_any p 5 (by decide) (by decide) W)
  have KL := Lib.hid (fun W => modm_any a0 100000 (by decide) (by decide) W)
  have KT := Lib.hid (fun W => modm_any b0 100000 (by decide) (by decide) W)
  have q0 := Int.emod_nonneg p (show (5 : Int) ≠ 0 by decide)
  have q1 := Int.emod_lt_of_pos p (show (0 : Int) < 5 by decide)
  have c0 := Int.emod_nonneg a0 (show (100000 : Int) ≠ 0 by decide)
  have c1 := Int.emod_lt_of_pos a0 (show (0 : Int) < 100000 by decide)
  have d0 := Int.emod_nonneg b0 (show (100000 : Int) ≠ 0 by decide)
  have d1 := Int.emod_lt_of_pos b0 (show (0 : Int) < 100000 by decide)
  generalize a0 % 100000 = a at *
  generalize b0 % 100000 = b at *
  obtain ⟨m, hm⟩ : ∃ m : Nat, p % 5 = m := ⟨(p % 5).toNat, by omega⟩
  rw [hm] at KI q0 q1
  have hm4 : m ≤ 4 := by omega
  have KS := Lib.hid (fun W (h : Sl W A n L) => shifted_up n k A L a c0 (by omega) W h)
  have KS' := Lib.hid (fun W (h : Sl W A' n' L') => shifted_up n' k' A' L' b d0 (by omega) W h)
  have KR := Lib.hid (fun A1 n1 k1 M z W (h1 : n1 ≤ 60) (h2 : sdM a z M) (h3 : Sl W A1 n1 M) => run15_up m a z n1 k1 A1 M hm4 c0 (by omega) h1 h2 W h3)
  have KR' := Lib.hid (fun A1 n1 k1 M z W (h1 : n1 ≤ 60) (h2 : sdM b z M) (h3 : Sl W A1 n1 M) => run15_up m b z n1 k1 A1 M hm4 d0 (by omega) h1 h2 W h3)
  have HS := Lib.hid hS
  have HS' := Lib.hid hS'
  clear hS hS' hI hI' hm q0 q1
  go_enter Try.func8, Try.ntmps8
  go_upto_region 7 with (first
    | (go_at_call 26; (with_reducible refine (KI.out _).mono ?_); rintro e w' ⟨rfl, rfl⟩)
    | (go_at_call 27; (with_reducible refine (KL.out _).mono ?_); rintro e w' ⟨rfl, rfl⟩)
    | (go_at_call 27; (with_reducible refine (KT.out _).mono ?_); rintro e w' ⟨rfl, rfl⟩)
    | (go_at_call 28; (with_reducible refine (KS.out _ HS.out).mono ?_); rintro e w1 ⟨A1, n1, k1, M, z1, rfl, hn1, hsd, hS, hu⟩; have HM1 := Lib.hid hsd; have HS1 := Lib.hid hS; have HN1 := Lib.hid hn1; have HS2 := Lib.hid (HS'.out.up hu); have U1 := Lib.hid hu; clear hsd hS hn1 hu)
    | (go_at_call 28; (with_reducible refine (KS'.out _ HS2.out).mono ?_); rintro e w2 ⟨A2, n2, k2, N, z2, rfl, hn2, hsd, hS, hu⟩; have HM2 := Lib.hid hsd; have HT2 := Lib.hid hS; have HN2 := Lib.hid hn2; have HT1 := Lib.hid (HS1.out.up hu); have U2 := Lib.hid (U1.out.trans hu); clear hsd hS hn2 hu)
    | (go_at_call 29; (with_reducible refine (KR.out _ _ _ _ _ _ HN1.out HM1.out HT1.out).mono ?_); rintro e w3 ⟨A3, k3, e1, rfl, hk3, hN3, hS3, hc, hu⟩; have HS3 := Lib.hid hS3; have HK3 := Lib.hid hk3; have HC1 := Lib.hid hc; have U3 := Lib.hid hu; clear hk3 hN3 hS3 hc hu)
    | (go_at_call 29; (with_reducible refine (KR'.out _ _ _ _ _ _ HN2.out HM2.out (HT2.out.up (U3.out.alloc _ _))).mono ?_); rintro e w4 ⟨A4, k4, e2, rfl, hk4, hN4, hS4, hc, hu⟩; have HS4 := Lib.hid hS4; have HK4 := Lib.hid hk4; have HC2 := Lib.hid hc; have HN4 : Hid (∀ b o, A4 = some ⟨b, o, none⟩ → b ≠ w3.heap.size) := Lib.hid (fun b o e => by have := hN4 b o e; simp at this; omega); have HS5 := Lib.hid (HS3.out.up (((Up.refl _).alloc _ _).trans hu)); obtain ⟨U4, E4⟩ := hold1 w2 w3.heap.size hu; clear hk4 hN4 hS4 hc hu))
  refine (show ∀ ws : World, ws = _ → Code.wp _ _ _ _ ws from fun ws hws => ?_) _ rfl
  obtain ⟨Us, Es⟩ := hold2 w2 w3.heap.size w4.heap.size (Up.of_eq hws)
  have HS3 := Lib.hid (HS5.out.up (((Up.refl w4).alloc _ _).trans (Up.of_eq hws)))
  have HSy := Lib.hid (HS4.out.up (((Up.refl w4).alloc _ _).trans (Up.of_eq hws)))
  have h23 : w2.heap.size ≤ w3.heap.size := by have := U3.out.size; omega
  have h24 : w2.heap.size ≤ w4.heap.size := by have := U4.out.size; omega
  have hxy : w3.heap.size < w4.heap.size := E4.2
  clear hws HS5 HS4
  obtain ⟨a3, a4, a5⟩ := HC1.out
  obtain ⟨b3, b4, b5⟩ := HC2.out
  obtain ⟨t, ht⟩ : ∃ z, z = max e1 e2 := ⟨_, rfl⟩
  obtain ⟨l, hl⟩ : ∃ z, z = min a b := ⟨_, rfl⟩
  have hmax : ∀ (ts : Array TypeId) (ty : TypeId) (W : World), (Builtin.max_ ts ty #[.int .i64 e1, .int .i64 e2]).run Try.prog W = .ok (.int .i64 t) W := fun ts ty W => by
    rw [run_max_int2, ht]
    congr 2
    by_cases g : e2 > e1
    · rw [if_pos g]; omega
    · rw [if_neg g]; omega
  have hmin : ∀ (ts : Array TypeId) (ty : TypeId) (W : World), (Builtin.min_ ts ty #[.int .i64 a, .int .i64 b]).run Try.prog W = .ok (.int .i64 l) W := fun ts ty W => by
    rw [run_min_int2, hl]
    congr 2
    by_cases g : b < a
    · rw [if_pos g]; omega
    · rw [if_neg g]; omega
  have hla := HT1.out.1
  have hlb := HT2.out.1
  have hna := HN1.out
  have hnb := HN2.out
  have a6 := a5.later (show e1 ≤ t by omega)
  have b6 := b5.later (show e2 ≤ t by omega)
  have hX : ∀ x ∈ moL a (m + 1) M, In2 x := fitL_iff.1 (moL_in a6 (by omega) (by omega) (by omega) (by omega))
  have hY : ∀ x ∈ moL b (m + 1) N, In2 x := fitL_iff.1 (moL_in b6 (by omega) (by omega) (by omega) (by omega))
  have K5 := Lib.hid (fun W (hS : SG cW W A3 (m + 1) (moL a (m + 1) M)) => (advance15_up m a e1 t (m + 1) k3 A3 _ (by omega) HK3.out hX W hS).mono (fun e w' (h : Rs _ W e w') => by rw [run_adv hm4 c0 a3 (by omega) (by omega) a5] at h; exact h.st (moL_len _ _ _)))
  have K6 := Lib.hid (fun W (hS : SG cW W A4 (m + 1) (moL b (m + 1) N)) => (advance15_up m b e2 t (m + 1) k4 A4 _ (by omega) HK4.out hY W hS).mono (fun e w' (h : Rs _ W e w') => by rw [run_adv hm4 d0 b3 (by omega) (by omega) b5] at h; exact h.st (moL_len _ _ _)))
  have K7 := Lib.hid (fun W A k B j hk hj (hS : SG cW W A (m + 1) (moL a (m + 1) M)) (hT : SG cW W B (m + 1) (moL b (m + 1) N)) => (merge15_up m a t (m + 1) k A _ m b t (m + 1) j B _ (by omega) (by omega) hk hj hX hY W hS hT).mono (fun e w' (h : Rs _ W e w') => by rw [lm_mrg hm4 (by omega) hl (by omega) (by omega) (by omega) a6 b6 (by omega)] at h; exact h.st (moL_len _ _ _)))
  have K8 := Lib.hid (fun W A k hk (hS : SG cW W A (m + 1) (moL a (m + 1) M)) => (rebase15_up m a t l (m + 1) k A _ (by omega) hk hX W hS).mono (fun e w' (h : Rs _ W e w') => by rw [lm_reb hm4 (by omega) (by omega) (by omega) (by omega) a6 (by omega)] at h; exact h.st (moL_len _ _ _)))
  unfold StR at K5 K6 K7 K8
  have hmn := (a6.early (show l ≤ a by omega)).app (b6.early (show l ≤ b by omega))
  have K9 := Lib.hid (fun (j : Nat) (hj : j ≤ 4) W (hS : Sl W A1 n1 M) => (rpoly_up n1 k1 A1 M l j (by omega) (okM_in c0 (by omega) a6) W hS).mono (fun e w' h => by rw [plO_mom hj (a6.early (show l ≤ a by omega)) (by omega) (by omega) (by omega) (by omega) (by omega), gotW_some] at h; exact h))
  have K10 := Lib.hid (fun (j : Nat) (hj : j ≤ 4) W A9 k9 (hS : Sl W A9 (n1 + n2) (M ++ N)) => (rpoly_up (n1 + n2) k9 A9 (M ++ N) l j (by omega) (okM_in (land := l) (by omega) (by omega) hmn) W hS).mono (fun e w' h => by rw [plO_mom hj hmn (by omega) (by omega) (by omega) (by omega) (by rw [List.length_append]; omega), gotW_some] at h; exact h))
  have hn12 : n1 + n2 ≤ 120 := by omega
  have kp : IntKind.i64.wrap ((m : Int) + 1) = ((m + 1 : Nat) : Int) := by rw [IntKind.wrap_i64]; omega
  clear a3 a4 a5 a6 b3 b4 b5 b6 hX hY hmn hl ht hla hlb hna hnb c0 c1 d0 d1 KI KL KT KS KS' KR KR' HS HS' HS1 HS2 HC1 HC2 HM1 HM2 HN1 HN2
  obtain ⟨Xa, hXa⟩ : ∃ z, z = moL a (m + 1) M := ⟨_, rfl⟩
  obtain ⟨Yb, hYb⟩ : ∃ z, z = moL b (m + 1) N := ⟨_, rfl⟩
  rw [← hXa] at HS3 K5 K7 K8
  rw [← hYb] at HSy K6 K7
  clear hXa hYb
  have tm : (((m + 1 : Nat) : Int) != ((m + 1 : Nat) : Int)) = false := by simp
  go_upto_region 13 with (first
    | (go_at_call 14; (with_reducible refine (K5.out _ HS3.out).mono ?_); rintro e w5 ⟨A5, k5, rfl, hK, hN, hS, hu⟩; have HK5 := Lib.hid hK; have HS5 := Lib.hid hS; have HN5 : Hid (∀ b o, A5 = some ⟨b, o, none⟩ → b ≠ w3.heap.size ∧ b ≠ w4.heap.size) := Lib.hid (fun b o e => by have := hN b o e; omega); have HSz := Lib.hid (HSy.out.up hu); obtain ⟨U5, E5⟩ := hold2 w2 w3.heap.size w4.heap.size hu; have z5 := fun o => U5.out.ownGe h23 o; have y5 := fun o => U5.out.ownGe h24 o; have hx5 : w3.heap.size < w5.heap.size := E5.2.1; have hy5 : w4.heap.size < w5.heap.size := E5.2.2; have x0 : w5.cell? ⟨w3.heap.size, 0, none⟩ = some (.int .i64 m) := (by simp [go_sem, E5, Es, E4]); have x1 : w5.cell? ⟨w3.heap.size, 1, none⟩ = some (.int .i64 a) := (by simp [go_sem, E5, Es, E4]); have x2 : w5.cell? ⟨w3.heap.size, 2, none⟩ = some (.int .i64 e1) := (by simp [go_sem, E5, Es, E4]); have x3 : w5.cell? ⟨w3.heap.size, 3, none⟩ = some (.slice A3 (m + 1) k3) := (by simp [go_sem, E5, Es, E4]); have y0 : w5.cell? ⟨w4.heap.size, 0, none⟩ = some (.int .i64 m) := (by simp [go_sem, E5, Es]); have y1 : w5.cell? ⟨w4.heap.size, 1, none⟩ = some (.int .i64 b) := (by simp [go_sem, E5, Es]); have y2 : w5.cell? ⟨w4.heap.size, 2, none⟩ = some (.int .i64 e2) := (by simp [go_sem, E5, Es]); have y3 : w5.cell? ⟨w4.heap.size, 3, none⟩ = some (.slice A4 (m + 1) k4) := (by simp [go_sem, E5, Es]); clear hK hN hS hu E5 E4 Es)
    | (go_at_call 14; ((with_reducible refine (K6.out _ ?_).mono ?_); · (repeat (first | (with_reducible exact HSz.out) | (with_reducible exact HSz.out.up ((Up.refl _).alloc _ _)) | (with_reducible refine SG.off ?_ (fun b o e => by have := HN4.out b o e; omega) _)))); rintro e w6 ⟨A6, k6, rfl, hK, hN, hS, hu⟩; have HK6 := Lib.hid hK; have HS6 := Lib.hid hS; have HN6 : Hid (∀ b o, A6 = some ⟨b, o, none⟩ → b ≠ w3.heap.size ∧ b ≠ w4.heap.size) := Lib.hid (fun b o e => by have := hN b o e; simp at this; omega); have HR6 : Hid (SG cW w6 A5 (m + 1) Xa) := Lib.hid (SG.up (by (repeat (first | (with_reducible exact HS5.out) | (with_reducible exact HS5.out.up ((Up.refl _).alloc _ _)) | (with_reducible refine SG.off ?_ (fun b o e => by have := HN5.out b o e; omega) _)))) hu); obtain ⟨U6, E6⟩ := hold2 w2 w3.heap.size w4.heap.size hu; have z6 := fun o => U6.out.ownGe h23 o; have y6 := fun o => U6.out.ownGe h24 o; have hx6 : w3.heap.size < w6.heap.size := E6.2.1; have hy6 : w4.heap.size < w6.heap.size := E6.2.2; have u0 : w6.cell? ⟨w3.heap.size, 0, none⟩ = some (.int .i64 m) := (by simp [go_sem, E6, x0]); have u1 : w6.cell? ⟨w3.heap.size, 1, none⟩ = some (.int .i64 a) := (by simp [go_sem, E6, x1]); have u2 : w6.cell? ⟨w3.heap.size, 2, none⟩ = some (.int .i64 t) := (by simp [go_sem, E6, x2]); have u3 : w6.cell? ⟨w3.heap.size, 3, none⟩ = some (.slice A5 (m + 1) k5) := (by simp [go_sem, E6, x3]); have v0 : w6.cell? ⟨w4.heap.size, 0, none⟩ = some (.int .i64 m) := (by simp [go_sem, E6, y0]); have v1 : w6.cell? ⟨w4.heap.size, 1, none⟩ = some (.int .i64 b) := (by simp [go_sem, E6, y1]); have v2 : w6.cell? ⟨w4.heap.size, 2, none⟩ = some (.int .i64 e2) := (by simp [go_sem, E6, y2]); have v3 : w6.cell? ⟨w4.heap.size, 3, none⟩ = some (.slice A4 (m + 1) k4) := (by simp [go_sem, E6, y3]); clear hK hN hS hu E6)
    | (go_at_call 24; ((with_reducible refine (K7.out _ A5 k5 A6 k6 HK5.out HK6.out ?_ ?_).mono ?_); (· (repeat (first | (with_reducible exact HR6.out) | (with_reducible exact HR6.out.up ((Up.refl _).alloc _ _)) | (with_reducible refine SG.off ?_ (fun b o e => by have := HN5.out b o e; omega) _)))); (· (repeat (first | (with_reducible exact HS6.out) | (with_reducible exact HS6.out.up ((Up.refl _).alloc _ _)) | (with_reducible refine SG.off ?_ (fun b o e => by have := HN6.out b o e; omega) _))))); rintro e w7 ⟨A7, k7, rfl, hK, hN, hS, hu⟩; have HS7 := Lib.hid hS; have HR7 : Hid (SG cW w7 A5 (m + 1) Xa) := Lib.hid (SG.up (by (repeat (first | (with_reducible exact HR6.out) | (with_reducible exact HR6.out.up ((Up.refl _).alloc _ _)) | (with_reducible refine SG.off ?_ (fun b o e => by have := HN5.out b o e; omega) _)))) hu); obtain ⟨U7, E7⟩ := hold2 w2 w3.heap.size w4.heap.size hu; have hx7 : w3.heap.size < w7.heap.size := E7.2.1; have s0 : w7.cell? ⟨w3.heap.size, 0, none⟩ = some (.int .i64 m) := (by simp [go_sem, E7, u0]); have s1 : w7.cell? ⟨w3.heap.size, 1, none⟩ = some (.int .i64 a) := (by simp [go_sem, E7, u1]); have s2 : w7.cell? ⟨w3.heap.size, 2, none⟩ = some (.int .i64 t) := (by simp [go_sem, E7, u2]); have s3 : w7.cell? ⟨w3.heap.size, 3, none⟩ = some (.slice A5 (m + 1) k5) := (by simp [go_sem, E7, u3]); clear hK hN hS hu E7)
    | (go_at_call 22; (with_reducible refine (K8.out _ A5 k5 HK5.out (HR7.out.up ((Up.refl _).alloc _ _))).mono ?_); rintro e w8 ⟨A8, k8, rfl, hK, hN, hS, hu⟩; have HS8 := Lib.hid hS; have HR8 := Lib.hid (HS7.out.up (((Up.refl _).alloc _ _).trans hu)); obtain ⟨U8, E8⟩ := hold1 w2 w7.heap.size hu; clear hK hN hS hu))
  refine (show ∀ wz : World, wz = _ → Code.wp _ _ _ _ wz from fun wz hwz => ?_) _ rfl
  obtain ⟨Uz, Ez⟩ := hold2 w2 w7.heap.size w8.heap.size (Up.of_eq hwz)
  have HA8 := Lib.hid (HS8.out.up (((Up.refl w8).alloc _ _).trans (Up.of_eq hwz)))
  have HA7 := Lib.hid (HR8.out.up (((Up.refl w8).alloc _ _).trans (Up.of_eq hwz)))
  have HL1 := Lib.hid (HT1.out.up Uz.out)
  have HL2 := Lib.hid (HT2.out.up Uz.out)
  have m1 : wz.cell? ⟨w7.heap.size, 1, none⟩ = some (.int .i64 l) := by simp [go_sem, Ez, E8]
  have m3 : wz.cell? ⟨w7.heap.size, 3, none⟩ = some (.slice A7 (m + 1) k7) := by simp [go_sem, Ez, E8]
  have v3 : wz.cell? ⟨w8.heap.size, 3, none⟩ = some (.slice A8 (m + 1) k8) := by simp [go_sem, Ez]
  have HUw := Lib.hid (U2.out.trans Uz.out)
  clear hwz Ez E8 HS8 HR8 HS7 HR7 HR6 HT1 HT2 HS3 HSy U3 U4 Us K5 K6 K7 K8 HN4 HN5 HN6 hmax HK3 HK4 HK5 HK6 U5 U6 U7 U8 s0 s1 s2 s3 x0 x1 x2 x3 y0 y1 y2 y3 u0 u1 u2 u3 v0 v1 v2
  go_wp2_with fail
  go_loopw [25] (fun u wr => ∃ j : Nat, u = .int .i64 j ∧ j ≤ m + 1 ∧ Hid (Up wz wr)) (fun u _ => m + 1 - (intOf u).toNat)
  case atStart => exact ⟨0, rfl, Nat.zero_le _, Lib.hid (Up.refl _)⟩
  case round =>
    obtain ⟨j, rfl, hjm, HW⟩ := hrel
    by_cases hj : j ≤ m
    case neg =>
      have f1 : decide ((j : Int) ≤ (m : Int)) = false := decide_eq_false (by omega)
      have f2 : decide (j ≤ m) = false := decide_eq_false hj
      clear K9 K10
      go_wp2_with (go_at_call 12; (with_reducible refine (KA.out _).mono ?_); rintro e w9 ⟨rfl, hu⟩; have HU9 := Lib.hid (HUw.out.trans (HW.out.trans hu)); clear hu)
      go_ret
      exact ⟨rfl, HU9.out⟩
    have g1 : (j : Int) ≤ (m : Int) := by omega
    have g2 : (j : Int) < ((m + 1 : Nat) : Int) := by omega
    have g3 : (0 : Int) ≤ j := by omega
    have KJ := Lib.hid (K9.out j (by omega))
    have KK := Lib.hid (K10.out j (by omega))
    obtain ⟨b8, o8, rfl, y0, y1⟩ := wide_at (HA8.out.up HW.out) (show j < m + 1 by omega)
    obtain ⟨b7, o7, rfl, x0, x1⟩ := wide_at (HA7.out.up HW.out) (show j < m + 1 by omega)
    rw [moL_get (show j < m + 1 by omega)] at x0 x1 y0 y1
    generalize momZ l j M = V1 at *
    generalize momZ l j (M ++ N) = V2 at *
    have m3' := HW.out.keep _ _ _ m3
    have v3' := HW.out.keep _ _ _ v3
    have qe1 := eqW15 (hiZ V1) (loZ V1)
    have qe2 := eqW15 (hiZ V2) (loZ V2)
    clear K9 K10 m1 m3 v3
    go_upto_region 20 with (first
      | (go_at_call 30; (with_reducible refine (KJ.out _ (HL1.out.up HW.out)).mono ?_); rintro e w9 ⟨rfl, hu⟩; have HU9 := Lib.hid hu; obtain ⟨v1, wa, hr1, hO1, hu1⟩ := append0_run 44 (w9.alloc (.cells #[.int .u64 (hiZ V1), .int .u64 (loZ V1)] 35)) ((w9.alloc (.cells #[.int .u64 (hiZ V1), .int .u64 (loZ V1)] 35)).alloc (.cells #[] 53)) (w9.heap.size + 1) (own_empty' (by simp) (Nat.le_refl _)) ((Up.refl _).alloc _ _) A1 n1 k1 M (HL1.out.up (HW.out.trans (hu.trans (((Up.refl _).alloc _ _).alloc _ _)))) (by omega); obtain ⟨v2, wb, hr2, hO2, hu2⟩ := append_run 44 (w9.alloc (.cells #[.int .u64 (hiZ V1), .int .u64 (loZ V1)] 35)) wa v1 n1 M hO1 (((Up.refl _).alloc _ _).trans hu1) A2 n2 k2 N (HL2.out.up (HW.out.trans (hu.trans ((((Up.refl _).alloc _ _).alloc _ _).trans hu1)))) (by omega); obtain ⟨A9, k9, rfl, _, hS9⟩ := hO2.sl; have HS9 := Lib.hid hS9; have HUb := Lib.hid hu2; clear hu hO1 hu1 hO2 hu2 hS9)
      | (refine wpList_append_run (o := ⟨some 145, _, _, _, _, _⟩) rfl (.tmp 143) (.tmp 144) _ rfl _ _ rfl rfl _ _ hr1 ?_)
      | (refine wpList_append_run (o := ⟨some 147, _, _, _, _, _⟩) rfl (.tmp 145) (.tmp 146) _ rfl _ _ rfl rfl _ _ hr2 ?_)
      | (go_at_call 30; (with_reducible refine (KK.out _ A9 k9 HS9.out).mono ?_); rintro e w10 ⟨rfl, hu⟩; have HUt := Lib.hid (HUb.out.trans hu); clear hu))
    refine (show ∀ wq : World, wq = _ → Code.wp _ _ _ _ wq from fun wq hwq => ?_) _ rfl
    have hq : Up w10 wq := ((Up.refl w10).alloc #[.int .u64 (hiZ V2), .int .u64 (loZ V2)] 35).trans (Up.of_eq hwq)
    have t0 : wq.cell? ⟨w10.heap.size, 0, none⟩ = some (.int .u64 (hiZ V2)) := by rw [hwq]; simp [go_sem]
    have t1 : wq.cell? ⟨w10.heap.size, 1, none⟩ = some (.int .u64 (loZ V2)) := by rw [hwq]; simp [go_sem]
    have s0 := (HUt.out.trans hq).keep w9.heap.size 0 (.int .u64 (hiZ V1)) (by simp [go_sem])
    have s1 := (HUt.out.trans hq).keep w9.heap.size 1 (.int .u64 (loZ V1)) (by simp [go_sem])
    have HQ := Lib.hid ((HU9.out.alloc #[.int .u64 (hiZ V1), .int .u64 (loZ V1)] 35).trans (HUt.out.trans hq))
    have a0 := HQ.out.keep _ _ _ x0
    have a1 := HQ.out.keep _ _ _ x1
    have b0_ := HQ.out.keep _ _ _ y0
    have b1_ := HQ.out.keep _ _ _ y1
    have m4 := HQ.out.keep _ _ _ m3'
    have v4 := HQ.out.keep _ _ _ v3'
    clear hq hwq x0 x1 y0 y1 m3' v3'
    go_wp2_with fail
    go_quiet (fail)
    go_wp2_with fail
    go_roundw
    case rel => exact ⟨j + 1, by go_num, by omega, Lib.hid (HW.out.trans (HQ.out.drewN _))⟩
    case measure => simp [intOf]; omega

set_option maxRecDepth 100000 in
theorem polyLandmarks_lifted (os : Os) (started : os.Started) (H : Type) (enc : TypeId × Value → H) :
    ReturnsInHanded {} Try.checked os 8 .any (Rows.polyLandmarksSpec.pre6 enc Try.prog Try.f8 Rows.polyLandmarksRow.domain false) (Rows.polyLandmarksSpec.post enc Try.prog Try.f8 false true false false) := by
  refine returnsInHanded_of_change_sized (C := Try.checked) polyLandmarks_own started (by kernel_rfl) Try.func8
    (ChangeSpec.witness6 (enc := enc) (C := Try.checked) false ⟨#[], #[.slice none 0 0, .slice none 0 0, .int .i64 0, .int .i64 0, .int .i64 0], []⟩ 8 (by kernel_rfl) (by kernel_rfl) (by kernel_rfl) (by kernel_rfl)) ?_
  intro W base args ds gs before hval0 hW hcnd hsz0 _
  have hval : ∀ (j : Nat) t v, Try.f8.params[j]? = some t → args[j]? = some v → Value.okWide Try.prog W .any base t v := hval0
  have hW' := hW
  obtain ⟨p, q, hA0, hV, rfl, hfz, hnd⟩ := hW'
  have hA : DataW.TrodAll enc Try.prog W 0 (fun _ => true) true Try.f8.params.toList args.toList ds p := hA0
  rw [Try.params8] at hA hval
  obtain ⟨v0, vs0, d0, ds0, p0, q0, hargs, rfl, rfl, h0, r0⟩ := trodAll_cons hA
  obtain ⟨v1, vs1, d1, ds1, p1, q1, rfl, rfl, rfl, h1, r1⟩ := trodAll_cons r0
  obtain ⟨v2, vs2, d2, ds2, p2, q2, rfl, rfl, rfl, h2, r2⟩ := trodAll_cons r1
  obtain ⟨v3, vs3, d3, ds3, p3, q3, rfl, rfl, rfl, h3, r3⟩ := trodAll_cons r2
  obtain ⟨v4, vs4, d4, ds4, p4, q4, rfl, rfl, rfl, h4, r4⟩ := trodAll_cons r3
  obtain ⟨rfl, rfl, rfl⟩ := trodAll_nil r4
  obtain rfl : args = #[v0, v1, v2, v3, v4] := by cases args; simp_all
  obtain ⟨rfl, rfl⟩ := trodVars_none hV
  have hlt := fun x hx => hW.lt x hx
  have k0 := h0
  obtain ⟨n0, m0, A0, L0, rfl, hk0, hS0, hI0⟩ := open_items2 (hval 0 44 v0 rfl rfl) h0
  have k1 := h1
  obtain ⟨n1, m1, A1, L1, rfl, hk1, hS1, hI1⟩ := open_items2 (hval 1 44 v1 rfl rfl) h1
  have k2 := h2
  obtain ⟨a2, rfl, rfl, rfl, w2⟩ := open_int Try.underlying3 (hval 2 3 v2 rfl rfl) h2
  have k3 := h3
  obtain ⟨a3, rfl, rfl, rfl, w3⟩ := open_int Try.underlying2 (hval 3 2 v3 rfl rfl) h3
  have k4 := h4
  obtain ⟨a4, rfl, rfl, rfl, w4⟩ := open_int Try.underlying2 (hval 4 2 v4 rfl rfl) h4
  refine (polyLandmarks_walk n0 m0 A0 L0 hk0 hI0 n1 m1 A1 L1 hk1 hI1 a2 w2 a3 w3 a4 w4 W hS0 hS1).mono fun e W' ⟨he, hg⟩ => ?_
  subst he
  exact ⟨_, rfl, post_of_same (pv := []) hW (fun _ _ _ => (trodAll_cons_mk (shut_bool Try.underlying4 _) trodAll_mk0)) (fun sp hsp => (trodAll_cons_mk (stay (by kernel_rfl) (of_decide_eq_true (by kernel_rfl)) k0 hg hlt (fun x hx => by first | (simp at hx; done) | simp [hx]) hsp) (trodAll_cons_mk (stay (by kernel_rfl) (of_decide_eq_true (by kernel_rfl)) k1 hg hlt (fun x hx => by first | (simp at hx; done) | simp [hx]) hsp) (trodAll_cons_mk (stay (by kernel_rfl) (of_decide_eq_true (by kernel_rfl)) k2 hg hlt (fun x hx => by first | (simp at hx; done) | simp [hx]) hsp) (trodAll_cons_mk (stay (by kernel_rfl) (of_decide_eq_true (by kernel_rfl)) k3 hg hlt (fun x hx => by first | (simp at hx; done) | simp [hx]) hsp) (trodAll_cons_mk (stay (by kernel_rfl) (of_decide_eq_true (by kernel_rfl)) k4 hg hlt (fun x hx => by first | (simp at hx; done) | simp [hx]) hsp) trodAll_mk0)))))) (fun _ _ => rfl) rfl
    (hg.grown.frame _) hg.grown.2.1 (ok_one (by kernel_rfl) rfl (okWide_bool_mk Try.underlying4 _))⟩

theorem polyLandmarks_over : Rows.polyLandmarksRow.holds Try.pinned (OpenSpec.ofChange Rows.polyLandmarksSpec) :=
  OpenClaim.holds_of_wide 8 Try.f8 rfl rfl rfl rfl rfl rfl rfl ⟨rfl, rfl, rfl, rfl, rfl⟩ rfl rfl rfl rfl rfl (by kernel_rfl) Try.func8 (by kernel_rfl)
    (of_decide_eq_true (by kernel_rfl)) (by unfold Func.isWrapper; first | (rw [if_pos (by decide +kernel)]; kernel_rfl) | (rw [if_neg (by decide +kernel)]; exact ⟨rfl, rfl⟩))
    (fun os started H enc _ => polyLandmarks_lifted os started H enc)

theorem polyLandmarks_holds : Rows.PolyLandmarksSaid :=
  polyLandmarks_over
end Go.Proofs.Ytinjainclhfahaa
