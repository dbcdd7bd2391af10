/- What validCap, place and Validate of package ring return, and the reference's Validate. -/
import Derived.Test.YtjedcpfipebncaaGKeep
namespace Go.Proofs.Ytjedcpfipebncaa
open Go.RowKit

theorem eqItem (a0 a1 b0 b1 : Int) (w : World) : (Op.equalIn 10000 35 (.agg #[.int .i64 a0, .int .i64 a1]) (.agg #[.int .i64 b0, .int .i64 b1])).run Try.prog w =
    .ok (a0 == b0 && a1 == b1) w := by
  have qu := Try.underlying2
  have qa := Try.isAgg2
  have qz := Try.sizeOf2
  rw [show (10000 : Nat) = 9999 + 1 from rfl, Op.equalIn]
  simp only [Sem.run_bind, run_underlying Try.underlying35, Result.andThen_ok]
  go_simp
  by_cases h0 : a0 = b0 <;> by_cases h1 : a1 = b1 <;> simp [h0, h1]

theorem eqItem_no {a b c d : Int} (h : ¬ (a = c ∧ b = d)) : (a == c && b == d) = false := by
  rw [Bool.eq_false_iff]; intro e; simp only [Bool.and_eq_true, beq_iff_eq] at e; exact h e

def capB (n : Int) : Bool := decide (1 ≤ n ∧ n ≤ 65536)
theorem validCap_any (n : Int) (w : World) : Calls Try.prog 29 #[.int .i64 n] w fun e w' => e = .returned (.bool (capB n)) ∧ w = w' := by
  by_cases h1 : 1 ≤ n
  · have t1 : decide (1 ≤ n) = true := decide_eq_true h1
    go_enter Try.func29, Try.ntmps29
    go_wp2
    go_ret
    exact ⟨by simp [capB, h1], rfl⟩
  · have t1 : decide (1 ≤ n) = false := decide_eq_false h1
    go_enter Try.func29, Try.ntmps29
    go_wp2
    go_ret
    exact ⟨by rw [show capB n = false from decide_eq_false (by omega)]; rfl, rfl⟩
theorem place_any (c h l i : Int) (s : Value) (hc : 1 ≤ c) (hc' : c ≤ 65536) (hh : 0 ≤ h) (hh' : h ≤ 65536) (hi : 0 ≤ i) (hi' : i ≤ 65536) (w : World) :
    Calls Try.prog 30 #[.agg #[.int .i64 c, .int .i64 h, .int .i64 l, s], .int .i64 i] w fun e w' => e = .returned (.int .i64 ((h + i) % c)) ∧ Up w w' := by
  have t0 : (c == 0) = false := by simp; omega
  go_enter Try.func30, Try.ntmps30
  go_wp2
  go_ret
  refine ⟨rfl, ?_⟩
  repeat (first | exact Up.refl _ | refine Up.alloc ?_ _ _ | refine Up.setCell ?_ (by first | (simp; done) | (simp; omega) | omega) _ | refine Up.drewN ?_ _ | refine Up.drew ?_)

/-- No element lies in the cells from place i on. -/
def zf (c h : Nat) (L : List It) (i : Nat) : Bool := decide (∀ k, k < c → i ≤ k → L.getD ((h + k) % c) (0, 0) = (0, 0))
theorem zf_end (c h : Nat) (L : List It) : zf c h L c = true := decide_eq_true fun k h1 h2 => absurd h1 (by omega)
theorem zf_step {c h : Nat} {L : List It} {i : Nat} (hz : L.getD ((h + i) % c) (0, 0) = (0, 0)) : zf c h L i = zf c h L (i + 1) := by
  unfold zf
  rw [decide_eq_decide]
  constructor
  · intro g k h1 h2; exact g k h1 (by omega)
  · intro g k h1 h2
    rcases Nat.eq_or_lt_of_le h2 with rfl | h3
    · exact hz
    · exact g k h1 h3
theorem zf_no {c h : Nat} {L : List It} {i : Nat} (hi : i < c) (hz : L.getD ((h + i) % c) (0, 0) ≠ (0, 0)) : zf c h L i = false := by
  unfold zf
  rw [decide_eq_false_iff_not]
  intro g
  exact hz (g i hi (Nat.le_refl _))
def vE (b : Bool) : Int := if b = true then 0 else 2
theorem vE_true : vE true = 0 := rfl
theorem vE_false : vE false = 2 := rfl


set_option maxHeartbeats 2000000 in
set_option maxRecDepth 100000 in
theorem rval_yes (c h l k : Nat) (A : Option Addr) (L : List It) (hc : 1 ≤ c) (hc' : c ≤ 65536) (hh : h < c) (hl : l ≤ c) (w : World) (hS : Sl w A c L) :
    Calls Try.prog 15 #[.agg #[.int .i64 c, .int .i64 h, .int .i64 l, .slice A c k]] w fun e w' => e = .returned (.int .i64 (vE (zf c h L l))) ∧ Up w w' := by
  have HS := Lib.hid hS
  clear hS
  have t1 : decide ((c : Int) < 1) = false := decide_eq_false (by omega)
  have t2 : decide (65536 < (c : Int)) = false := decide_eq_false (by omega)
  have t3 : ((c : Int) != (c : Int)) = false := by simp
  have t4 : decide ((h : Int) < 0) = false := decide_eq_false (by omega)
  have t5 : decide (c ≤ h) = false := decide_eq_false (by omega)
  have t6 : decide ((l : Int) < 0) = false := decide_eq_false (by omega)
  have t7 : decide (c < l) = false := decide_eq_false (by omega)
  go_enter Try.func15, Try.ntmps15
  go_wp2
  go_loopw [3] (fun t wr => ∃ i : Nat, t = .int .i64 i ∧ l ≤ i ∧ i ≤ c ∧ Hid (zf c h L l = zf c h L i) ∧ Hid (Up (w.alloc (.cells #[.int .i64 c, .int .i64 h, .int .i64 l, .slice A c k] 24)) wr)) (fun t _ => c - (intOf t).toNat)
  case atStart => exact ⟨l, rfl, Nat.le_refl _, hl, Lib.hid rfl, Lib.hid (Up.refl _)⟩
  case round =>
    obtain ⟨i, rfl, i1, i2, HZ, HU⟩ := hrel
    have c0 := HU.out.keep w.heap.size 0 (.int .i64 c) (by simp [go_sem])
    have c1 := HU.out.keep w.heap.size 1 (.int .i64 h) (by simp [go_sem])
    have c2 := HU.out.keep w.heap.size 2 (.int .i64 l) (by simp [go_sem])
    have c3 := HU.out.keep w.heap.size 3 (.slice A c k) (by simp [go_sem])
    by_cases hlt : i < c
    · have hm : (h + i) % c < c := Nat.mod_lt _ (by omega)
      obtain ⟨b, o, rfl, d0, d1⟩ := (HS.out.up (((Up.refl w).alloc _ _).trans HU.out)).at_ hm
      obtain ⟨m, hmm⟩ : ∃ m, m = (h + i) % c := ⟨_, rfl⟩
      have HM := Lib.hid hmm
      rw [← hmm] at d0 d1 hm
      clear hmm
      have e1 : IntKind.i64.wrap ((h : Int) + i) = (h : Int) + i := IntWalk.i64_in _ (by omega) 
      have e2 : ((h : Int) + i).tmod c = (m : Int) := by rw [Int.tmod_eq_emod_of_nonneg (by clear e1; omega), HM.out]; rfl
      have e3 : IntKind.i64.wrap (m : Int) = m := IntWalk.i64_in _ (by clear e1 e2; omega)
      have f1 : ¬ c = 0 := by clear e1 e2; omega
      have f2 : (m : Int) < c := by clear e1 e2; omega
      have f3 : (0 : Int) ≤ m := by clear e1 e2; omega
      obtain ⟨p0, hp0⟩ : ∃ p, p = (L.getD m (0, 0)).1 := ⟨_, rfl⟩
      obtain ⟨p1, hp1⟩ : ∃ p, p = (L.getD m (0, 0)).2 := ⟨_, rfl⟩
      rw [← hp0] at d0
      rw [← hp1] at d1
      have HP := Lib.hid (show L.getD m (0, 0) = (p0, p1) by rw [hp0, hp1])
      clear hp0 hp1
      by_cases hp : p0 = 0 ∧ p1 = 0
      · obtain ⟨rfl, rfl⟩ := hp
        have qe : ∀ w, (Op.equalIn 10000 35 (.agg #[.int .i64 0, .int .i64 0]) (.agg #[.int .i64 0, .int .i64 0])).run Try.prog w = .ok true w := fun w => eqItem 0 0 0 0 w
        have HZ' := Lib.hid (HZ.out.trans (zf_step (by rw [← HM.out]; exact HP.out)))
        go_wp2
        go_quiet (fail)
        go_wp2
        go_roundw
        case rel => exact ⟨i + 1, by go_num, by omega, by omega, HZ', Lib.hid (HU.out.drewN _)⟩
        case measure => simp [intOf]; omega
      · have qe : ∀ w, (Op.equalIn 10000 35 (.agg #[.int .i64 p0, .int .i64 p1]) (.agg #[.int .i64 0, .int .i64 0])).run Try.prog w = .ok false w := fun w => by rw [eqItem, eqItem_no hp]
        have HF := Lib.hid (HZ.out.trans (zf_no hlt (by rw [← HM.out, HP.out]; intro he; injection he with h1 h2; exact hp ⟨h1, h2⟩)))
        clear hp
        go_wp2
        go_quiet (fail)
        go_wp2
        go_ret
        refine ⟨?_, ?_⟩
        · rw [HF.out]; rfl
        · exact ((Up.refl w).alloc _ _).trans (HU.out.drewN _)
    · go_wp2
      go_ret
      refine ⟨?_, ?_⟩
      · rw [HZ.out, show i = c by omega, zf_end]; rfl
      · exact ((Up.refl w).alloc _ _).trans HU.out

set_option maxHeartbeats 2000000 in
set_option maxRecDepth 100000 in
theorem val_yes (c h l k : Nat) (A : Option Addr) (L : List It) (hc : 1 ≤ c) (hc' : c ≤ 65536) (hh : h < c) (hl : l ≤ c) (w : World) (hS : Sl w A c L) :
    Calls Try.prog 13 #[.agg #[.int .i64 c, .int .i64 h, .int .i64 l, .slice A c k]] w fun e w' => e = .returned (.int .i64 (vE (zf c h L l))) ∧ Up w w' := by
  have HS := Lib.hid hS
  clear hS
  have H1 : ∀ W, Calls Try.prog 29 #[.int .i64 c] W fun e w' => e = .returned (.bool true) ∧ W = w' := fun W => by
    have := validCap_any c W; rwa [show capB (c : Int) = true from decide_eq_true ⟨by omega, by omega⟩] at this
  have t3 : ((c : Int) != (c : Int)) = false := by simp
  have t4 : decide ((h : Int) < 0) = false := decide_eq_false (by omega)
  have t5 : decide (c ≤ h) = false := decide_eq_false (by omega)
  have t6 : decide ((l : Int) < 0) = false := decide_eq_false (by omega)
  have t7 : decide (c < l) = false := decide_eq_false (by omega)
  have K1 := Lib.hid H1
  clear H1
  go_enter Try.func13, Try.ntmps13
  go_wp2_with (go_at_call 29; refine (K1.out _).mono ?_; rintro e w' ⟨rfl, rfl⟩)
  go_loopw [3] (fun t wr => ∃ i : Nat, t = .int .i64 i ∧ l ≤ i ∧ i ≤ c ∧ Hid (zf c h L l = zf c h L i) ∧ Hid (Up (w.alloc (.cells #[.int .i64 c, .int .i64 h, .int .i64 l, .slice A c k] 24)) wr)) (fun t _ => c - (intOf t).toNat)
  case atStart => exact ⟨l, rfl, Nat.le_refl _, hl, Lib.hid rfl, Lib.hid (Up.refl _)⟩
  case round =>
    obtain ⟨i, rfl, i1, i2, HZ, HU⟩ := hrel
    have c0 := HU.out.keep w.heap.size 0 (.int .i64 c) (by simp [go_sem])
    have c1 := HU.out.keep w.heap.size 1 (.int .i64 h) (by simp [go_sem])
    have c2 := HU.out.keep w.heap.size 2 (.int .i64 l) (by simp [go_sem])
    have c3 := HU.out.keep w.heap.size 3 (.slice A c k) (by simp [go_sem])
    by_cases hlt : i < c
    · have hm : (h + i) % c < c := Nat.mod_lt _ (by omega)
      obtain ⟨b, o, rfl, d0, d1⟩ := (HS.out.up (((Up.refl w).alloc _ _).trans HU.out)).at_ hm
      have K2 := Lib.hid (fun W => place_any c h l i (.slice (some ⟨b, o, none⟩) c k) (by omega) (by omega) (by omega) (by omega) (by omega) (by omega) W)
      obtain ⟨m, hmm⟩ : ∃ m, m = (h + i) % c := ⟨_, rfl⟩
      have HM := Lib.hid hmm
      rw [← hmm] at d0 d1 hm
      rw [show ((h : Int) + i) % c = (m : Int) by rw [hmm]; rfl] at K2
      clear hmm
      have f2 : (m : Int) < c := by omega
      have f3 : (0 : Int) ≤ m := by omega
      obtain ⟨p0, hp0⟩ : ∃ p, p = (L.getD m (0, 0)).1 := ⟨_, rfl⟩
      obtain ⟨p1, hp1⟩ : ∃ p, p = (L.getD m (0, 0)).2 := ⟨_, rfl⟩
      rw [← hp0] at d0
      rw [← hp1] at d1
      have HP := Lib.hid (show L.getD m (0, 0) = (p0, p1) by rw [hp0, hp1])
      clear hp0 hp1
      by_cases hp : p0 = 0 ∧ p1 = 0
      · obtain ⟨rfl, rfl⟩ := hp
        have qe : ∀ w, (Op.equalIn 10000 35 (.agg #[.int .i64 0, .int .i64 0]) (.agg #[.int .i64 0, .int .i64 0])).run Try.prog w = .ok true w := fun w => eqItem 0 0 0 0 w
        have HZ' := Lib.hid (HZ.out.trans (zf_step (by rw [← HM.out]; exact HP.out)))
        go_wp2_with fail
        go_region_held3 (fun w' => Up wr w' ∧ w'.cell? ⟨w.heap.size, 0, none⟩ = some (.int .i64 c) ∧ w'.cell? ⟨w.heap.size, 1, none⟩ = some (.int .i64 h) ∧ w'.cell? ⟨w.heap.size, 2, none⟩ = some (.int .i64 l) ∧ w'.cell? ⟨w.heap.size, 3, none⟩ = some (.slice (some ⟨b, o, none⟩) c k) ∧ w'.cell? ⟨b, o + m * 2, none⟩ = some (.int .i64 0) ∧ w'.cell? ⟨b, o + m * 2 + 1, none⟩ = some (.int .i64 0))
          (first | (with_reducible exact keep6 (by assumption) (by assumption)) | (refine ⟨?_, by simp [go_sem, *], by simp [go_sem, *], by simp [go_sem, *], by simp [go_sem, *], by simp [go_sem, *], by simp [go_sem, *]⟩; ((repeat (first | (with_reducible exact Up.refl _) | (with_reducible exact HU.out) | (with_reducible refine Up.alloc ?_ _ _) | (with_reducible refine Up.setCell ?_ ?_ _) | (with_reducible refine Up.drewN ?_ _) | (with_reducible refine Up.drew ?_))); all_goals (first | (simp; done) | (simp; omega) | omega))))
          (first
            | (go_at_call 30; (with_reducible refine (K2.out _).mono ?_); rintro e w' ⟨rfl, hu⟩; have HU2 := Lib.hid hu; clear hu))
        go_wp2
        go_roundw
        case rel => exact ⟨i + 1, by go_num, by omega, by omega, HZ', Lib.hid (HU.out.trans (And.left ‹Up wr _ ∧ _›))⟩
        case measure => simp [intOf]; omega
      · have qe : ∀ w, (Op.equalIn 10000 35 (.agg #[.int .i64 p0, .int .i64 p1]) (.agg #[.int .i64 0, .int .i64 0])).run Try.prog w = .ok false w := fun w => by rw [eqItem, eqItem_no hp]
        have HF := Lib.hid (HZ.out.trans (zf_no hlt (by rw [← HM.out, HP.out]; intro he; injection he with h1 h2; exact hp ⟨h1, h2⟩)))
        clear hp
        go_wp2_with fail
        go_region_held3 (fun w' => Up wr w' ∧ w'.cell? ⟨w.heap.size, 0, none⟩ = some (.int .i64 c) ∧ w'.cell? ⟨w.heap.size, 1, none⟩ = some (.int .i64 h) ∧ w'.cell? ⟨w.heap.size, 2, none⟩ = some (.int .i64 l) ∧ w'.cell? ⟨w.heap.size, 3, none⟩ = some (.slice (some ⟨b, o, none⟩) c k) ∧ w'.cell? ⟨b, o + m * 2, none⟩ = some (.int .i64 p0) ∧ w'.cell? ⟨b, o + m * 2 + 1, none⟩ = some (.int .i64 p1))
          (first | (with_reducible exact keep6 (by assumption) (by assumption)) | (refine ⟨?_, by simp [go_sem, *], by simp [go_sem, *], by simp [go_sem, *], by simp [go_sem, *], by simp [go_sem, *], by simp [go_sem, *]⟩; ((repeat (first | (with_reducible exact Up.refl _) | (with_reducible exact HU.out) | (with_reducible refine Up.alloc ?_ _ _) | (with_reducible refine Up.setCell ?_ ?_ _) | (with_reducible refine Up.drewN ?_ _) | (with_reducible refine Up.drew ?_))); all_goals (first | (simp; done) | (simp; omega) | omega))))
          (first
            | (go_at_call 30; (with_reducible refine (K2.out _).mono ?_); rintro e w' ⟨rfl, hu⟩; have HU2 := Lib.hid hu; clear hu))
        go_wp2
        go_ret
        refine ⟨?_, ?_⟩
        · rw [HF.out]; rfl
        · exact ((Up.refl w).alloc _ _).trans (HU.out.trans (And.left ‹Up wr _ ∧ _›))
    · go_wp2
      go_ret
      refine ⟨?_, ?_⟩
      · rw [HZ.out, show i = c by omega, zf_end]; rfl
      · exact ((Up.refl w).alloc _ _).trans HU.out

def shB (c h l : Int) (n : Nat) : Bool := decide (1 ≤ c ∧ c ≤ 65536 ∧ (n : Int) = c ∧ 0 ≤ h ∧ h < c ∧ 0 ≤ l ∧ l ≤ c)
theorem validCap_t {c : Int} (h : ¬ ¬ (1 ≤ c ∧ c ≤ 65536)) (W : World) : Calls Try.prog 29 #[.int .i64 c] W fun e w' => e = .returned (.bool true) ∧ W = w' := by
  have := validCap_any c W; rwa [show capB (c : Int) = true from decide_eq_true (Classical.not_not.1 h)] at this
theorem validCap_f {c : Int} (h : ¬ (1 ≤ c ∧ c ≤ 65536)) (W : World) : Calls Try.prog 29 #[.int .i64 c] W fun e w' => e = .returned (.bool false) ∧ W = w' := by
  have := validCap_any c W; rwa [show capB (c : Int) = false from decide_eq_false h] at this

set_option maxHeartbeats 2000000 in
set_option maxRecDepth 100000 in
theorem rval_no (c h l : Int) (n k : Nat) (A : Option Addr) (hs : shB c h l n = false) (w : World) :
    Calls Try.prog 15 #[.agg #[.int .i64 c, .int .i64 h, .int .i64 l, .slice A n k]] w fun e w' => e = .returned (.int .i64 2) ∧ Up w w' := by
  by_cases x0 : c < 1
  · have t0 : decide (c < 1) = true := decide_eq_true x0
    clear hs x0
    go_enter Try.func15, Try.ntmps15
    go_wp2_with (fail)
    go_ret
    refine ⟨rfl, ?_⟩
    repeat (first | exact Up.refl _ | refine Up.alloc ?_ _ _ | refine Up.setCell ?_ (by first | (simp; done) | (simp; omega) | omega) _ | refine Up.drewN ?_ _ | refine Up.drew ?_)
  have t0 : decide (c < 1) = false := decide_eq_false x0
  by_cases x1 : 65536 < c
  · have t1 : decide (65536 < c) = true := decide_eq_true x1
    clear hs x1
    go_enter Try.func15, Try.ntmps15
    go_wp2_with (fail)
    go_ret
    refine ⟨rfl, ?_⟩
    repeat (first | exact Up.refl _ | refine Up.alloc ?_ _ _ | refine Up.setCell ?_ (by first | (simp; done) | (simp; omega) | omega) _ | refine Up.drewN ?_ _ | refine Up.drew ?_)
  have t1 : decide (65536 < c) = false := decide_eq_false x1
  by_cases x2 : ¬ (n : Int) = c
  · have t2 : ((n : Int) != c) = true := by simpa using x2
    clear hs x2
    go_enter Try.func15, Try.ntmps15
    go_wp2_with (fail)
    go_ret
    refine ⟨rfl, ?_⟩
    repeat (first | exact Up.refl _ | refine Up.alloc ?_ _ _ | refine Up.setCell ?_ (by first | (simp; done) | (simp; omega) | omega) _ | refine Up.drewN ?_ _ | refine Up.drew ?_)
  have t2 : ((n : Int) != c) = false := by simpa using x2
  by_cases x3 : h < 0
  · have t3 : decide (h < 0) = true := decide_eq_true x3
    clear hs x3
    go_enter Try.func15, Try.ntmps15
    go_wp2_with (fail)
    go_ret
    refine ⟨rfl, ?_⟩
    repeat (first | exact Up.refl _ | refine Up.alloc ?_ _ _ | refine Up.setCell ?_ (by first | (simp; done) | (simp; omega) | omega) _ | refine Up.drewN ?_ _ | refine Up.drew ?_)
  have t3 : decide (h < 0) = false := decide_eq_false x3
  by_cases x4 : c ≤ h
  · have t4 : decide (c ≤ h) = true := decide_eq_true x4
    clear hs x4
    go_enter Try.func15, Try.ntmps15
    go_wp2_with (fail)
    go_ret
    refine ⟨rfl, ?_⟩
    repeat (first | exact Up.refl _ | refine Up.alloc ?_ _ _ | refine Up.setCell ?_ (by first | (simp; done) | (simp; omega) | omega) _ | refine Up.drewN ?_ _ | refine Up.drew ?_)
  have t4 : decide (c ≤ h) = false := decide_eq_false x4
  by_cases x5 : l < 0
  · have t5 : decide (l < 0) = true := decide_eq_true x5
    clear hs x5
    go_enter Try.func15, Try.ntmps15
    go_wp2_with (fail)
    go_ret
    refine ⟨rfl, ?_⟩
    repeat (first | exact Up.refl _ | refine Up.alloc ?_ _ _ | refine Up.setCell ?_ (by first | (simp; done) | (simp; omega) | omega) _ | refine Up.drewN ?_ _ | refine Up.drew ?_)
  have t5 : decide (l < 0) = false := decide_eq_false x5
  by_cases x6 : c < l
  · have t6 : decide (c < l) = true := decide_eq_true x6
    clear hs x6
    go_enter Try.func15, Try.ntmps15
    go_wp2_with (fail)
    go_ret
    refine ⟨rfl, ?_⟩
    repeat (first | exact Up.refl _ | refine Up.alloc ?_ _ _ | refine Up.setCell ?_ (by first | (simp; done) | (simp; omega) | omega) _ | refine Up.drewN ?_ _ | refine Up.drew ?_)
  have t6 : decide (c < l) = false := decide_eq_false x6
  exfalso; unfold shB at hs; exact (of_decide_eq_false hs) (by omega)

set_option maxHeartbeats 2000000 in
set_option maxRecDepth 100000 in
theorem val_no (c h l : Int) (n k : Nat) (A : Option Addr) (hs : shB c h l n = false) (w : World) :
    Calls Try.prog 13 #[.agg #[.int .i64 c, .int .i64 h, .int .i64 l, .slice A n k]] w fun e w' => e = .returned (.int .i64 2) ∧ Up w w' := by
  by_cases x0 : ¬ (1 ≤ c ∧ c ≤ 65536)
  · have t0 : Hid (∀ W, Calls Try.prog 29 #[.int .i64 c] W fun e w' => e = .returned (.bool false) ∧ W = w') := Lib.hid (validCap_f x0)
    clear hs x0
    go_enter Try.func13, Try.ntmps13
    go_wp2_with (go_at_call 29; refine (t0.out _).mono ?_; rintro e w' ⟨rfl, rfl⟩)
    go_ret
    refine ⟨rfl, ?_⟩
    repeat (first | exact Up.refl _ | refine Up.alloc ?_ _ _ | refine Up.setCell ?_ (by first | (simp; done) | (simp; omega) | omega) _ | refine Up.drewN ?_ _ | refine Up.drew ?_)
  have t0 : Hid (∀ W, Calls Try.prog 29 #[.int .i64 c] W fun e w' => e = .returned (.bool true) ∧ W = w') := Lib.hid (validCap_t x0)
  by_cases x1 : ¬ (n : Int) = c
  · have t1 : ((n : Int) != c) = true := by simpa using x1
    clear hs x1
    go_enter Try.func13, Try.ntmps13
    go_wp2_with (go_at_call 29; refine (t0.out _).mono ?_; rintro e w' ⟨rfl, rfl⟩)
    go_ret
    refine ⟨rfl, ?_⟩
    repeat (first | exact Up.refl _ | refine Up.alloc ?_ _ _ | refine Up.setCell ?_ (by first | (simp; done) | (simp; omega) | omega) _ | refine Up.drewN ?_ _ | refine Up.drew ?_)
  have t1 : ((n : Int) != c) = false := by simpa using x1
  by_cases x2 : h < 0
  · have t2 : decide (h < 0) = true := decide_eq_true x2
    clear hs x2
    go_enter Try.func13, Try.ntmps13
    go_wp2_with (go_at_call 29; refine (t0.out _).mono ?_; rintro e w' ⟨rfl, rfl⟩)
    go_ret
    refine ⟨rfl, ?_⟩
    repeat (first | exact Up.refl _ | refine Up.alloc ?_ _ _ | refine Up.setCell ?_ (by first | (simp; done) | (simp; omega) | omega) _ | refine Up.drewN ?_ _ | refine Up.drew ?_)
  have t2 : decide (h < 0) = false := decide_eq_false x2
  by_cases x3 : c ≤ h
  · have t3 : decide (c ≤ h) = true := decide_eq_true x3
    clear hs x3
    go_enter Try.func13, Try.ntmps13
    go_wp2_with (go_at_call 29; refine (t0.out _).mono ?_; rintro e w' ⟨rfl, rfl⟩)
    go_ret
    refine ⟨rfl, ?_⟩
    repeat (first | exact Up.refl _ | refine Up.alloc ?_ _ _ | refine Up.setCell ?_ (by first | (simp; done) | (simp; omega) | omega) _ | refine Up.drewN ?_ _ | refine Up.drew ?_)
  have t3 : decide (c ≤ h) = false := decide_eq_false x3
  by_cases x4 : l < 0
  · have t4 : decide (l < 0) = true := decide_eq_true x4
    clear hs x4
    go_enter Try.func13, Try.ntmps13
    go_wp2_with (go_at_call 29; refine (t0.out _).mono ?_; rintro e w' ⟨rfl, rfl⟩)
    go_ret
    refine ⟨rfl, ?_⟩
    repeat (first | exact Up.refl _ | refine Up.alloc ?_ _ _ | refine Up.setCell ?_ (by first | (simp; done) | (simp; omega) | omega) _ | refine Up.drewN ?_ _ | refine Up.drew ?_)
  have t4 : decide (l < 0) = false := decide_eq_false x4
  by_cases x5 : c < l
  · have t5 : decide (c < l) = true := decide_eq_true x5
    clear hs x5
    go_enter Try.func13, Try.ntmps13
    go_wp2_with (go_at_call 29; refine (t0.out _).mono ?_; rintro e w' ⟨rfl, rfl⟩)
    go_ret
    refine ⟨rfl, ?_⟩
    repeat (first | exact Up.refl _ | refine Up.alloc ?_ _ _ | refine Up.setCell ?_ (by first | (simp; done) | (simp; omega) | omega) _ | refine Up.drewN ?_ _ | refine Up.drew ?_)
  have t5 : decide (c < l) = false := decide_eq_false x5
  exfalso; unfold shB at hs; exact (of_decide_eq_false hs) (by omega)
end Go.Proofs.Ytjedcpfipebncaa
