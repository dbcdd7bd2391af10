/- What Of and Items of the reference return. -/
import Derived.Test.YtjedcpfipebncaaGOwn
namespace Go.Proofs.Ytjedcpfipebncaa
open Go.RowKit

/-- Where Of is: its result, its buffer, and the cells. -/
structure OfW (w wr : World) (c h l : Nat) (L : List It) : Prop where
  up : Up w wr
  z0 : wr.cell? ⟨w.heap.size, 0, none⟩ = some (.int .i64 0)
  z1 : wr.cell? ⟨w.heap.size, 1, none⟩ = some (.int .i64 0)
  z2 : wr.cell? ⟨w.heap.size, 2, none⟩ = some (.int .i64 0)
  z3 : wr.cell? ⟨w.heap.size, 3, none⟩ = some (.slice none 0 0)
  r0 : wr.cell? ⟨w.heap.size + 1 + 1, 0, none⟩ = some (.int .i64 c)
  r1 : wr.cell? ⟨w.heap.size + 1 + 1, 1, none⟩ = some (.int .i64 h)
  r2 : wr.cell? ⟨w.heap.size + 1 + 1, 2, none⟩ = some (.int .i64 l)
  r3 : wr.cell? ⟨w.heap.size + 1 + 1, 3, none⟩ = some (.slice (some ⟨w.heap.size + 1, 0, none⟩) c c)
  bi : Bi wr (w.heap.size + 1) L

theorem OfW.drew {w wr : World} {c h l : Nat} {L : List It} (H : OfW w wr c h l L) : OfW w wr.drew c h l L :=
  ⟨H.up.drew, H.z0, H.z1, H.z2, H.z3, H.r0, H.r1, H.r2, H.r3, H.bi⟩
theorem OfW.next {w wr wz : World} {c h l : Nat} {L : List It} (H : OfW w wr c h l L) (hu : Up wr wz) (m : Nat) (a b : Int) :
    OfW w ((wz.setCell ⟨w.heap.size + 1, m * 2, none⟩ (.int .i64 a)).setCell ⟨w.heap.size + 1, m * 2 + 1, none⟩ (.int .i64 b)) c h l (L.set m (a, b)) := by
  have far : ∀ g o v, g ≠ w.heap.size + 1 → wr.cell? ⟨g, o, none⟩ = some v → ((wz.setCell ⟨w.heap.size + 1, m * 2, none⟩ (.int .i64 a)).setCell ⟨w.heap.size + 1, m * 2 + 1, none⟩ (.int .i64 b)).cell? ⟨g, o, none⟩ = some v := fun g o v hg hv => by
    rw [cell_far (by show w.heap.size + 1 ≠ g; omega), cell_far (by show w.heap.size + 1 ≠ g; omega)]
    exact hu.keep _ _ _ hv
  exact ⟨((H.up.trans hu).setCell (by show w.heap.size ≤ w.heap.size + 1; omega) _).setCell (by show w.heap.size ≤ w.heap.size + 1; omega) _,
    far _ _ _ (by omega) H.z0, far _ _ _ (by omega) H.z1, far _ _ _ (by omega) H.z2, far _ _ _ (by omega) H.z3,
    far _ _ _ (by omega) H.r0, far _ _ _ (by omega) H.r1, far _ _ _ (by omega) H.r2, far _ _ _ (by omega) H.r3, (H.bi.up hu).set_ m a b⟩

set_option maxHeartbeats 2000000 in
set_option maxRecDepth 100000 in
theorem of_any (c h k : Nat) (A : Option Addr) (M : List It) (hc : 1 ≤ c) (hc' : c ≤ 65536) (hh : h < c) (hM : M.length ≤ c) (w : World) (hS : Sl w A M.length M) :
    Calls Try.prog 22 #[.int .i64 c, .int .i64 h, .slice A M.length k] w fun e w' => ∃ g, e = .returned (.agg #[.int .i64 c, .int .i64 h, .int .i64 M.length, .slice (some ⟨g, 0, none⟩) c c]) ∧ w.heap.size ≤ g ∧ Bi w' g (ofL c h M) ∧ Up w w' := by
  have mk := fun W => make_run c hc' W
  have HS := Lib.hid hS
  clear hS
  obtain ⟨l, hl⟩ : ∃ l, l = M.length := ⟨_, rfl⟩
  have HL := Lib.hid hl
  rw [← hl] at hM ⊢
  clear hl
  go_enter Try.func22, Try.ntmps22
  go_wp2
  go_loopw [19] (fun t wr => ∃ i : Nat, t = .int .i64 i ∧ i ≤ l ∧ Hid (OfW w wr c h l (ofL c h (M.take i)))) (fun t _ => l - (intOf t).toNat)
  case atStart =>
    refine ⟨0, rfl, Nat.zero_le _, Lib.hid ⟨?_, by simp [go_sem], by simp [go_sem], by simp [go_sem], by simp [go_sem], by simp [go_sem], by simp [go_sem], by simp [go_sem], by simp [go_sem], ?_⟩⟩
    · repeat (first | exact Up.refl _ | refine Up.alloc ?_ _ _ | refine Up.setCell ?_ (by first | (simp; done) | (simp; omega) | omega) _ | refine Up.drewN ?_ _ | refine Up.drew ?_)
    · rw [List.take_zero, of_nil]
      exact Blk.alloc (Bi.new' _ _ _ (by simp)) _
  case round =>
    obtain ⟨i, rfl, i2, HW⟩ := hrel
    by_cases hlt : i < l
    · have hm : (h + i) % c < c := Nat.mod_lt _ (by omega)
      obtain ⟨b, o, rfl, d0, d1⟩ := (HS.out.up HW.out.up).at_ (show i < M.length by rw [← HL.out]; exact hlt)
      obtain ⟨m, hmm⟩ : ∃ m, m = (h + i) % c := ⟨_, rfl⟩
      have HM := Lib.hid hmm
      rw [← hmm] at hm
      clear hmm
      have e1 : IntKind.i64.wrap ((h : Int) + i) = (h : Int) + i := IntWalk.i64_in _ (by omega) 
      have e2 : ((h : Int) + i).tmod c = (m : Int) := by rw [Int.tmod_eq_emod_of_nonneg (by clear e1; omega), HM.out]; rfl
      have e3 : IntKind.i64.wrap (m : Int) = m := IntWalk.i64_in _ (by clear e1 e2; omega)
      have f1 : ¬ c = 0 := by clear e1 e2; omega
      have f2 : (m : Int) < c := by clear e1 e2; omega
      have f3 : (0 : Int) ≤ m := by clear e1 e2; omega
      have f4 : (i : Int) < l := by clear e1 e2; omega
      have f5 : (0 : Int) ≤ i := by clear e1 e2; omega
      obtain ⟨p0, hp0⟩ : ∃ p, p = (M.getD i (0, 0)).1 := ⟨_, rfl⟩
      obtain ⟨p1, hp1⟩ : ∃ p, p = (M.getD i (0, 0)).2 := ⟨_, rfl⟩
      rw [← hp0] at d0
      rw [← hp1] at d1
      have HP := Lib.hid (show M.getD i (0, 0) = (p0, p1) by rw [hp0, hp1])
      clear hp0 hp1
      have q3 := HW.out.r3
      obtain ⟨s0, s1⟩ := Bi.at_ HW.out.bi (k := m) (by rw [ofL_length]; exact hm)
      have hlt1 : w.heap.size + 1 + 1 < wr.heap.size := World.block_lt_of_cell? _ _ q3
      have g0 := HW.out.up.ownGe (g := w.heap.size + 1) (by omega) (m * 2)
      have g1 := HW.out.up.ownGe (g := w.heap.size + 1) (by omega) (m * 2 + 1)
      go_wp2
      obtain ⟨wz, hwz⟩ : ∃ wz, wz = wr.alloc (.cells #[.int .i64 p0, .int .i64 p1] 35) := ⟨_, rfl⟩
      rw [← hwz]
      have HU : Hid (Up wr wz) := Lib.hid (by rw [hwz]; exact (Up.refl _).alloc _ _)
      have x0 : wz.cell? ⟨wr.heap.size, 0, none⟩ = some (.int .i64 p0) := by rw [hwz]; simp [go_sem]
      have x1 : wz.cell? ⟨wr.heap.size, 1, none⟩ = some (.int .i64 p1) := by rw [hwz]; simp [go_sem]
      have q3' := HU.out.keep _ _ _ q3
      have s0' := HU.out.keep _ _ _ s0
      have s1' := HU.out.keep _ _ _ s1
      have g0' : wz.drew.frozen? ⟨w.heap.size + 1, m * 2, none⟩ = false := (HU.out.cells.2 _).trans g0
      have g1' : wz.drew.frozen? ⟨w.heap.size + 1, m * 2 + 1, none⟩ = false := (HU.out.cells.2 _).trans g1
      have g0'' : wz.frozen? ⟨w.heap.size + 1, m * 2, none⟩ = false := (HU.out.cells.2 _).trans g0
      have g1'' : wz.frozen? ⟨w.heap.size + 1, m * 2 + 1, none⟩ = false := (HU.out.cells.2 _).trans g1
      have HN := Lib.hid (HW.out.next HU.out m p0 p1)
      have hst := of_step c h M i hh (by rw [← HL.out]; exact hlt) (by rw [← HL.out]; exact hM)
      rw [HP.out, ← HM.out] at hst
      rw [hst] at HN
      clear hwz q3 s0 s1 g0 g1 hst
      go_region
      go_wp2
      go_roundw
      case rel => exact ⟨i + 1, by go_num, by omega, Lib.hid HN.out.drew⟩
      case measure => simp [intOf]; omega
    · have z0 := HW.out.z0
      have z1 := HW.out.z1
      have z2 := HW.out.z2
      have z3 := HW.out.z3
      have r0 := HW.out.r0
      have r1 := HW.out.r1
      have r2 := HW.out.r2
      have r3 := HW.out.r3
      have g0 := HW.out.up.ownGe (g := w.heap.size) (Nat.le_refl _) 0
      have g1 := HW.out.up.ownGe (g := w.heap.size) (Nat.le_refl _) 1
      have g2 := HW.out.up.ownGe (g := w.heap.size) (Nat.le_refl _) 2
      have g3 := HW.out.up.ownGe (g := w.heap.size) (Nat.le_refl _) 3
      go_wp2
      refine bodyPost_ret (v := .agg #[.int .i64 c, .int .i64 h, .int .i64 l, .slice (some ⟨w.heap.size + 1, 0, none⟩) c c]) (by simp [results, Try.results22, go_sem, z0, z1, z2, z3]) rfl ⟨w.heap.size + 1, rfl, by omega, ?_, ?_⟩
      · have HB := Lib.hid HW.out.bi
        rw [show i = M.length by rw [← HL.out]; omega, List.take_length] at HB
        (unfold Bi; (repeat (first | (with_reducible exact Bi.blk (HB.out)) | (with_reducible refine Blk.far ?_ ?_ _) | (with_reducible refine Blk.alloc ?_ _) | (with_reducible refine Blk.drewN ?_ _) | (with_reducible refine Blk.drew ?_))); all_goals (first | (simp; done) | (simp; omega) | omega))
      · have HU := Lib.hid HW.out.up
        ((repeat (first | (with_reducible exact Up.refl _) | (with_reducible exact HU.out) | (with_reducible refine Up.alloc ?_ _ _) | (with_reducible refine Up.setCell ?_ ?_ _) | (with_reducible refine Up.drewN ?_ _) | (with_reducible refine Up.drew ?_))); all_goals (first | (simp; done) | (simp; omega) | omega))
end Go.Proofs.Ytjedcpfipebncaa
