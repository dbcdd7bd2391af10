/- What At of package ring returns. -/
import Derived.Test.YtjedcpfipebncaaGAt
namespace Go.Proofs.Ytjedcpfipebncaa
open Go.RowKit

set_option maxHeartbeats 4000000 in
set_option maxRecDepth 100000 in
theorem at_bad (c h l : Int) (n k : Nat) (A : Option Addr) (L : List It) (m : Int) (hv : vB c h l L = false) (w : World) (hS : Sl w A n L) :
    Calls Try.prog 17 #[.agg #[.int .i64 c, .int .i64 h, .int .i64 l, .slice A n k]  , .int .i64 m] w fun e w' => e = .returned (.tuple #[.agg #[.int .i64 0, .int .i64 0], .int .i64 2]) ∧ Up w w' := by
  have K1 := Lib.hid (val_bad c h l n k A L hv ((w.alloc (.cells #[.int .i64 c, .int .i64 h, .int .i64 l, .slice A n k] 24)).alloc (.cells #[.int .i64 0, .int .i64 0] 35)) (hS.up (((Up.refl w).alloc _ _).alloc _ _)))
  clear hS hv
  go_enter Try.func17, Try.ntmps17
  go_wp2_with (go_at_call 13; refine K1.out.mono ?_; rintro e w1 ⟨rfl, hu⟩; have HU := Lib.hid ((((Up.refl w).alloc _ _).alloc _ _).trans hu); have c00 := hu.keep (w.heap.size) 0 (.int .i64 c) (by simp [go_sem]); have c01 := hu.keep (w.heap.size) 1 (.int .i64 h) (by simp [go_sem]); have c02 := hu.keep (w.heap.size) 2 (.int .i64 l) (by simp [go_sem]); have c03 := hu.keep (w.heap.size) 3 (.slice A n k) (by simp [go_sem]); have c10 := hu.keep (w.heap.size + 1) 0 (.int .i64 0) (by simp [go_sem]); have c11 := hu.keep (w.heap.size + 1) 1 (.int .i64 0) (by simp [go_sem]); have z10 := HU.out.ownGe (g := w.heap.size + 1) (by omega) 0; have z11 := HU.out.ownGe (g := w.heap.size + 1) (by omega) 1; clear hu)
  refine bodyPost_ret (v := .tuple #[.agg #[.int .i64 0, .int .i64 0], .int .i64 2]) (by simp [results, Try.results17, go_sem, c10, c11]) rfl ⟨rfl, ?_⟩
  exact ((HU.out.setCell (by show w.heap.size ≤ w.heap.size + 1; omega) _).setCell (by show w.heap.size ≤ w.heap.size + 1; omega) _)

set_option maxHeartbeats 4000000 in
set_option maxRecDepth 100000 in
theorem at_neg (c h k : Nat) (A : Option Addr) (M : List It) (n : Int) (hc : 1 ≤ c) (hc' : c ≤ 65536) (hh : h < c) (hM : M.length ≤ c) (ht : n < 0) (w : World) (hS : Sl w A c (ofL c h M)) :
    Calls Try.prog 17 #[.agg #[.int .i64 c, .int .i64 h, .int .i64 M.length, .slice A c k], .int .i64 n] w fun e w' => e = .returned (.tuple #[.agg #[.int .i64 0, .int .i64 0], .int .i64 1]) ∧ Up w w' := by
  have K1 := Lib.hid (val_good c h k A M hc hc' hh hM ((w.alloc (.cells #[.int .i64 c, .int .i64 h, .int .i64 M.length, .slice A c k] 24)).alloc (.cells #[.int .i64 0, .int .i64 0] 35)) (hS.up (((Up.refl w).alloc _ _).alloc _ _)))
  clear hS
  generalize M.length = l at *
  have t1 : decide (n < 0) = true := decide_eq_true ht
  clear ht
  go_enter Try.func17, Try.ntmps17
  go_wp2_with (go_at_call 13; refine K1.out.mono ?_; rintro e w1 ⟨rfl, hu⟩; have HU := Lib.hid ((((Up.refl w).alloc _ _).alloc _ _).trans hu); have c00 := hu.keep (w.heap.size) 0 (.int .i64 c) (by simp [go_sem]); have c01 := hu.keep (w.heap.size) 1 (.int .i64 h) (by simp [go_sem]); have c02 := hu.keep (w.heap.size) 2 (.int .i64 l) (by simp [go_sem]); have c03 := hu.keep (w.heap.size) 3 (.slice A c k) (by simp [go_sem]); have c10 := hu.keep (w.heap.size + 1) 0 (.int .i64 0) (by simp [go_sem]); have c11 := hu.keep (w.heap.size + 1) 1 (.int .i64 0) (by simp [go_sem]); have z10 := HU.out.ownGe (g := w.heap.size + 1) (by omega) 0; have z11 := HU.out.ownGe (g := w.heap.size + 1) (by omega) 1; clear hu)
  refine bodyPost_ret (v := .tuple #[.agg #[.int .i64 0, .int .i64 0], .int .i64 1]) (by simp [results, Try.results17, go_sem, c10, c11]) rfl ⟨rfl, ?_⟩
  exact ((HU.out.setCell (by show w.heap.size ≤ w.heap.size + 1; omega) _).setCell (by show w.heap.size ≤ w.heap.size + 1; omega) _)

set_option maxHeartbeats 4000000 in
set_option maxRecDepth 100000 in
theorem at_big (c h k : Nat) (A : Option Addr) (M : List It) (n : Int) (hc : 1 ≤ c) (hc' : c ≤ 65536) (hh : h < c) (hM : M.length ≤ c) (ht : M.length ≤ n) (w : World) (hS : Sl w A c (ofL c h M)) :
    Calls Try.prog 17 #[.agg #[.int .i64 c, .int .i64 h, .int .i64 M.length, .slice A c k], .int .i64 n] w fun e w' => e = .returned (.tuple #[.agg #[.int .i64 0, .int .i64 0], .int .i64 1]) ∧ Up w w' := by
  have K1 := Lib.hid (val_good c h k A M hc hc' hh hM ((w.alloc (.cells #[.int .i64 c, .int .i64 h, .int .i64 M.length, .slice A c k] 24)).alloc (.cells #[.int .i64 0, .int .i64 0] 35)) (hS.up (((Up.refl w).alloc _ _).alloc _ _)))
  clear hS
  generalize M.length = l at *
  have t1 : decide (n < 0) = false := decide_eq_false (by omega)
  have t2 : decide ((l : Int) ≤ n) = true := decide_eq_true ht
  clear ht
  go_enter Try.func17, Try.ntmps17
  go_wp2_with (go_at_call 13; refine K1.out.mono ?_; rintro e w1 ⟨rfl, hu⟩; have HU := Lib.hid ((((Up.refl w).alloc _ _).alloc _ _).trans hu); have c00 := hu.keep (w.heap.size) 0 (.int .i64 c) (by simp [go_sem]); have c01 := hu.keep (w.heap.size) 1 (.int .i64 h) (by simp [go_sem]); have c02 := hu.keep (w.heap.size) 2 (.int .i64 l) (by simp [go_sem]); have c03 := hu.keep (w.heap.size) 3 (.slice A c k) (by simp [go_sem]); have c10 := hu.keep (w.heap.size + 1) 0 (.int .i64 0) (by simp [go_sem]); have c11 := hu.keep (w.heap.size + 1) 1 (.int .i64 0) (by simp [go_sem]); have z10 := HU.out.ownGe (g := w.heap.size + 1) (by omega) 0; have z11 := HU.out.ownGe (g := w.heap.size + 1) (by omega) 1; clear hu)
  refine bodyPost_ret (v := .tuple #[.agg #[.int .i64 0, .int .i64 0], .int .i64 1]) (by simp [results, Try.results17, go_sem, c10, c11]) rfl ⟨rfl, ?_⟩
  exact ((HU.out.setCell (by show w.heap.size ≤ w.heap.size + 1; omega) _).setCell (by show w.heap.size ≤ w.heap.size + 1; omega) _)

set_option maxHeartbeats 4000000 in
set_option maxRecDepth 100000 in
theorem at_good (c h k i : Nat) (A : Option Addr) (M : List It) (hc : 1 ≤ c) (hc' : c ≤ 65536) (hh : h < c) (hM : M.length ≤ c) (ht : i < M.length) (w : World) (hS : Sl w A c (ofL c h M)) :
    Calls Try.prog 17 #[.agg #[.int .i64 c, .int .i64 h, .int .i64 M.length, .slice A c k], .int .i64 i] w fun e w' => e = .returned (.tuple #[.agg #[.int .i64 (M.getD i (0, 0)).1, .int .i64 (M.getD i (0, 0)).2], .int .i64 0]) ∧ Up w w' := by
  have K1 := Lib.hid (val_good c h k A M hc hc' hh hM ((w.alloc (.cells #[.int .i64 c, .int .i64 h, .int .i64 M.length, .slice A c k] 24)).alloc (.cells #[.int .i64 0, .int .i64 0] 35)) (hS.up (((Up.refl w).alloc _ _).alloc _ _)))
  have hm : (h + i) % c < c := Nat.mod_lt _ (by omega)
  obtain ⟨b, o, rfl, d0, d1⟩ := hS.at_ hm
  rw [ofL_place c h M i hh (by omega)] at d0 d1
  have hb : b < w.heap.size := World.block_lt_of_cell? _ _ d0
  have K2 := Lib.hid (fun W => place_any c h M.length i (.slice (some ⟨b, o, none⟩) c k) (by omega) (by omega) (by omega) (by omega) (by omega) (by omega) W)
  obtain ⟨m, hmm⟩ : ∃ m, m = (h + i) % c := ⟨_, rfl⟩
  rw [show ((h : Int) + i) % c = (m : Int) by rw [hmm]; rfl] at K2
  rw [← hmm] at hm d0 d1
  clear hmm hS
  generalize M.length = l at *
  generalize (M.getD i (0, 0)).1 = q0 at *
  generalize (M.getD i (0, 0)).2 = q1 at *
  have f2 : (m : Int) < c := by omega
  have f3 : (0 : Int) ≤ m := by omega
  have t1 : decide ((i : Int) < 0) = false := decide_eq_false (by omega)
  have t2 : decide (l ≤ i) = false := decide_eq_false (by omega)
  have HD0 := Lib.hid d0
  have HD1 := Lib.hid d1
  clear d0 d1
  go_enter Try.func17, Try.ntmps17
  go_wp2_with (go_at_call 13; refine K1.out.mono ?_; rintro e w1 ⟨rfl, hu⟩; have HU1 := Lib.hid ((((Up.refl w).alloc _ _).alloc _ _).trans hu); have c00 := hu.keep (w.heap.size) 0 (.int .i64 c) (by simp [go_sem]); have c01 := hu.keep (w.heap.size) 1 (.int .i64 h) (by simp [go_sem]); have c02 := hu.keep (w.heap.size) 2 (.int .i64 l) (by simp [go_sem]); have c03 := hu.keep (w.heap.size) 3 (.slice (some ⟨b, o, none⟩) c k) (by simp [go_sem]); have c10 := hu.keep (w.heap.size + 1) 0 (.int .i64 0) (by simp [go_sem]); have c11 := hu.keep (w.heap.size + 1) 1 (.int .i64 0) (by simp [go_sem]); have hls := hu.size; (try simp at hls); clear hu)
  have d0 := HU1.out.keep _ _ _ HD0.out
  have d1 := HU1.out.keep _ _ _ HD1.out
  have SS : Hid (Up w w1 ∧ w1.cell? ⟨w.heap.size, 0, none⟩ = some (.int .i64 c) ∧ w1.cell? ⟨w.heap.size, 1, none⟩ = some (.int .i64 h) ∧ w1.cell? ⟨w.heap.size, 2, none⟩ = some (.int .i64 l) ∧ w1.cell? ⟨w.heap.size, 3, none⟩ = some (.slice (some ⟨b, o, none⟩) c k) ∧ w1.cell? ⟨b, o + m * 2, none⟩ = some (.int .i64 q0) ∧ w1.cell? ⟨b, o + m * 2 + 1, none⟩ = some (.int .i64 q1)) := Lib.hid ⟨HU1.out, c00, c01, c02, c03, d0, d1⟩
  go_region_held3 (fun w' => Up w w' ∧ w'.cell? ⟨w.heap.size, 0, none⟩ = some (.int .i64 c) ∧ w'.cell? ⟨w.heap.size, 1, none⟩ = some (.int .i64 h) ∧ w'.cell? ⟨w.heap.size, 2, none⟩ = some (.int .i64 l) ∧ w'.cell? ⟨w.heap.size, 3, none⟩ = some (.slice (some ⟨b, o, none⟩) c k) ∧ w'.cell? ⟨b, o + m * 2, none⟩ = some (.int .i64 q0) ∧ w'.cell? ⟨b, o + m * 2 + 1, none⟩ = some (.int .i64 q1))
    (repeat (first | (with_reducible refine set6 ?_ (by omega) (by omega) (by omega) (by omega) (by omega) (by omega) (by omega)) | (with_reducible exact SS.out) | (with_reducible exact keep6 (by assumption) (by assumption)) | (with_reducible exact Hid.out (by assumption)) | (with_reducible refine keep6 (Lib.hid (Up.refl _).drew) ?_)))
    (first
      | (go_at_call 30; (with_reducible refine (K2.out _).mono ?_); rintro e w2 ⟨rfl, hu⟩; have HU2 := Lib.hid hu; have HS2 := Lib.hid (keep6 HU2 (by assumption)); have z10 := hu.keep (w.heap.size + 1) 0 (.int .i64 0) c10; have z11 := hu.keep (w.heap.size + 1) 1 (.int .i64 0) c11; have y10 := HS2.out.1.ownGe (g := w.heap.size + 1) (by omega) 0; have y11 := HS2.out.1.ownGe (g := w.heap.size + 1) (by omega) 1; clear hu))
  clear ‹Up w _ ∧ _›
  clear c00 c01 c02 c03 c10 c11 d0 d1
  go_wp2_with fail
  refine bodyPost_ret (v := .tuple #[.agg #[.int .i64 q0, .int .i64 q1], .int .i64 0]) (by simp [results, Try.results17, go_sem, z10, z11]) rfl ⟨rfl, ?_⟩
  exact (HS2.out.1.setCell (by show w.heap.size ≤ w.heap.size + 1; omega) _).setCell (by show w.heap.size ≤ w.heap.size + 1; omega) _
end Go.Proofs.Ytjedcpfipebncaa
