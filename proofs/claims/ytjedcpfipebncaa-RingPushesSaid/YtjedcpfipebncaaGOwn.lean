/- What withOwnCells and New of package ring return. -/
import Derived.Test.YtjedcpfipebncaaGLaw
import Derived.Test.YtjedcpfipebncaaGVal
namespace Go.Proofs.Ytjedcpfipebncaa
open Go.RowKit

set_option maxHeartbeats 2000000 in
set_option maxRecDepth 100000 in
theorem own_any (c k : Nat) (h l : Int) (A : Option Addr) (L : List It) (hc' : c ≤ 65536) (w : World) (hS : Sl w A c L) :
    Calls Try.prog 33 #[.agg #[.int .i64 c, .int .i64 h, .int .i64 l, .slice A c k]] w fun e w' => ∃ g, e = .returned (.agg #[.int .i64 c, .int .i64 h, .int .i64 l, .slice (some ⟨g, 0, none⟩) c c]) ∧ w.heap.size ≤ g ∧ Bi w' g L ∧ Up w w' := by
  have mk := fun W => make_run c hc' W
  have HS := Lib.hid hS
  have hLc : L.length = c := hS.1
  clear hS
  obtain ⟨w2, hr, hcp, hb⟩ := copy_run 3 (w.heap.size + 1 + 1) 0 c c c k (some ⟨w.heap.size + 1 + 1, 0, none⟩) A (List.replicate c (0, 0)) L
    (((w.alloc (.cells #[.int .i64 c, .int .i64 h, .int .i64 l, .slice A c k] 24)).alloc (.cells #[.int .i64 0, .int .i64 0, .int .i64 0, .slice none 0 0] 24)).alloc (.cells (fl (List.replicate c (0, 0))).toArray 35))
    (by have := Blk.new ((w.alloc (.cells #[.int .i64 c, .int .i64 h, .int .i64 l, .slice A c k] 24)).alloc (.cells #[.int .i64 0, .int .i64 0, .int .i64 0, .slice none 0 0] 24)) 35 (fl (List.replicate c (0, 0))).toArray
        simpa [Bi] using this)
    (HS.out.up ((((Up.refl w).alloc _ _).alloc _ _).alloc _ _)) (by simp) (fun _ => rfl)
  have e1 : (List.replicate c ((0, 0) : It)).take 0 ++ (L.take (min c c) ++ (List.replicate c (0, 0)).drop (0 + min c c)) = L := by
    rw [Nat.min_self, List.take_zero, List.nil_append, Nat.zero_add, List.take_of_length_le (by omega), List.drop_of_length_le (by simp), List.append_nil]
  rw [e1] at hb
  rw [Nat.min_self] at hr
  have HU : Hid (Up w w2) := Lib.hid (hcp.up w ((((Up.refl w).alloc _ _).alloc _ _).alloc _ _) (by omega))
  have HB := Lib.hid hb
  have c0 := hcp.keep (b := w.heap.size) (o := 0) (v := .int .i64 c) (by omega) (by simp [go_sem])
  have c1 := hcp.keep (b := w.heap.size) (o := 1) (v := .int .i64 h) (by omega) (by simp [go_sem])
  have c2 := hcp.keep (b := w.heap.size) (o := 2) (v := .int .i64 l) (by omega) (by simp [go_sem])
  have c3 := hcp.keep (b := w.heap.size) (o := 3) (v := .slice A c k) (by omega) (by simp [go_sem])
  have z0 := hcp.keep (b := w.heap.size + 1) (o := 0) (v := .int .i64 0) (by omega) (by simp [go_sem])
  have z1 := hcp.keep (b := w.heap.size + 1) (o := 1) (v := .int .i64 0) (by omega) (by simp [go_sem])
  have z2 := hcp.keep (b := w.heap.size + 1) (o := 2) (v := .int .i64 0) (by omega) (by simp [go_sem])
  have z3 := hcp.keep (b := w.heap.size + 1) (o := 3) (v := .slice none 0 0) (by omega) (by simp [go_sem])
  have f3 := HU.out.ownGe (g := w.heap.size) (Nat.le_refl _) 3
  have g0 := HU.out.ownGe (g := w.heap.size + 1) (by omega) 0
  have g1 := HU.out.ownGe (g := w.heap.size + 1) (by omega) 1
  have g2 := HU.out.ownGe (g := w.heap.size + 1) (by omega) 2
  have g3 := HU.out.ownGe (g := w.heap.size + 1) (by omega) 3
  clear hcp hb e1 hLc
  go_enter Try.func33, Try.ntmps33
  go_wp2
  refine bodyPost_ret (v := .agg #[.int .i64 c, .int .i64 h, .int .i64 l, .slice (some ⟨w.heap.size + 1 + 1, 0, none⟩) c c]) (by simp [results, Try.results33, go_sem, z0, z1, z2, z3]) rfl ⟨w.heap.size + 1 + 1, rfl, by omega, ?_, ?_⟩
  · exact Blk.far (Blk.far (Blk.far (Blk.far (Blk.far HB.out (by show _ ≠ w.heap.size; omega) _) (by show _ ≠ w.heap.size + 1; omega) _) (by show _ ≠ w.heap.size + 1; omega) _) (by show _ ≠ w.heap.size + 1; omega) _) (by show _ ≠ w.heap.size + 1; omega) _
  · ((repeat (first | (with_reducible exact Up.refl _) | (with_reducible exact HU.out) | (with_reducible refine Up.alloc ?_ _ _) | (with_reducible refine Up.setCell ?_ ?_ _) | (with_reducible refine Up.drewN ?_ _) | (with_reducible refine Up.drew ?_))); all_goals (first | (simp; done) | (simp; omega) | omega))

theorem Bi.new' (w : World) (L : List It) (g : Nat) (hg : g = w.heap.size) : Bi (w.alloc (.cells (fl L).toArray 35)) g L := by rw [hg]; exact Blk.new w _ _
theorem Bi.new (w : World) (L : List It) : Bi (w.alloc (.cells (fl L).toArray 35)) w.heap.size L := Blk.new w _ _
set_option maxHeartbeats 2000000 in
set_option maxRecDepth 100000 in
theorem new_no (n : Int) (hn : ¬ (1 ≤ n ∧ n ≤ 65536)) (w : World) :
    Calls Try.prog 10 #[.int .i64 n] w fun e w' => e = .returned (.tuple #[.agg #[.int .i64 0, .int .i64 0, .int .i64 0, .slice none 0 0], .int .i64 1]) ∧ Up w w' := by
  have K1 := Lib.hid (validCap_f hn)
  clear hn
  go_enter Try.func10, Try.ntmps10
  go_wp2_with (go_at_call 29; refine (K1.out _).mono ?_; rintro e w' ⟨rfl, rfl⟩)
  refine bodyPost_ret (v := .tuple #[.agg #[.int .i64 0, .int .i64 0, .int .i64 0, .slice none 0 0], .int .i64 1]) (by simp [results, Try.results10, go_sem]) rfl ⟨?_, ?_⟩
  · rfl
  · repeat (first | exact Up.refl _ | refine Up.alloc ?_ _ _ | refine Up.setCell ?_ (by first | (simp; done) | (simp; omega) | omega) _ | refine Up.drewN ?_ _ | refine Up.drew ?_)
set_option maxHeartbeats 2000000 in
set_option maxRecDepth 100000 in
theorem new_yes (c : Nat) (hc : 1 ≤ c) (hc' : c ≤ 65536) (w : World) :
    Calls Try.prog 10 #[.int .i64 c] w fun e w' => ∃ g, e = .returned (.tuple #[.agg #[.int .i64 c, .int .i64 0, .int .i64 0, .slice (some ⟨g, 0, none⟩) c c], .int .i64 0]) ∧ w.heap.size ≤ g ∧ Bi w' g (ofL c 0 []) ∧ Up w w' := by
  have K1 := Lib.hid (validCap_t (c := c) (Classical.not_not.2 ⟨by omega, by omega⟩))
  have mk := fun W => make_run c hc' W
  go_enter Try.func10, Try.ntmps10
  go_wp2_with (go_at_call 29; refine (K1.out _).mono ?_; rintro e w' ⟨rfl, rfl⟩)
  refine bodyPost_ret (v := .tuple #[.agg #[.int .i64 c, .int .i64 0, .int .i64 0, .slice (some ⟨w.heap.size + 1, 0, none⟩) c c], .int .i64 0]) (by simp [results, Try.results10, go_sem]) rfl ⟨w.heap.size + 1, rfl, by omega, ?_, ?_⟩
  · rw [of_nil]
    exact Bi.new' _ _ _ (by simp)
  · repeat (first | exact Up.refl _ | refine Up.alloc ?_ _ _ | refine Up.setCell ?_ (by first | (simp; done) | (simp; omega) | omega) _ | refine Up.drewN ?_ _ | refine Up.drew ?_)
end Go.Proofs.Ytjedcpfipebncaa
