/- What Grow of package ring returns. -/
import Derived.Test.YtjedcpfipebncaaGAt
namespace Go.Proofs.Ytjedcpfipebncaa
open Go.RowKit

set_option maxHeartbeats 4000000 in
set_option maxRecDepth 100000 in
theorem grow_bad (c h l : Int) (n k : Nat) (A : Option Addr) (L : List It) (m : Int) (hv : vB c h l L = false) (w : World) (hS : Sl w A n L) :
    Calls Try.prog 26 #[.agg #[.int .i64 c, .int .i64 h, .int .i64 l, .slice A n k]  , .int .i64 m] w fun e w' => e = .returned (.tuple #[.agg #[.int .i64 0, .int .i64 0, .int .i64 0, .slice none 0 0], .int .i64 2]) ∧ Up w w' := by
  have K1 := Lib.hid (val_bad c h l n k A L hv ((w.alloc (.cells #[.int .i64 c, .int .i64 h, .int .i64 l, .slice A n k] 24)).alloc (.cells #[.int .i64 0, .int .i64 0, .int .i64 0, .slice none 0 0] 24)) (hS.up (((Up.refl w).alloc _ _).alloc _ _)))
  clear hS hv
  go_enter Try.func26, Try.ntmps26
  go_wp2_with (go_at_call 13; refine K1.out.mono ?_; rintro e w1 ⟨rfl, hu⟩; have HU := Lib.hid ((((Up.refl w).alloc _ _).alloc _ _).trans hu); have c00 := hu.keep (w.heap.size) 0 (.int .i64 c) (by simp [go_sem]); have c01 := hu.keep (w.heap.size) 1 (.int .i64 h) (by simp [go_sem]); have c02 := hu.keep (w.heap.size) 2 (.int .i64 l) (by simp [go_sem]); have c03 := hu.keep (w.heap.size) 3 (.slice A n k) (by simp [go_sem]); have c10 := hu.keep (w.heap.size + 1) 0 (.int .i64 0) (by simp [go_sem]); have c11 := hu.keep (w.heap.size + 1) 1 (.int .i64 0) (by simp [go_sem]); have c12 := hu.keep (w.heap.size + 1) 2 (.int .i64 0) (by simp [go_sem]); have c13 := hu.keep (w.heap.size + 1) 3 (.slice none 0 0) (by simp [go_sem]); have z10 := HU.out.ownGe (g := w.heap.size + 1) (by omega) 0; have z11 := HU.out.ownGe (g := w.heap.size + 1) (by omega) 1; have z12 := HU.out.ownGe (g := w.heap.size + 1) (by omega) 2; have z13 := HU.out.ownGe (g := w.heap.size + 1) (by omega) 3; clear hu)
  refine bodyPost_ret (v := .tuple #[.agg #[.int .i64 0, .int .i64 0, .int .i64 0, .slice none 0 0], .int .i64 2]) (by simp [results, Try.results26, go_sem, c10, c11, c12, c13]) rfl ⟨rfl, ?_⟩
  exact (HU.out.set4 (by omega))

set_option maxHeartbeats 4000000 in
set_option maxRecDepth 100000 in
theorem grow_less (c h k : Nat) (A : Option Addr) (M : List It) (n : Int) (hc : 1 ≤ c) (hc' : c ≤ 65536) (hh : h < c) (hM : M.length ≤ c) (ht : n < M.length) (w : World) (hS : Sl w A c (ofL c h M)) :
    Calls Try.prog 26 #[.agg #[.int .i64 c, .int .i64 h, .int .i64 M.length, .slice A c k], .int .i64 n] w fun e w' => e = .returned (.tuple #[.agg #[.int .i64 0, .int .i64 0, .int .i64 0, .slice none 0 0], .int .i64 1]) ∧ Up w w' := by
  have K1 := Lib.hid (val_good c h k A M hc hc' hh hM ((w.alloc (.cells #[.int .i64 c, .int .i64 h, .int .i64 M.length, .slice A c k] 24)).alloc (.cells #[.int .i64 0, .int .i64 0, .int .i64 0, .slice none 0 0] 24)) (hS.up (((Up.refl w).alloc _ _).alloc _ _)))
  clear hS
  generalize M.length = l at *
  have t1 : decide (n < (l : Int)) = true := decide_eq_true ht
  clear ht
  go_enter Try.func26, Try.ntmps26
  go_wp2_with (go_at_call 13; refine K1.out.mono ?_; rintro e w1 ⟨rfl, hu⟩; have HU := Lib.hid ((((Up.refl w).alloc _ _).alloc _ _).trans hu); have c00 := hu.keep (w.heap.size) 0 (.int .i64 c) (by simp [go_sem]); have c01 := hu.keep (w.heap.size) 1 (.int .i64 h) (by simp [go_sem]); have c02 := hu.keep (w.heap.size) 2 (.int .i64 l) (by simp [go_sem]); have c03 := hu.keep (w.heap.size) 3 (.slice A c k) (by simp [go_sem]); have c10 := hu.keep (w.heap.size + 1) 0 (.int .i64 0) (by simp [go_sem]); have c11 := hu.keep (w.heap.size + 1) 1 (.int .i64 0) (by simp [go_sem]); have c12 := hu.keep (w.heap.size + 1) 2 (.int .i64 0) (by simp [go_sem]); have c13 := hu.keep (w.heap.size + 1) 3 (.slice none 0 0) (by simp [go_sem]); have z10 := HU.out.ownGe (g := w.heap.size + 1) (by omega) 0; have z11 := HU.out.ownGe (g := w.heap.size + 1) (by omega) 1; have z12 := HU.out.ownGe (g := w.heap.size + 1) (by omega) 2; have z13 := HU.out.ownGe (g := w.heap.size + 1) (by omega) 3; clear hu)
  refine bodyPost_ret (v := .tuple #[.agg #[.int .i64 0, .int .i64 0, .int .i64 0, .slice none 0 0], .int .i64 1]) (by simp [results, Try.results26, go_sem, c10, c11, c12, c13]) rfl ⟨rfl, ?_⟩
  exact (HU.out.set4 (by omega))

set_option maxHeartbeats 4000000 in
set_option maxRecDepth 100000 in
theorem grow_cap (c h k : Nat) (A : Option Addr) (M : List It) (n : Int) (hc : 1 ≤ c) (hc' : c ≤ 65536) (hh : h < c) (hM : M.length ≤ c) (ht : ¬ n < M.length) (ht2 : ¬ (1 ≤ n ∧ n ≤ 65536)) (w : World) (hS : Sl w A c (ofL c h M)) :
    Calls Try.prog 26 #[.agg #[.int .i64 c, .int .i64 h, .int .i64 M.length, .slice A c k], .int .i64 n] w fun e w' => e = .returned (.tuple #[.agg #[.int .i64 0, .int .i64 0, .int .i64 0, .slice none 0 0], .int .i64 1]) ∧ Up w w' := by
  have K1 := Lib.hid (val_good c h k A M hc hc' hh hM ((w.alloc (.cells #[.int .i64 c, .int .i64 h, .int .i64 M.length, .slice A c k] 24)).alloc (.cells #[.int .i64 0, .int .i64 0, .int .i64 0, .slice none 0 0] 24)) (hS.up (((Up.refl w).alloc _ _).alloc _ _)))
  clear hS
  generalize M.length = l at *
  have t1 : decide (n < (l : Int)) = false := decide_eq_false ht
  have KV := Lib.hid (validCap_f ht2)
  clear ht ht2
  go_enter Try.func26, Try.ntmps26
  go_wp2_with (first
    | (go_at_call 29; refine (KV.out _).mono ?_; rintro e w' ⟨rfl, rfl⟩)
    | (go_at_call 13; refine K1.out.mono ?_; rintro e w1 ⟨rfl, hu⟩; have HU := Lib.hid ((((Up.refl w).alloc _ _).alloc _ _).trans hu); have c00 := hu.keep (w.heap.size) 0 (.int .i64 c) (by simp [go_sem]); have c01 := hu.keep (w.heap.size) 1 (.int .i64 h) (by simp [go_sem]); have c02 := hu.keep (w.heap.size) 2 (.int .i64 l) (by simp [go_sem]); have c03 := hu.keep (w.heap.size) 3 (.slice A c k) (by simp [go_sem]); have c10 := hu.keep (w.heap.size + 1) 0 (.int .i64 0) (by simp [go_sem]); have c11 := hu.keep (w.heap.size + 1) 1 (.int .i64 0) (by simp [go_sem]); have c12 := hu.keep (w.heap.size + 1) 2 (.int .i64 0) (by simp [go_sem]); have c13 := hu.keep (w.heap.size + 1) 3 (.slice none 0 0) (by simp [go_sem]); have z10 := HU.out.ownGe (g := w.heap.size + 1) (by omega) 0; have z11 := HU.out.ownGe (g := w.heap.size + 1) (by omega) 1; have z12 := HU.out.ownGe (g := w.heap.size + 1) (by omega) 2; have z13 := HU.out.ownGe (g := w.heap.size + 1) (by omega) 3; clear hu))
  refine bodyPost_ret (v := .tuple #[.agg #[.int .i64 0, .int .i64 0, .int .i64 0, .slice none 0 0], .int .i64 1]) (by simp [results, Try.results26, go_sem, c10, c11, c12, c13]) rfl ⟨rfl, ?_⟩
  exact (HU.out.set4 (by omega))

set_option maxHeartbeats 4000000 in
set_option maxRecDepth 100000 in
theorem grow_good (c h k n : Nat) (A : Option Addr) (M : List It) (hc : 1 ≤ c) (hc' : c ≤ 65536) (hh : h < c) (hk : c ≤ k) (hM : M.length ≤ c) (hn : 1 ≤ n) (hn' : n ≤ 65536) (ht : M.length ≤ n) (w : World) (hS : Sl w A c (ofL c h M)) :
    Calls Try.prog 26 #[.agg #[.int .i64 c, .int .i64 h, .int .i64 M.length, .slice A c k], .int .i64 n] w fun e w' => ∃ g, e = .returned (.tuple #[.agg #[.int .i64 n, .int .i64 0, .int .i64 M.length, .slice (some ⟨g, 0, none⟩) n n], .int .i64 0]) ∧ w.heap.size ≤ g ∧ Bi w' g (ofL n 0 M) ∧ Up w w' := by
  have K1 := Lib.hid (val_good c h k A M hc hc' hh hM ((w.alloc (.cells #[.int .i64 c, .int .i64 h, .int .i64 M.length, .slice A c k] 24)).alloc (.cells #[.int .i64 0, .int .i64 0, .int .i64 0, .slice none 0 0] 24)) (hS.up (((Up.refl w).alloc _ _).alloc _ _)))
  have K2 : ∀ w1 w2, Up w w1 → w2 = w1.alloc (.cells (fl (List.replicate n (0, 0))).toArray 35) → Calls Try.prog 31 #[.slice (some ⟨w1.heap.size, 0, none⟩) M.length n, .agg #[.int .i64 c, .int .i64 h, .int .i64 M.length, .slice A c k]] w2.drew fun e w' => e = .returned (.tuple #[]) ∧ Wr w2 w' w1.heap.size w1.heap.size ∧ Up w w' ∧ Bi w' w1.heap.size (ofL n 0 M) := fun w1 w2 hu hw => by
    subst hw
    refine (copyEl c h k w1.heap.size n A M (List.replicate n (0, 0)) hc hc' hh hk hM (by simpa using ht) ht _ ((hS.up (hu.alloc _ _)).up (Up.refl _).drew) (Bi.new' _ _ _ rfl) (hS.ne (by omega) hu.size)).mono ?_
    rintro e w' ⟨rfl, h1, h2⟩
    refine ⟨rfl, (Wr.refl _ _ _).drew.trans h1, h1.up w (hu.alloc _ _).drew hu.size hu.size, ?_⟩
    rw [List.drop_replicate] at h2
    rw [of_zero n M ht]
    exact h2
  have H2 := Lib.hid K2
  have mk := fun W => make_run n hn' W
  have KV := Lib.hid (validCap_t (c := n) (Classical.not_not.2 ⟨by omega, by omega⟩))
  clear hS K2
  obtain ⟨l, hl⟩ : ∃ l, l = M.length := ⟨_, rfl⟩
  have HL := Lib.hid hl
  rw [← hl] at hM ht K1 H2 ⊢
  clear hl
  have t1 : decide (n < l) = false := decide_eq_false (by omega)
  have f1 : (0 : Int) ≤ l := by omega
  have f2 : (l : Int) ≤ n := by omega
  go_enter Try.func26, Try.ntmps26
  go_wp2_with (first
    | (go_at_call 29; refine (KV.out _).mono ?_; rintro e w' ⟨rfl, rfl⟩)
    | (go_at_call 13; refine K1.out.mono ?_; rintro e w1 ⟨rfl, hu⟩; have HU1 := Lib.hid ((((Up.refl w).alloc _ _).alloc _ _).trans hu); have c00 := hu.keep (w.heap.size) 0 (.int .i64 c) (by simp [go_sem]); have c01 := hu.keep (w.heap.size) 1 (.int .i64 h) (by simp [go_sem]); have c02 := hu.keep (w.heap.size) 2 (.int .i64 l) (by simp [go_sem]); have c03 := hu.keep (w.heap.size) 3 (.slice A c k) (by simp [go_sem]); have c10 := hu.keep (w.heap.size + 1) 0 (.int .i64 0) (by simp [go_sem]); have c11 := hu.keep (w.heap.size + 1) 1 (.int .i64 0) (by simp [go_sem]); have c12 := hu.keep (w.heap.size + 1) 2 (.int .i64 0) (by simp [go_sem]); have c13 := hu.keep (w.heap.size + 1) 3 (.slice none 0 0) (by simp [go_sem]); have hls := hu.size; (try simp at hls); clear hu))
  obtain ⟨w2, hw2⟩ : ∃ w2, w2 = w1.alloc (.cells (fl (List.replicate n (0, 0))).toArray 35) := ⟨_, rfl⟩
  rw [← hw2]
  have K3 := Lib.hid (H2.out w1 w2 HU1.out hw2)
  have HU2 : Hid (Up w1 w2) := Lib.hid (by rw [hw2]; exact (Up.refl _).alloc _ _)
  clear hw2 H2
  have d00 := HU2.out.keep _ _ _ c00
  have d01 := HU2.out.keep _ _ _ c01
  have d02 := HU2.out.keep _ _ _ c02
  have d03 := HU2.out.keep _ _ _ c03
  have d10 := HU2.out.keep _ _ _ c10
  have d11 := HU2.out.keep _ _ _ c11
  have d12 := HU2.out.keep _ _ _ c12
  have d13 := HU2.out.keep _ _ _ c13
  have HUw := Lib.hid (HU1.out.trans HU2.out)
  have hlt : w.heap.size + 1 < w1.heap.size := World.block_lt_of_cell? _ _ c10
  clear c00 c01 c02 c03 c10 c11 c12 c13
  have SS : Hid (Up w w2 ∧ w2.cell? ⟨w.heap.size, 0, none⟩ = some (.int .i64 c) ∧ w2.cell? ⟨w.heap.size, 1, none⟩ = some (.int .i64 h) ∧ w2.cell? ⟨w.heap.size, 2, none⟩ = some (.int .i64 l) ∧ w2.cell? ⟨w.heap.size, 3, none⟩ = some (.slice A c k)) := Lib.hid ⟨HUw.out, d00, d01, d02, d03⟩
  go_region_held3 (fun w' => Up w w' ∧ w'.cell? ⟨w.heap.size, 0, none⟩ = some (.int .i64 c) ∧ w'.cell? ⟨w.heap.size, 1, none⟩ = some (.int .i64 h) ∧ w'.cell? ⟨w.heap.size, 2, none⟩ = some (.int .i64 l) ∧ w'.cell? ⟨w.heap.size, 3, none⟩ = some (.slice A c k))
    (first | (with_reducible exact SS.out) | (with_reducible exact keep4 (Lib.hid (Up.refl _).drew) SS.out) | (with_reducible exact Hid.out (by assumption)))
    (first
      | (go_at_call 31; (with_reducible refine K3.out.mono ?_); rintro e w3 ⟨rfl, hW3, hu3, hb3⟩; have HW3 := Lib.hid hW3; have HU3 := Lib.hid hu3; have HB3 := Lib.hid hb3; have HS3 : Hid (Up w w3 ∧ w3.cell? ⟨w.heap.size, 0, none⟩ = some (.int .i64 c) ∧ w3.cell? ⟨w.heap.size, 1, none⟩ = some (.int .i64 h) ∧ w3.cell? ⟨w.heap.size, 2, none⟩ = some (.int .i64 l) ∧ w3.cell? ⟨w.heap.size, 3, none⟩ = some (.slice A c k)) := Lib.hid ⟨hu3, hW3.keep (by omega) (by omega) d00, hW3.keep (by omega) (by omega) d01, hW3.keep (by omega) (by omega) d02, hW3.keep (by omega) (by omega) d03⟩; clear hW3 hu3 hb3))
  clear ‹Up w _ ∧ _›
  have a2 := HS3.out.2.2.2.1
  have z10 := HW3.out.keep (b := w.heap.size + 1) (o := 0) (by omega) (by omega) d10
  have y10 := HU3.out.ownGe (g := w.heap.size + 1) (by omega) 0
  have z11 := HW3.out.keep (b := w.heap.size + 1) (o := 1) (by omega) (by omega) d11
  have y11 := HU3.out.ownGe (g := w.heap.size + 1) (by omega) 1
  have z12 := HW3.out.keep (b := w.heap.size + 1) (o := 2) (by omega) (by omega) d12
  have y12 := HU3.out.ownGe (g := w.heap.size + 1) (by omega) 2
  have z13 := HW3.out.keep (b := w.heap.size + 1) (o := 3) (by omega) (by omega) d13
  have y13 := HU3.out.ownGe (g := w.heap.size + 1) (by omega) 3
  clear d00 d01 d02 d03 d10 d11 d12 d13
  go_wp2_with fail
  refine bodyPost_ret (v := .tuple #[.agg #[.int .i64 n, .int .i64 0, .int .i64 l, .slice (some ⟨w1.heap.size, 0, none⟩) n n], .int .i64 0]) (by simp [results, Try.results26, go_sem, z10, z11, z12, z13]) rfl ⟨w1.heap.size, rfl, by omega, ?_, ?_⟩
  · exact HB3.out.far4 (p := w.heap.size + 1) (by omega)
  · exact HU3.out.set4 (p := w.heap.size + 1) (by omega)
end Go.Proofs.Ytjedcpfipebncaa
